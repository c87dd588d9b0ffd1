/-
  A shelf: what it holds, and what Find answers.
-/
import Derived.Test.YtbhhegpckcfbmaaBox
import Derived.Test.YtbhhegpckcfbmaaCmp
import Derived.Deep.WholeRow
namespace Go.Proofs.Ytbhhegpckcfbmaa
open Go.Shelf Go.RowKit

/-- A pointer to a whole block, or nil. -/
def ptr (x : Option Nat) : Value := .pointer (x.map fun k => ⟨k, 0, none⟩)
/-- The rows of a shelf of which the first one alone may be there. -/
def rowsL (r : Option Nat) : List Value := ptr r :: List.replicate 31 (.pointer none)
/-- What a row has. -/
def cellsL (g : Nat → Option Nat) : List Value := (List.range 32).map fun i => ptr (g i)
theorem cellsL_len (g : Nat → Option Nat) : (cellsL g).length = 32 := by simp [cellsL]
theorem rowsL_len (r : Option Nat) : (rowsL r).length = 32 := by simp [rowsL]

/-- The shelf in block b has the shapes in the blocks g, by their ids; all are less than 32. -/
structure ShelfAt (w : World) (b : Nat) (r : Option Nat) (g : Nat → Option Nat) : Prop where
  rows : w.heap[b]? = some (.cells (rowsL r).toArray 86)
  row : ∀ k, r = some k → w.heap[k]? = some (.cells (cellsL g).toArray 129)
  empty : r = none → ∀ i, g i = none
  out : ∀ i, 32 ≤ i → g i = none
  lt : b < w.heap.size
  lt' : ∀ k, r = some k → k < w.heap.size

theorem ShelfAt.first {w : World} {b : Nat} {r : Option Nat} {g : Nat → Option Nat} (h : ShelfAt w b r g) : w.cell? ⟨b, 0, none⟩ = some (ptr r) := by rw [cell_of_row w b 0 _ _ _ h.rows]; rfl
theorem ShelfAt.later {w : World} {b : Nat} {r : Option Nat} {g : Nat → Option Nat} (h : ShelfAt w b r g) (q : Nat) (h0 : 0 < q) (h1 : q < 32) : w.cell? ⟨b, q, none⟩ = some (.pointer none) := by
  rw [cell_of_row w b q _ _ _ h.rows]
  obtain ⟨k, rfl⟩ : ∃ k, q = k + 1 := ⟨q - 1, by omega⟩
  unfold rowsL
  rw [List.getElem?_toArray, List.getElem?_cons_succ, List.getElem?_replicate, if_pos (by omega)]
theorem ShelfAt.shape {w : World} {b k : Nat} {g : Nat → Option Nat} (h : ShelfAt w b (some k) g) (i : Nat) (hi : i < 32) : w.cell? ⟨k, i, none⟩ = some (ptr (g i)) := by
  rw [cell_of_row w k i _ _ _ (h.row k rfl), List.getElem?_toArray]
  unfold cellsL; rw [List.getElem?_map, List.getElem?_range hi]; rfl

theorem ShelfAt.kept {w w' : World} {b : Nat} {r : Option Nat} {g : Nat → Option Nat} (h : ShelfAt w b r g) (hs : w.heap.size ≤ w'.heap.size) (hb : w'.heap[b]? = w.heap[b]?) (hk : ∀ k, r = some k → w'.heap[k]? = w.heap[k]?) : ShelfAt w' b r g := by
  exact ⟨hb.trans h.rows, fun k e => (hk k e).trans (h.row k e), h.empty, h.out, Nat.lt_of_lt_of_le h.lt hs, fun k e => Nat.lt_of_lt_of_le (h.lt' k e) hs⟩

theorem ShelfAt.below {w w' : World} {b : Nat} {r : Option Nat} {g : Nat → Option Nat} (h : ShelfAt w b r g) (hb : Below w.heap.size w w') : ShelfAt w' b r g :=
  h.kept hb.size (hb.block _ h.lt) (fun k e => hb.block _ (h.lt' k e))

theorem div32 (i : Nat) (h : i < 1000) : IntKind.i64.wrap (Int.tdiv (i : Int) 32) = ((i / 32 : Nat) : Int) := by
  rw [IntKind.wrap_i64]
  have : Int.tdiv (i : Int) 32 = ((i / 32 : Nat) : Int) := by rw [Int.tdiv_eq_ediv_of_nonneg (by omega)]; omega
  rw [this]; omega
theorem mod32 (i : Nat) (h : i < 1000) : Int.tmod (i : Int) 32 = ((i % 32 : Nat) : Int) := by
  rw [Int.tmod_eq_emod_of_nonneg (by omega)]; omega

set_option maxHeartbeats 400000 in
theorem find_any (w : World) (b : Nat) (r : Option Nat) (g : Nat → Option Nat) (h : ShelfAt w b r g) (i : Nat) (hi : i < 1000) :
    Calls Try.prog 56 #[.pointer (some ⟨b, 0, none⟩), .int .i64 i] w fun e w' => e = .returned (ptr (g i)) ∧ w' = w := by
  have hd := div32 i hi
  have hm := mod32 i hi
  by_cases h32 : i < 32
  · have e0 : i / 32 = 0 := by omega
    have e1 : i % 32 = i := by omega
    rw [e0] at hd
    rw [e1] at hm
    have c0 := h.first
    cases r with
    | none =>
      rw [h.empty rfl]
      unfold ptr at *
      clear h
      go_enter Try.func56, Try.ntmps56
      go_wp2
      go_ret
      exact ⟨rfl, rfl⟩
    | some k =>
      have c1 := h.shape i h32
      have e2 : (i : Int) < 32 := by omega
      obtain ⟨p, hp⟩ : ∃ p, ptr (g i) = .pointer p := ⟨_, rfl⟩
      rw [hp] at c1 ⊢
      unfold ptr at *
      simp only [Option.map_some] at c0
      clear h hp
      go_enter Try.func56, Try.ntmps56
      go_wp2
      go_ret
      exact ⟨rfl, rfl⟩
  · have c0 := h.later (i / 32) (by omega) (by omega)
    rw [h.out i (by omega)]
    generalize hq : i / 32 = q at *
    have e2 : (q : Int) < 32 := by omega
    unfold ptr
    clear h
    go_enter Try.func56, Try.ntmps56
    go_wp2
    go_ret
    exact ⟨rfl, rfl⟩
end Go.Proofs.Ytbhhegpckcfbmaa
