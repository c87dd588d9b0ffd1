/-
  A shelf: what it holds, and what Find answers.
-/
import Derived.Test.YtnlkalbkjocoaaaPts
import Derived.Deep.WholeRow
namespace Go.Proofs.Ytnlkalbkjocoaaa
open Go.Shelf Go.RowKit

/-- A pointer to a whole block, or nil. -/
def ptr (x : Option Nat) : Value := .pointer (x.map fun k => ⟨k, 0, none⟩)
/-- The rows of a shelf of which the first one alone may be there. -/
def rowsL (r : Option Nat) : List Value := ptr r :: List.replicate 31 (.pointer none)
/-- What a row has. -/
def cellsL (g : Nat → Option Nat) : List Value := (List.range 32).map fun i => ptr (g i)
theorem cellsL_len (g : Nat → Option Nat) : (cellsL g).length = 32 := by simp [cellsL]
theorem rowsL_len (r : Option Nat) : (rowsL r).length = 32 := by simp [rowsL]

/-- The shelf whose rows lie in ro has the shapes in the blocks g, by their ids; all are less than 32. -/
structure ShelfOf (w : World) (ro r : Option Nat) (g : Nat → Option Nat) : Prop where
  rows : ∀ k, ro = some k → w.heap[k]? = some (.cells (rowsL r).toArray 150)
  row : ∀ k, r = some k → w.heap[k]? = some (.cells (cellsL g).toArray 153)
  nil : ro = none → r = none
  empty : r = none → ∀ i, g i = none
  out : ∀ i, 32 ≤ i → g i = none

theorem ShelfOf.lt {w : World} {ro r : Option Nat} {g : Nat → Option Nat} (h : ShelfOf w ro r g) (k : Nat) (e : ro = some k) : k < w.heap.size := (Array.getElem?_eq_some_iff.1 (h.rows k e)).1
theorem ShelfOf.lt' {w : World} {ro r : Option Nat} {g : Nat → Option Nat} (h : ShelfOf w ro r g) (k : Nat) (e : r = some k) : k < w.heap.size := (Array.getElem?_eq_some_iff.1 (h.row k e)).1

theorem ShelfOf.first {w : World} {b : Nat} {r : Option Nat} {g : Nat → Option Nat} (h : ShelfOf w (some b) r g) : w.cell? ⟨b, 0, none⟩ = some (ptr r) := by rw [cell_of_row w b 0 _ _ _ (h.rows b rfl)]; rfl
theorem ShelfOf.later {w : World} {b : Nat} {r : Option Nat} {g : Nat → Option Nat} (h : ShelfOf w (some b) r g) (q : Nat) (h0 : 0 < q) (h1 : q < 32) : w.cell? ⟨b, q, none⟩ = some (.pointer none) := by
  rw [cell_of_row w b q _ _ _ (h.rows b rfl)]
  obtain ⟨k, rfl⟩ : ∃ k, q = k + 1 := ⟨q - 1, by omega⟩
  unfold rowsL
  rw [List.getElem?_toArray, List.getElem?_cons_succ, List.getElem?_replicate, if_pos (by omega)]
theorem ShelfOf.shape {w : World} {ro : Option Nat} {k : Nat} {g : Nat → Option Nat} (h : ShelfOf w ro (some k) g) (i : Nat) (hi : i < 32) : w.cell? ⟨k, i, none⟩ = some (ptr (g i)) := by
  rw [cell_of_row w k i _ _ _ (h.row k rfl), List.getElem?_toArray]
  unfold cellsL; rw [List.getElem?_map, List.getElem?_range hi]; rfl

/-- It stays as it is where blocks of its kinds are kept. -/
theorem ShelfOf.kept {w w' : World} {ro r : Option Nat} {g : Nat → Option Nat} (h : ShelfOf w ro r g) (hk : ∀ (j : Nat) (c : Array Value) (t : TypeId), w.heap[j]? = some (Obj.cells c t) → (t = 150 ∨ t = 153) → w'.heap[j]? = w.heap[j]?) : ShelfOf w' ro r g :=
  ⟨fun k e => (hk _ _ _ (h.rows k e) (.inl rfl)).trans (h.rows k e), fun k e => (hk _ _ _ (h.row k e) (.inr rfl)).trans (h.row k e), h.nil, h.empty, h.out⟩
theorem ShelfOf.below {w w' : World} {ro r : Option Nat} {g : Nat → Option Nat} (h : ShelfOf w ro r g) (hb : Below w.heap.size w w') : ShelfOf w' ro r g :=
  h.kept fun j _ _ hj _ => hb.block j (Array.getElem?_eq_some_iff.1 hj).1

/-- The shelf of the view in block b. -/
structure ShelfAt (w : World) (b : Nat) (r : Option Nat) (g : Nat → Option Nat) : Prop where
  view : ∃ ro, w.heap[b]? = some (.cells #[ptr ro] 96) ∧ ShelfOf w ro r g
theorem ShelfAt.lt {w : World} {b : Nat} {r : Option Nat} {g : Nat → Option Nat} (h : ShelfAt w b r g) : b < w.heap.size := by
  obtain ⟨ro, h1, -⟩ := h.view; exact (Array.getElem?_eq_some_iff.1 h1).1
theorem ShelfAt.out {w : World} {b : Nat} {r : Option Nat} {g : Nat → Option Nat} (h : ShelfAt w b r g) : ∀ i, 32 ≤ i → g i = none := by
  obtain ⟨ro, -, h1⟩ := h.view; exact h1.out
theorem ShelfAt.kept {w w' : World} {b : Nat} {r : Option Nat} {g : Nat → Option Nat} (h : ShelfAt w b r g) (hb : w'.heap[b]? = w.heap[b]?) (hk : ∀ (j : Nat) (c : Array Value) (t : TypeId), w.heap[j]? = some (Obj.cells c t) → (t = 150 ∨ t = 153) → w'.heap[j]? = w.heap[j]?) : ShelfAt w' b r g := by
  obtain ⟨ro, h1, h2⟩ := h.view
  exact ⟨ro, hb.trans h1, h2.kept hk⟩
theorem ShelfAt.below {w w' : World} {b : Nat} {r : Option Nat} {g : Nat → Option Nat} (h : ShelfAt w b r g) (hb : Below w.heap.size w w') : ShelfAt w' b r g :=
  h.kept (hb.block _ h.lt) fun j _ _ hj _ => hb.block j (Array.getElem?_eq_some_iff.1 hj).1

theorem div32 (i : Nat) (h : i < 1000) : IntKind.i64.wrap (Int.tdiv (i : Int) 32) = ((i / 32 : Nat) : Int) := by
  rw [IntKind.wrap_i64]
  have : Int.tdiv (i : Int) 32 = ((i / 32 : Nat) : Int) := by rw [Int.tdiv_eq_ediv_of_nonneg (by omega)]; omega
  rw [this]; omega
theorem mod32 (i : Nat) (h : i < 1000) : Int.tmod (i : Int) 32 = ((i % 32 : Nat) : Int) := by
  rw [Int.tmod_eq_emod_of_nonneg (by omega)]; omega

set_option maxHeartbeats 400000 in
theorem find_any (w : World) (ro r : Option Nat) (g : Nat → Option Nat) (h : ShelfOf w ro r g) (i : Nat) (hi : i < 1000) :
    Calls Try.prog 67 #[.agg #[ptr ro], .int .i64 i] w fun e w' => e = .returned (ptr (g i)) ∧ w' = w.alloc (.cells #[ptr ro] 94) := by
  have hd := div32 i hi
  have hm := mod32 i hi
  cases ro with
  | none =>
    rw [h.empty (h.nil rfl)]
    unfold ptr at *
    simp only [Option.map_none] at *
    clear h
    go_enter Try.func67, Try.ntmps67
    go_wp2
    go_ret
    exact ⟨rfl, rfl⟩
  | some b =>
    have hbl := h.lt b rfl
    by_cases h32 : i < 32
    · have e0 : i / 32 = 0 := by omega
      have e1 : i % 32 = i := by omega
      rw [e0] at hd
      rw [e1] at hm
      have c0 : ∀ o, (w.alloc o).cell? ⟨b, 0, none⟩ = some (ptr r) := fun o => by rw [World.cell?_alloc_lt _ _ _ hbl]; exact h.first
      cases r with
      | none =>
        rw [h.empty rfl]
        unfold ptr at *
        simp only [Option.map_none, Option.map_some] at *
        clear h
        go_enter Try.func67, Try.ntmps67
        go_wp2
        go_ret
        exact ⟨rfl, rfl⟩
      | some k =>
        have hkl := h.lt' k rfl
        have c1 : ∀ o, (w.alloc o).cell? ⟨k, i, none⟩ = some (ptr (g i)) := fun o => by rw [World.cell?_alloc_lt _ _ _ hkl]; exact h.shape i h32
        have e2 : (i : Int) < 32 := by omega
        obtain ⟨p, hp⟩ : ∃ p, ptr (g i) = .pointer p := ⟨_, rfl⟩
        rw [hp] at c1 ⊢
        unfold ptr at *
        simp only [Option.map_some] at *
        clear h hp
        go_enter Try.func67, Try.ntmps67
        go_wp2
        go_ret
        exact ⟨rfl, rfl⟩
    · have c0 : ∀ o, (w.alloc o).cell? ⟨b, i / 32, none⟩ = some (.pointer none) := fun o => by rw [World.cell?_alloc_lt _ _ _ hbl]; exact h.later (i / 32) (by omega) (by omega)
      rw [h.out i (by omega)]
      generalize hq : i / 32 = q at *
      have e2 : (q : Int) < 32 := by omega
      unfold ptr
      simp only [Option.map_some, Option.map_none]
      clear h
      go_enter Try.func67, Try.ntmps67
      go_wp2
      go_ret
      exact ⟨rfl, rfl⟩
end Go.Proofs.Ytnlkalbkjocoaaa
