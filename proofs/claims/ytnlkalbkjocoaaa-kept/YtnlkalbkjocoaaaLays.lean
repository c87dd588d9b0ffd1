/-
  What lay does to a map.
-/
import Derived.Test.YtnlkalbkjocoaaaWith2
namespace Go.Proofs.Ytnlkalbkjocoaaa
open Go.Shelf Go.RowKit

/-- Blocks with cells of other types are others. -/
theorem ne_of_type {w : World} {a b : Nat} {c d : Array Value} {t u : TypeId} (h : w.heap[a]? = some (.cells c t)) (k : w.heap[b]? = some (.cells d u)) (n : t ≠ u) : a ≠ b := by
  rintro rfl; rw [h] at k; cases k; exact n rfl

/-- All that lay there lies as it lay, but for one block. -/
structure KeptBut (own : Nat) (w w' : World) : Prop where
  os : w'.os = w.os
  tape : w'.tape = w.tape
  output : w'.output = w.output
  size : w.heap.size ≤ w'.heap.size
  block : ∀ j, j < w.heap.size → j ≠ own → w'.heap[j]? = w.heap[j]?

set_option maxRecDepth 100000 in
set_option maxHeartbeats 1600000 in
theorem lay_core (w : World) (bm bv i : Nat) (pv : Option Addr) (sx : Option Addr) (k : Nat) (A : World → Prop)
    (hm : w.cell? ⟨bm, 0, none⟩ = some (.pointer (some ⟨bv, 0, none⟩))) (hv : w.cell? ⟨bv, 0, none⟩ = some (.pointer pv))
    (hA : ∀ w1, A w1 → w1.cell? ⟨bm, 0, none⟩ = some (.pointer (some ⟨bv, 0, none⟩)) ∧ w1.frozen? ⟨bm, 0, none⟩ = false ∧ bm < w1.heap.size)
    (hc : Calls Try.prog 68 #[.agg #[.pointer pv], .int .i64 i, .pointer sx] w fun e w' => e = .returned (.agg #[.pointer (some ⟨k, 0, none⟩)]) ∧ A w') :
    Calls Try.prog 45 #[.pointer (some ⟨bm, 0, none⟩), .int .i64 i, .pointer sx] w fun e w' => e = .returned (.tuple #[]) ∧
      ∃ w1, A w1 ∧ w' = (w1.setCell ⟨bm, 0, none⟩ (.pointer (some ⟨w1.heap.size, 0, none⟩))).alloc (.cells #[.pointer (some ⟨k, 0, none⟩)] 96) := by
  have hsp := fun a x m w => run_store Try.prog w a (.pointer x) m rfl
  go_enter Try.func45, Try.ntmps45
  go_wp2_with fail
  refine hc.mono ?_
  rintro e w' ⟨rfl, hw⟩
  obtain ⟨hm1, hf1, hbm⟩ := hA w' hw
  go_wp2
  go_end0
  exact ⟨rfl, w', hw, rfl⟩

/-- A map in block bm, as it stands. -/
structure MapAt (w : World) (bm bv : Nat) (r : Option Nat) (g : Nat → Option Nat) : Prop where
  cell : ∃ c : Array Value, w.heap[bm]? = some (.cells c 67) ∧ c[0]? = some (.pointer (some ⟨bv, 0, none⟩))
  shelf : ShelfAt w bv r g
  lt : bm < w.heap.size

theorem MapAt.below {w w' : World} {bm bv : Nat} {r : Option Nat} {g : Nat → Option Nat} (h : MapAt w bm bv r g) (hb : Below w.heap.size w w') : MapAt w' bm bv r g :=
  ⟨by obtain ⟨c, h1, h2⟩ := h.cell; exact ⟨c, (hb.block _ h.lt).trans h1, h2⟩, h.shelf.below hb, Nat.lt_of_lt_of_le h.lt hb.size⟩
theorem MapAt.ptr {w : World} {bm bv : Nat} {r : Option Nat} {g : Nat → Option Nat} (h : MapAt w bm bv r g) : w.cell? ⟨bm, 0, none⟩ = some (.pointer (some ⟨bv, 0, none⟩)) := by
  obtain ⟨c, h1, h2⟩ := h.cell; rw [cell_of_row w bm 0 _ _ _ h1]; exact h2

theorem KeptBut.of_below {own : Nat} {w w' : World} (h : Below w.heap.size w w') : KeptBut own w w' := ⟨h.os, h.tape, h.output, h.size, fun j hj _ => h.block j hj⟩
theorem KeptBut.trans {own : Nat} {w w' w'' : World} (h : KeptBut own w w') (k : KeptBut own w' w'') : KeptBut own w w'' :=
  ⟨k.os.trans h.os, k.tape.trans h.tape, k.output.trans h.output, Nat.le_trans h.size k.size, fun j hj hn => (k.block j (Nat.lt_of_lt_of_le hj h.size) hn).trans (h.block j hj hn)⟩

/-- The map has another view. -/
def Laid (w w' : World) (bm : Nat) (g : Nat → Option Nat) : Prop := ∃ (bv : Nat) (r : Option Nat), MapAt w' bm bv r g ∧ KeptBut bm w w' ∧ (∀ c, w.heap[bm]? = some (.cells c 67) → w'.heap[bm]? = some (.cells (c.setIfInBounds 0 (.pointer (some ⟨bv, 0, none⟩))) 67)) ∧ w.heap.size ≤ bv

theorem lay_any (w : World) (bm bv i : Nat) (so : Option Nat) (r : Option Nat) (g : Nat → Option Nat) (h : MapAt w bm bv r g) (hi : i < 32) :
    Calls Try.prog 45 #[.pointer (some ⟨bm, 0, none⟩), .int .i64 i, ptr so] w fun e w' => e = .returned (.tuple #[]) ∧ Laid w w' bm (upd g i so) := by
  have hm := h.ptr
  obtain ⟨c, hcell, hc0⟩ := h.cell
  obtain ⟨ro, hview, hS⟩ := h.shelf.view
  have hf : w.frozen? ⟨bm, 0, none⟩ = false := frozen_of hcell
  have hv : w.cell? ⟨bv, 0, none⟩ = some (ptr ro) := by rw [cell_of_row w bv 0 _ _ _ hview]; rfl
  have h1 := lay_core w bm bv i (ro.map fun k => ⟨k, 0, none⟩) (so.map fun k => ⟨k, 0, none⟩) (w.heap.size + 2) (fun w' => ShelfOf w' (some (w.heap.size + 2)) (some (w.heap.size + 3)) (upd g i so) ∧ Below w.heap.size w w') hm hv
    (fun w1 ⟨_, hb⟩ => ⟨by rw [hb.cell (p := ⟨bm, 0, none⟩) h.lt]; exact hm, by rw [hb.frozen (p := ⟨bm, 0, none⟩) h.lt]; exact hf, Nat.lt_of_lt_of_le h.lt hb.size⟩) (with_any w ro r g hS i so hi)
  refine h1.mono ?_
  rintro e w' ⟨he, w1, ⟨hrow, hb⟩, rfl⟩
  have hsz := hb.size
  have hbm : bm < w1.heap.size := Nat.lt_of_lt_of_le h.lt hsz
  have hc1 : ∀ c, w.heap[bm]? = some (.cells c 67) → w1.heap[bm]? = some (.cells c 67) := fun c hc => (hb.block _ h.lt).trans hc
  have hnew : ∀ c, w.heap[bm]? = some (.cells c 67) → ((w1.setCell ⟨bm, 0, none⟩ (.pointer (some ⟨w1.heap.size, 0, none⟩))).alloc (.cells #[.pointer (some ⟨w.heap.size + 2, 0, none⟩)] 96)).heap[bm]? = some (.cells (c.setIfInBounds 0 (.pointer (some ⟨w1.heap.size, 0, none⟩))) 67) := fun c hc => by
    refine heap_old _ _ (by simp [World.setCell]; omega) ?_
    exact heap_setCell_same _ (hc1 c hc)
  have hkeep : ∀ j, j < w1.heap.size → j ≠ bm → ((w1.setCell ⟨bm, 0, none⟩ (.pointer (some ⟨w1.heap.size, 0, none⟩))).alloc (.cells #[.pointer (some ⟨w.heap.size + 2, 0, none⟩)] 96)).heap[j]? = w1.heap[j]? := fun j hj hn =>
    (heap_old _ _ (by simp [World.setCell]; omega) rfl).trans (heap_setCell_other _ _ _ _ hn)
  refine ⟨he, w1.heap.size, some (w.heap.size + 3), ⟨⟨_, hnew c hcell, ?_⟩, ⟨some (w.heap.size + 2), heap_last _ _ _ (by simp [World.setCell]), hrow.kept fun j c' t hj ht => hkeep j (Array.getElem?_eq_some_iff.1 hj).1 (ne_of_type hj (hc1 c hcell) (by rcases ht with rfl | rfl <;> decide))⟩, by simp [World.setCell]; omega⟩, ?_, hnew, hsz⟩
  · have : 0 < c.size := (Array.getElem?_eq_some_iff.1 hc0).1
    simp [this]
  · exact (KeptBut.of_below (own := bm) hb).trans ⟨rfl, rfl, rfl, by simp [World.setCell], hkeep⟩
end Go.Proofs.Ytnlkalbkjocoaaa
