/-
  What lay does to a map.
-/
import Derived.Test.YtbhhegpckcfbmaaWith2
namespace Go.Proofs.Ytbhhegpckcfbmaa
open Go.Shelf Go.RowKit

/-- All that lay there lies as it lay, but for one block. -/
structure KeptBut (own : Nat) (w w' : World) : Prop where
  os : w'.os = w.os
  tape : w'.tape = w.tape
  output : w'.output = w.output
  size : w.heap.size ≤ w'.heap.size
  block : ∀ j, j < w.heap.size → j ≠ own → w'.heap[j]? = w.heap[j]?

/-- A new view was laid down in w1, and the map made to point to it. -/
def LaidBy (A : World → Prop) (R : Array Value) (bm : Nat) (w' : World) : Prop := ∃ w1, A w1 ∧ w' = (w1.setCell ⟨bm, 0, none⟩ (.pointer (some ⟨w1.heap.size, 0, none⟩))).alloc (.cells R 86)

theorem rows_fold (k : Nat) : Array.foldl (fun (cs : Array Value) (x : Value × Nat) => cs.setIfInBounds x.snd x.fst) #[Value.pointer none, Value.pointer none, Value.pointer none, Value.pointer none, Value.pointer none, Value.pointer none, Value.pointer none, Value.pointer none, Value.pointer none, Value.pointer none, Value.pointer none, Value.pointer none, Value.pointer none, Value.pointer none, Value.pointer none, Value.pointer none, Value.pointer none, Value.pointer none, Value.pointer none, Value.pointer none, Value.pointer none, Value.pointer none, Value.pointer none, Value.pointer none, Value.pointer none, Value.pointer none, Value.pointer none, Value.pointer none, Value.pointer none, Value.pointer none, Value.pointer none, Value.pointer none] (rowsL (some k)).toArray.zipIdx 0 32 = (rowsL (some k)).toArray := by kernel_rfl

set_option maxRecDepth 100000 in
set_option maxHeartbeats 1600000 in
theorem lay_core (w : World) (bm bv i s : Nat) (R : Array Value) (A : World → Prop)
    (hm : w.cell? ⟨bm, 0, none⟩ = some (.pointer (some ⟨bv, 0, none⟩)))
    (hA : ∀ w1, A w1 → w1.cell? ⟨bm, 0, none⟩ = some (.pointer (some ⟨bv, 0, none⟩)) ∧ w1.frozen? ⟨bm, 0, none⟩ = false ∧ bm < w1.heap.size)
    (hRs : R.size = 32) (hF : Array.foldl (fun (cs : Array Value) (x : Value × Nat) => cs.setIfInBounds x.snd x.fst) #[Value.pointer none, Value.pointer none, Value.pointer none, Value.pointer none, Value.pointer none, Value.pointer none, Value.pointer none, Value.pointer none, Value.pointer none, Value.pointer none, Value.pointer none, Value.pointer none, Value.pointer none, Value.pointer none, Value.pointer none, Value.pointer none, Value.pointer none, Value.pointer none, Value.pointer none, Value.pointer none, Value.pointer none, Value.pointer none, Value.pointer none, Value.pointer none, Value.pointer none, Value.pointer none, Value.pointer none, Value.pointer none, Value.pointer none, Value.pointer none, Value.pointer none, Value.pointer none] R.zipIdx 0 32 = R)
    (hc : Calls Try.prog 57 #[.pointer (some ⟨bv, 0, none⟩), .int .i64 i, .pointer (some ⟨s, 0, none⟩)] w fun e w' => e = .returned (.agg R) ∧ A w') :
    Calls Try.prog 39 #[.pointer (some ⟨bm, 0, none⟩), .int .i64 i, .pointer (some ⟨s, 0, none⟩)] w fun e w' => e = .returned (.tuple #[]) ∧
      LaidBy A R bm w' := by
  have hsp := fun a x m w => run_store Try.prog w a (.pointer x) m rfl
  go_enter Try.func39, Try.ntmps39
  go_wp2_with fail
  refine hc.mono ?_
  rintro e w' ⟨rfl, hw⟩
  obtain ⟨hm1, hf1, hbm⟩ := hA w' hw
  go_wp2
  go_end0
  exact ⟨rfl, w', hw, rfl⟩

/-- A map in block bm, as it stands. -/
structure MapAt (w : World) (bm bv : Nat) (r : Option Nat) (g : Nat → Option Nat) : Prop where
  cell : w.heap[bm]? = some (.cells #[.pointer (some ⟨bv, 0, none⟩)] 66)
  shelf : ShelfAt w bv r g
  lt : bm < w.heap.size
  ne : bm ≠ bv
  ne' : ∀ k, r = some k → bm ≠ k

theorem MapAt.below {w w' : World} {bm bv : Nat} {r : Option Nat} {g : Nat → Option Nat} (h : MapAt w bm bv r g) (hb : Below w.heap.size w w') : MapAt w' bm bv r g :=
  ⟨(hb.block _ h.lt).trans h.cell, h.shelf.below hb, Nat.lt_of_lt_of_le h.lt hb.size, h.ne, h.ne'⟩

theorem KeptBut.of_below {own : Nat} {w w' : World} (h : Below w.heap.size w w') : KeptBut own w w' := ⟨h.os, h.tape, h.output, h.size, fun j hj _ => h.block j hj⟩
theorem KeptBut.trans {own : Nat} {w w' w'' : World} (h : KeptBut own w w') (k : KeptBut own w' w'') : KeptBut own w w'' :=
  ⟨k.os.trans h.os, k.tape.trans h.tape, k.output.trans h.output, Nat.le_trans h.size k.size, fun j hj hn => (k.block j (Nat.lt_of_lt_of_le hj h.size) hn).trans (h.block j hj hn)⟩

/-- The map has another view. -/
def Laid (w w' : World) (bm : Nat) (g : Nat → Option Nat) : Prop := ∃ (bv : Nat) (r : Option Nat), MapAt w' bm bv r g ∧ KeptBut bm w w'

theorem heap_setCell_other (w : World) (a : Addr) (v : Value) (j : Nat) (h : j ≠ a.block) : (w.setCell a v).heap[j]? = w.heap[j]? := by
  simp only [World.setCell]
  rw [Array.getElem?_modify, if_neg (fun e => h e.symm)]

theorem lay_any (w : World) (bm bv i s : Nat) (r : Option Nat) (g : Nat → Option Nat) (h : MapAt w bm bv r g) (hi : i < 32) :
    Calls Try.prog 39 #[.pointer (some ⟨bm, 0, none⟩), .int .i64 i, .pointer (some ⟨s, 0, none⟩)] w fun e w' => e = .returned (.tuple #[]) ∧ Laid w w' bm (upd g i s) := by
  have hm : w.cell? ⟨bm, 0, none⟩ = some (.pointer (some ⟨bv, 0, none⟩)) := by rw [cell_of_row w bm 0 _ _ _ h.cell]; rfl
  have hf : w.frozen? ⟨bm, 0, none⟩ = false := by simp [World.frozen?, h.cell]
  have h1 := lay_core w bm bv i s (rowsL (some (w.heap.size + 1))).toArray (fun w' => w'.heap[w.heap.size + 1]? = some (.cells (cellsL (upd g i s)).toArray 129) ∧ Below w.heap.size w w') hm
    (fun w1 ⟨_, hb⟩ => ⟨by rw [hb.cell (p := ⟨bm, 0, none⟩) h.lt]; exact hm, by rw [hb.frozen (p := ⟨bm, 0, none⟩) h.lt]; exact hf, Nat.lt_of_lt_of_le h.lt hb.size⟩) (by simp [rowsL_len]) (rows_fold _) (with_any w bv r g h.shelf i s hi)
  refine h1.mono ?_
  rintro e w' ⟨he, w1, ⟨hrow, hb⟩, rfl⟩
  refine ⟨he, w1.heap.size, some (w.heap.size + 1), ?_, ?_⟩
  · have hsz := hb.size
    have hlt : w.heap.size + 1 < w1.heap.size := (Array.getElem?_eq_some_iff.1 hrow).1
    have hbm : bm < w1.heap.size := Nat.lt_of_lt_of_le h.lt hsz
    refine ⟨?_, ⟨?_, ?_, ?_, ?_, ?_, ?_⟩, ?_, ?_, ?_⟩
    · refine heap_old _ _ (by simp [World.setCell]; omega) ?_
      have hc1 := (hb.block _ h.lt).trans h.cell
      simp only [World.setCell]
      rw [Array.getElem?_modify, if_pos rfl, hc1]; rfl
    · exact heap_last _ _ _ (by simp [World.setCell])
    · intro k e; cases e
      exact heap_old _ _ (by simp [World.setCell]; omega) ((heap_setCell_other _ _ _ _ (by show _ ≠ bm; have := h.lt; omega)).trans hrow)
    · intro e; cases e
    · intro j hj
      show upd g i s j = none
      unfold upd; rw [if_neg (by omega)]; exact h.shelf.out j hj
    · simp [World.setCell]
    · intro k e; cases e; simp [World.setCell]; omega
    · simp [World.setCell]; omega
    · omega
    · intro k e; cases e; have := h.lt; omega
  · have hb2 := KeptBut.of_below (own := bm) hb
    refine hb2.trans ⟨rfl, rfl, rfl, by simp [World.setCell], fun j hj hn => ?_⟩
    exact (heap_old _ _ (by simp [World.setCell]; omega) rfl).trans (heap_setCell_other _ _ _ _ hn)
end Go.Proofs.Ytbhhegpckcfbmaa
