/-
  What With does to a shelf.
-/
import Derived.Test.YtnlkalbkjocoaaaWith
namespace Go.Proofs.Ytnlkalbkjocoaaa
open Go.Shelf Go.RowKit

theorem heap_setCell_other (w : World) (a : Addr) (v : Value) (j : Nat) (h : j ≠ a.block) : (w.setCell a v).heap[j]? = w.heap[j]? := by
  simp only [World.setCell]
  rw [Array.getElem?_modify, if_neg (fun e => h e.symm)]
theorem heap_setCell_same {w : World} {b i : Nat} {c : Array Value} {t : TypeId} (v : Value) (h : w.heap[b]? = some (.cells c t)) : (w.setCell ⟨b, i, none⟩ v).heap[b]? = some (.cells (c.setIfInBounds i v) t) := by
  simp only [World.setCell]
  rw [Array.getElem?_modify, if_pos rfl, h]; rfl
theorem infoShelf : (Try.prog.info? 94).map (·.size) = some 1 := by kernel_rfl
theorem frozen_of {w : World} {b i : Nat} {c : Array Value} {t : TypeId} (h : w.heap[b]? = some (.cells c t)) : w.frozen? ⟨b, i, none⟩ = false := by simp [World.frozen?, h]

set_option maxRecDepth 100000 in
set_option maxHeartbeats 800000 in
theorem with_any (w : World) (ro r : Option Nat) (g : Nat → Option Nat) (h : ShelfOf w ro r g) (i : Nat) (so : Option Nat) (hi : i < 32) :
    Calls Try.prog 68 #[.agg #[ptr ro], .int .i64 i, ptr so] w fun e w' => e = .returned (.agg #[.pointer (some ⟨w.heap.size + 2, 0, none⟩)]) ∧
      ShelfOf w' (some (w.heap.size + 2)) (some (w.heap.size + 3)) (upd g i so) ∧ Below w.heap.size w w' := by
  have hd := div32 i (by omega)
  have hm := mod32 i (by omega)
  have e0 : i / 32 = 0 := by omega
  have e1 : i % 32 = i := by omega
  rw [e0] at hd
  rw [e1] at hm
  have e2 : (i : Int) < 32 := by omega
  have HU : Hid (∀ w', Below w.heap.size w w' → ShelfOf w' ro r g) := fun w' hb => h.below hb
  have HO : Hid (∀ j, 32 ≤ j → g j = none) := h.out
  have c1 : ∀ w1, Below w.heap.size w w1 → _ := fun w1 hb => copiedRows_any w1 ro r g (h.below hb)
  have c2 : ∀ w1, Below w.heap.size w w1 → _ := fun w1 hb => copiedRow_any w1 ro r g (h.below hb)
  clear h
  obtain ⟨pro, hpro⟩ : ∃ x, ptr ro = .pointer x := ⟨_, rfl⟩
  obtain ⟨pr, hpr⟩ : ∃ x, ptr r = .pointer x := ⟨_, rfl⟩
  obtain ⟨ps, hps⟩ : ∃ x, ptr so = .pointer x := ⟨_, rfl⟩
  have HP : Hid (ptr r = .pointer pr) := hpr
  have HS : Hid (ptr so = .pointer ps) := hps
  rw [hpro] at c1 ⊢
  rw [hpr] at c2
  rw [hps]
  clear hpro hpr hps
  have B2 : ∀ o1 o2, Below w.heap.size w ((w.alloc o1).alloc o2) := fun o1 o2 => ((Below.refl _ _).alloc (Nat.le_refl _) _).alloc (by simp) _
  go_enter Try.func68, Try.ntmps68
  go_wp2_with fail
  refine (c1 _ (B2 _ _)).mono ?_
  rintro e w3 ⟨rfl, hw3⟩
  have hB3 : Below w.heap.size w w3 := by rw [hw3]; exact (B2 _ _).alloc (by simp; omega) _
  have hs3 : w3.heap.size = w.heap.size + 3 := by rw [hw3]; simp
  have h32 : w3.heap[w.heap.size + 2]? = some (.cells (rowsL r).toArray 150) := by rw [hw3]; exact heap_last _ _ _ (by simp)
  have h31 : w3.heap[w.heap.size + 1]? = some (.cells #[.pointer none] 94) := by rw [hw3]; exact heap_old _ _ (by simp) (heap_last _ _ _ (by simp))
  have k0 : w3.cell? ⟨w.heap.size + 2, 0, none⟩ = some (.pointer pr) := by rw [cell_of_row _ _ 0 _ _ _ h32, ← HP.out]; rfl
  clear hw3
  simp only [World.size_alloc, Nat.add_assoc, Nat.reduceAdd]
  go_wp2_with fail
  refine (c2 _ hB3).mono ?_
  rintro e w4 ⟨rfl, hw4⟩
  have hB4 : Below w.heap.size w w4 := by rw [hw4]; exact hB3.alloc (by omega) _
  have hs4 : w4.heap.size = w.heap.size + 4 := by rw [hw4]; simp; omega
  have h43 : w4.heap[w.heap.size + 3]? = some (.cells (cellsL g).toArray 153) := by rw [hw4]; exact heap_last _ _ _ (by omega)
  have h42 : w4.heap[w.heap.size + 2]? = some (.cells (rowsL r).toArray 150) := by rw [hw4]; exact heap_old _ _ (by omega) h32
  have h41 : w4.heap[w.heap.size + 1]? = some (.cells #[.pointer none] 94) := by rw [hw4]; exact heap_old _ _ (by omega) h31
  have q3 : w4.cell? ⟨w.heap.size + 3, i, none⟩ = some (ptr (g i)) := by
    rw [cell_of_row _ _ i _ _ _ h43, List.getElem?_toArray]
    unfold cellsL; rw [List.getElem?_map, List.getElem?_range hi]; rfl
  have q3f : w4.frozen? ⟨w.heap.size + 3, i, none⟩ = false := frozen_of h43
  have h42' : ∀ v, (w4.setCell ⟨w.heap.size + 3, i, none⟩ v).heap[w.heap.size + 2]? = some (.cells (rowsL r).toArray 150) := fun v => (heap_setCell_other _ _ _ _ (by show _ ≠ w.heap.size + 3; omega)).trans h42
  have q2 : ∀ v, (w4.setCell ⟨w.heap.size + 3, i, none⟩ v).cell? ⟨w.heap.size + 2, 0, none⟩ = some (ptr r) := fun v => by rw [cell_of_row _ _ 0 _ _ _ (h42' v)]; rfl
  have q2f : ∀ v, (w4.setCell ⟨w.heap.size + 3, i, none⟩ v).frozen? ⟨w.heap.size + 2, 0, none⟩ = false := fun v => frozen_of (h42' v)
  have h41' : ∀ v u, ((w4.setCell ⟨w.heap.size + 3, i, none⟩ v).setCell ⟨w.heap.size + 2, 0, none⟩ u).heap[w.heap.size + 1]? = some (.cells #[.pointer none] 94) := fun v u => (heap_setCell_other _ _ _ _ (by show _ ≠ w.heap.size + 2; omega)).trans ((heap_setCell_other _ _ _ _ (by show _ ≠ w.heap.size + 3; omega)).trans h41)
  have q1 : ∀ v u, ((w4.setCell ⟨w.heap.size + 3, i, none⟩ v).setCell ⟨w.heap.size + 2, 0, none⟩ u).cell? ⟨w.heap.size + 1, 0, none⟩ = some (.pointer none) := fun v u => by rw [cell_of_row _ _ 0 _ _ _ (h41' v u)]; rfl
  have q1f : ∀ v u, ((w4.setCell ⟨w.heap.size + 3, i, none⟩ v).setCell ⟨w.heap.size + 2, 0, none⟩ u).frozen? ⟨w.heap.size + 1, 0, none⟩ = false := fun v u => frozen_of (h41' v u)
  obtain ⟨px, hpx⟩ : ∃ x, ptr (g i) = .pointer x := ⟨_, rfl⟩
  rw [hpx] at q3
  rw [HP.out] at q2
  have hsp := fun a x m w => run_store Try.prog w a (.pointer x) m rfl
  rw [hs3]
  have HH : Hid (w4.heap[w.heap.size + 3]? = some (.cells (cellsL g).toArray 153) ∧ Below w.heap.size w w4) := ⟨h43, hB4⟩
  clear hw4 hpx h32 h31 k0 hs3 hB3 h43 h42 h41 hB4
  clear c1 c2 B2
  go_wp2_with fail
  have H5a : ∀ v u, ((w4.setCell ⟨w.heap.size + 3, i, none⟩ v).setCell ⟨w.heap.size + 2, 0, none⟩ u).heap[w.heap.size + 3]? = some (.cells ((cellsL g).toArray.setIfInBounds i v) 153) := fun v u => (heap_setCell_other _ _ _ _ (by show _ ≠ w.heap.size + 2; omega)).trans (heap_setCell_same _ HH.out.1)
  have H5b : ∀ v u, ((w4.setCell ⟨w.heap.size + 3, i, none⟩ v).setCell ⟨w.heap.size + 2, 0, none⟩ u).heap[w.heap.size + 2]? = some (.cells ((rowsL r).toArray.setIfInBounds 0 u) 150) := fun v u => heap_setCell_same _ (h42' v)
  have H5c : ∀ v u, Below w.heap.size w ((w4.setCell ⟨w.heap.size + 3, i, none⟩ v).setCell ⟨w.heap.size + 2, 0, none⟩ u) := fun v u => (HH.out.2.setCell (p := ⟨w.heap.size + 3, i, none⟩) (by show _ ≤ w.heap.size + 3; omega) v).setCell (p := ⟨w.heap.size + 2, 0, none⟩) (by show _ ≤ w.heap.size + 2; omega) u
  have H6 : ∀ (W : World) (x : Value), W.heap[w.heap.size + 1]? = some (.cells #[.pointer none] 94) → (W.setCell ⟨w.heap.size + 1, 0, none⟩ x).heap[w.heap.size + 1]? = some (.cells #[x] 94) := fun W x hW => heap_setCell_same _ hW
  refine bodyPost_ret (v := .agg #[.pointer (some ⟨w.heap.size + 2, 0, none⟩)]) (results_cell_row rfl _ _ (w.heap.size + 1) 94 #[.pointer (some ⟨w.heap.size + 2, 0, none⟩)] (0, 0) _ rfl (H6 _ _ (h41' _ _)) Try.underlying94 rfl infoShelf) rfl ⟨rfl, ⟨?_, ?_, (fun e => nomatch e), (fun e => nomatch e), fun j hj => ?_⟩, ?_⟩
  · intro k e; cases e
    refine (heap_setCell_other _ _ _ _ (by show _ ≠ w.heap.size + 1; omega)).trans ((H5b _ _).trans ?_)
    rw [rows_set]
  · intro k e; cases e
    refine (heap_setCell_other _ _ _ _ (by show _ ≠ w.heap.size + 1; omega)).trans ((H5a _ _).trans ?_)
    rw [List.setIfInBounds_toArray, ← HS.out, cells_set g i so hi]
  · unfold upd; rw [if_neg (by omega)]; exact HO.out j hj
  · exact (H5c _ _).setCell (p := ⟨w.heap.size + 1, 0, none⟩) (by show _ ≤ w.heap.size + 1; omega) _
end Go.Proofs.Ytnlkalbkjocoaaa
