/-
  What With does to a shelf that has a row.
-/
import Derived.Test.YtbhhegpckcfbmaaWith
namespace Go.Proofs.Ytbhhegpckcfbmaa
open Go.Shelf Go.RowKit

set_option maxRecDepth 100000 in
set_option maxHeartbeats 1600000 in
theorem with_some_core (w : World) (b k : Nat) (R : Array Value) (i s : Nat) (hi : i < 32) (hb : b < w.heap.size) (hR : w.heap[b]? = some (.cells R 86)) (hRs : R.size = 32) (hR1 : R.all (·.oneCell') = true) (hR0 : R[0]? = some (.pointer (some ⟨k, 0, none⟩)))
    (L : Array Value) (hk : k < w.heap.size) (hL : w.heap[k]? = some (.cells L 129)) (hLs : L.size = 32) (hL1 : L.all (·.oneCell') = true) (u : Value) (_hLi : L[i]? = some u) :
    Calls Try.prog 57 #[.pointer (some ⟨b, 0, none⟩), .int .i64 i, .pointer (some ⟨s, 0, none⟩)] w fun e w' => e = .returned (.agg (R.setIfInBounds 0 (.pointer (some ⟨w.heap.size + 1, 0, none⟩)))) ∧
      w'.heap[w.heap.size + 1]? = some (.cells (L.setIfInBounds i (.pointer (some ⟨s, 0, none⟩))) 129) ∧ Below w.heap.size w w' := by
  have hd := div32 i (by omega)
  have hm := mod32 i (by omega)
  have e0 : i / 32 = 0 := by omega
  have e1 : i % 32 = i := by omega
  rw [e0] at hd
  rw [e1] at hm
  have e2 : (i : Int) < 32 := by omega
  have c0 : ∀ o1 o2, ((w.alloc o1).alloc o2).cell? ⟨b, 0, none⟩ = some (.pointer (some ⟨k, 0, none⟩)) := fun o1 o2 => by
    rw [World.cell?_alloc_lt _ _ _ (by simp; omega), World.cell?_alloc_lt _ _ _ hb, cell_of_row w b 0 _ _ _ hR]; exact hR0
  have h2 : ∀ o1 o2, ((w.alloc o1).alloc o2).heap[b]? = some (.cells R 86) := fun o1 o2 => heap_old _ _ (by simp; omega) (heap_old _ _ hb hR)
  have h3 : ∀ o1 o2, ((w.alloc o1).alloc o2).heap[k]? = some (.cells L 129) := fun o1 o2 => heap_old _ _ (by simp; omega) (heap_old _ _ hk hL)
  have hi129 : (Try.prog.info? 129).map (·.size) = some L.size := by rw [hLs]; exact info129
  have hsp := fun a x m w => run_store Try.prog w a (.pointer x) m rfl
  have hi84 : (Try.prog.info? 84).map (·.size) = some R.size := by rw [hRs]; exact info84
  have hsz : (R.setIfInBounds 0 (.pointer (some ⟨w.heap.size + 1, 0, none⟩))).size = 32 := by simp [hRs]
  have hiS : (Try.prog.info? 84).map (·.size) = some (R.setIfInBounds 0 (.pointer (some ⟨w.heap.size + 1, 0, none⟩))).size := by rw [hsz]; exact info84
  have hone : (R.setIfInBounds 0 (.pointer (some ⟨w.heap.size + 1, 0, none⟩))).all (·.oneCell') = true := all_set hR1 _ _ rfl
  have hZ : (#[Value.pointer none, Value.pointer none, Value.pointer none, Value.pointer none, Value.pointer none, Value.pointer none, Value.pointer none, Value.pointer none, Value.pointer none, Value.pointer none, Value.pointer none, Value.pointer none, Value.pointer none, Value.pointer none, Value.pointer none, Value.pointer none, Value.pointer none, Value.pointer none, Value.pointer none, Value.pointer none, Value.pointer none, Value.pointer none, Value.pointer none, Value.pointer none, Value.pointer none, Value.pointer none, Value.pointer none, Value.pointer none, Value.pointer none, Value.pointer none, Value.pointer none, Value.pointer none] : Array Value).size = (R.setIfInBounds 0 (.pointer (some ⟨w.heap.size + 1, 0, none⟩))).size := by rw [hsz]; rfl
  have hA : ∀ o2 o3, (((w.alloc (.cells #[Value.pointer none, Value.pointer none, Value.pointer none, Value.pointer none, Value.pointer none, Value.pointer none, Value.pointer none, Value.pointer none, Value.pointer none, Value.pointer none, Value.pointer none, Value.pointer none, Value.pointer none, Value.pointer none, Value.pointer none, Value.pointer none, Value.pointer none, Value.pointer none, Value.pointer none, Value.pointer none, Value.pointer none, Value.pointer none, Value.pointer none, Value.pointer none, Value.pointer none, Value.pointer none, Value.pointer none, Value.pointer none, Value.pointer none, Value.pointer none, Value.pointer none, Value.pointer none] 84)).alloc o2).alloc o3).heap[w.heap.size]? = some (.cells #[Value.pointer none, Value.pointer none, Value.pointer none, Value.pointer none, Value.pointer none, Value.pointer none, Value.pointer none, Value.pointer none, Value.pointer none, Value.pointer none, Value.pointer none, Value.pointer none, Value.pointer none, Value.pointer none, Value.pointer none, Value.pointer none, Value.pointer none, Value.pointer none, Value.pointer none, Value.pointer none, Value.pointer none, Value.pointer none, Value.pointer none, Value.pointer none, Value.pointer none, Value.pointer none, Value.pointer none, Value.pointer none, Value.pointer none, Value.pointer none, Value.pointer none, Value.pointer none] 84) := fun o2 o3 => heap3 w _ o2 o3
  generalize hR' : R.setIfInBounds 0 (.pointer (some ⟨w.heap.size + 1, 0, none⟩)) = R' at *
  generalize hL' : L.setIfInBounds i (.pointer (some ⟨s, 0, none⟩)) = L' at *
  go_enter Try.func57, Try.ntmps57
  go_wp2_with (first | (refine wpList_load_row rfl 129 (.tmp 20) rfl k rfl 129 L (0, 0) _ (h3 _ _) Try.underlying129 rfl hi129 ?_) | (refine wpList_store_new rfl 129 (.tmp 7) (.tmp 21) rfl _ _ rfl rfl (by simp) hi129 (by rw [hLs]; rfl) hL1 ?_) | (refine wpList_load_row rfl 84 (.tmp 27) rfl b rfl 86 R (0, 0) _ (h2 _ _) Try.underlying84 rfl hi84 ?_) | (refine wpList_store_new rfl 84 (.tmp 9) (.tmp 28) rfl _ _ rfl rfl (by simp) hi84 (by rw [hRs]; rfl) hR1 ?_) | (refine wpList_load_row rfl 84 (.tmp 9) rfl (w.heap.size + 1 + 1) rfl 84 R' (0, 0) _ (heap_last _ _ _ (by simp)) Try.underlying84 rfl hiS ?_) | (refine wpList_store_row rfl 84 (.tmp 6) (.tmp 33) rfl w.heap.size R' rfl rfl 84 #[Value.pointer none, Value.pointer none, Value.pointer none, Value.pointer none, Value.pointer none, Value.pointer none, Value.pointer none, Value.pointer none, Value.pointer none, Value.pointer none, Value.pointer none, Value.pointer none, Value.pointer none, Value.pointer none, Value.pointer none, Value.pointer none, Value.pointer none, Value.pointer none, Value.pointer none, Value.pointer none, Value.pointer none, Value.pointer none, Value.pointer none, Value.pointer none, Value.pointer none, Value.pointer none, Value.pointer none, Value.pointer none, Value.pointer none, Value.pointer none, Value.pointer none, Value.pointer none] (hA _ _) hiS hZ hone ?_; generalize hW : World.setRow _ _ _ = W6))
  have hW6a : W6.heap[w.heap.size]? = some (.cells R' 84) := by rw [← hW]; exact setRow_same _ (hA _ _)
  have hW6b : W6.heap[w.heap.size + 1]? = some (.cells L' 129) := by
    rw [← hW]
    exact (setRow_other _ _ _ (by omega)).trans (heap_old _ _ (by simp) (heap_last _ _ _ (by simp)))
  have hW6c : Below w.heap.size w W6 := by
    rw [← hW]
    exact setRow_below _ (Nat.le_refl _) ((((Below.refl _ _).alloc (Nat.le_refl _) _).alloc (by simp) _).alloc (by simp; omega) _)
  clear hW
  refine bodyPost_ret (v := .agg R') (results_cell_row rfl _ _ w.heap.size 84 R' (0, 0) _ rfl hW6a Try.underlying84 rfl hiS) rfl ⟨rfl, hW6b, hW6c⟩

theorem rows_set (r : Option Nat) (k : Nat) : (rowsL r).toArray.setIfInBounds 0 (.pointer (some ⟨k, 0, none⟩)) = (rowsL (some k)).toArray := by
  simp [rowsL, ptr]
theorem cells_set (g : Nat → Option Nat) (i s : Nat) (hi : i < 32) : (cellsL g).set i (.pointer (some ⟨s, 0, none⟩)) = cellsL (upd g i s) := by
  apply List.ext_getElem?
  intro j
  rw [List.getElem?_set]
  unfold cellsL upd
  simp only [List.length_map, List.length_range, List.getElem?_map]
  by_cases hj : j < 32
  · rw [List.getElem?_range hj]
    by_cases e : i = j
    · subst e; rw [if_pos rfl, if_pos hi]; simp [ptr]
    · have e' : ¬ j = i := fun h => e h.symm
      rw [if_neg e]; simp [ptr, e']
  · have h0 : (List.range 32)[j]? = none := by simp; omega
    rw [h0]
    by_cases e : i = j
    · omega
    · rw [if_neg e]; rfl
theorem rows_one (r : Option Nat) : (rowsL r).toArray.all (·.oneCell') = true := by
  rw [Array.all_eq_true_iff_forall_mem]
  intro x hx
  simp only [List.mem_toArray, rowsL, List.mem_cons, List.mem_replicate] at hx
  rcases hx with rfl | ⟨-, rfl⟩ <;> rfl
theorem cells_one (g : Nat → Option Nat) : (cellsL g).toArray.all (·.oneCell') = true := by
  rw [Array.all_eq_true_iff_forall_mem]
  intro x hx
  simp only [List.mem_toArray, cellsL, List.mem_map] at hx
  obtain ⟨i, -, rfl⟩ := hx; rfl

theorem with_any (w : World) (b : Nat) (r : Option Nat) (g : Nat → Option Nat) (h : ShelfAt w b r g) (i s : Nat) (hi : i < 32) :
    Calls Try.prog 57 #[.pointer (some ⟨b, 0, none⟩), .int .i64 i, .pointer (some ⟨s, 0, none⟩)] w fun e w' => e = .returned (.agg (rowsL (some (w.heap.size + 1))).toArray) ∧
      w'.heap[w.heap.size + 1]? = some (.cells (cellsL (upd g i s)).toArray 129) ∧ Below w.heap.size w w' := by
  cases r with
  | none =>
    have h1 := with_none_core w b (rowsL none).toArray i s hi h.lt h.rows (by simp [rowsL_len]) (rows_one _) rfl (cellsL (upd g i s)).toArray (by
      show _ = _
      rw [← cells_set g i s hi]
      have : g = fun _ => none := funext (h.empty rfl)
      rw [this]; rfl)
    rw [rows_set] at h1
    exact h1
  | some k =>
    have h1 := with_some_core w b k (rowsL (some k)).toArray i s hi h.lt h.rows (by simp [rowsL_len]) (rows_one _) rfl (cellsL g).toArray (h.lt' k rfl) (h.row k rfl) (by simp [cellsL_len]) (cells_one _) (ptr (g i)) (by
      rw [List.getElem?_toArray]; unfold cellsL; rw [List.getElem?_map, List.getElem?_range hi]; rfl)
    rw [rows_set, List.setIfInBounds_toArray, cells_set g i s hi] at h1
    exact h1
end Go.Proofs.Ytbhhegpckcfbmaa
