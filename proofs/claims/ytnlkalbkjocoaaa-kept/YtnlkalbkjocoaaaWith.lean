/-
  What With does to a shelf.
-/
import Derived.Test.YtnlkalbkjocoaaaShelf
namespace Go.Proofs.Ytnlkalbkjocoaaa
open Go.Shelf Go.RowKit

def upd (g : Nat → Option Nat) (i : Nat) (so : Option Nat) : Nat → Option Nat := fun j => if j = i then so else g j

theorem infoRows : (Try.prog.info? 150).map (·.size) = some 32 := by kernel_rfl
theorem infoRow : (Try.prog.info? 153).map (·.size) = some 32 := by kernel_rfl
theorem setRow_new (w : World) (c c' : Array Value) (t : TypeId) (g : Nat) (hg : g = w.heap.size) : (w.alloc (.cells c t)).setRow g c' = w.alloc (.cells c' t) := by
  subst hg; exact World.setRow_alloc_new w c c' t
theorem heap_old (w : World) (o : Obj) {j : Nat} {x : Option Obj} (hj : j < w.heap.size) (h : w.heap[j]? = x) : (w.alloc o).heap[j]? = x := by
  rw [← h]; exact Below.heap_alloc w o j hj
theorem heap_last (w : World) (o : Obj) (g : Nat) (hg : g = w.heap.size) : (w.alloc o).heap[g]? = some o := by
  subst hg; exact heap_alloc_last w o

theorem wpList_store_new {P : Program} {ops : Array Oper} {rest : List Oper} {o : Oper} {a : Act} {W : World} {Q : Exit → Act → World → Prop} (hgd : o.guard = none) (ty : TypeId) (x y : Operand) (ho : o.op = .store ty x y)
    (g : Nat) (cells : Array Value) (hx : a.eval x = .pointer (some ⟨g, 0, none⟩)) (hy : a.eval y = .agg cells) {c : Array Value} {t : TypeId} (hg : g = W.heap.size) (hi : (P.info? ty).map (·.size) = some cells.size)
    (hold : c.size = cells.size) (h1 : cells.all (·.oneCell') = true) (h : wpList P ops Q rest (a.put o.dst undef) (W.alloc (.cells cells t))) : wpList P ops Q (o :: rest) a (W.alloc (.cells c t)) := by
  subst hg
  refine wpList_store_row hgd ty x y ho W.heap.size cells hx hy t c (heap_alloc_last W _) hi hold h1 ?_
  rw [World.setRow_alloc_new]; exact h

theorem setRow_same {w : World} {g : Nat} {c : Array Value} {t : TypeId} {fr : Nat × Nat} (c' : Array Value) (h : w.heap[g]? = some (.cells c t fr)) : (w.setRow g c').heap[g]? = some (.cells c' t fr) := by
  simp only [World.setRow]
  rw [Array.getElem?_modify, if_pos rfl, h]; rfl
theorem setRow_other (w : World) (g : Nat) (c' : Array Value) {j : Nat} (h : g ≠ j) : (w.setRow g c').heap[j]? = w.heap[j]? := by
  simp only [World.setRow]
  rw [Array.getElem?_modify, if_neg h]
theorem setRow_below {w w' : World} {k g : Nat} (c' : Array Value) (hg : k ≤ g) (h : Below k w w') : Below k w (w'.setRow g c') :=
  ⟨h.os, h.tape, h.output, by simp only [World.setRow, Array.size_modify]; exact h.size, fun j hj => by rw [setRow_other _ _ _ (by omega)]; exact h.block j hj⟩

theorem heap3 (w : World) (o1 o2 o3 : Obj) : (((w.alloc o1).alloc o2).alloc o3).heap[w.heap.size]? = some o1 :=
  heap_old _ _ (by simp; omega) (heap_old _ _ (by simp) (heap_alloc_last w o1))
theorem all_set {R : Array Value} (h : R.all (·.oneCell') = true) (i : Nat) (v : Value) (hv : v.oneCell' = true) : (R.setIfInBounds i v).all (·.oneCell') = true := by
  rw [Array.all_eq_true_iff_forall_mem] at h ⊢
  intro x hx
  rcases Array.mem_or_eq_of_mem_setIfInBounds hx with h1 | h1
  · exact h x h1
  · rw [h1]; exact hv

theorem rows_set (r : Option Nat) (k : Nat) : (rowsL r).toArray.setIfInBounds 0 (.pointer (some ⟨k, 0, none⟩)) = (rowsL (some k)).toArray := by
  simp [rowsL, ptr]
theorem cells_set (g : Nat → Option Nat) (i : Nat) (so : Option Nat) (hi : i < 32) : (cellsL g).set i (ptr so) = cellsL (upd g i so) := by
  apply List.ext_getElem?
  intro j
  rw [List.getElem?_set]
  unfold cellsL upd
  simp only [List.length_map, List.length_range, List.getElem?_map]
  by_cases hj : j < 32
  · rw [List.getElem?_range hj]
    by_cases e : i = j
    · subst e; rw [if_pos rfl, if_pos hi]; simp [ptr]
    · have e' : ¬ j = i := fun h => e h.symm
      rw [if_neg e]; simp [ptr, e']
  · have h0 : (List.range 32)[j]? = none := by simp; omega
    rw [h0]
    by_cases e : i = j
    · omega
    · rw [if_neg e]; rfl
theorem rows_one (r : Option Nat) : (rowsL r).toArray.all (·.oneCell') = true := by
  rw [Array.all_eq_true_iff_forall_mem]
  intro x hx
  simp only [List.mem_toArray, rowsL, List.mem_cons, List.mem_replicate] at hx
  rcases hx with rfl | ⟨-, rfl⟩ <;> rfl
theorem cells_one (g : Nat → Option Nat) : (cellsL g).toArray.all (·.oneCell') = true := by
  rw [Array.all_eq_true_iff_forall_mem]
  intro x hx
  simp only [List.mem_toArray, cellsL, List.mem_map] at hx
  obtain ⟨i, -, rfl⟩ := hx; rfl


set_option maxRecDepth 100000 in
set_option maxHeartbeats 1600000 in
theorem copiedRows_none (w : World) : Calls Try.prog 89 #[.pointer none] w fun e w' => e = .returned (.pointer (some ⟨w.heap.size, 0, none⟩)) ∧ w' = w.alloc (.cells #[Value.pointer none, Value.pointer none, Value.pointer none, Value.pointer none, Value.pointer none, Value.pointer none, Value.pointer none, Value.pointer none, Value.pointer none, Value.pointer none, Value.pointer none, Value.pointer none, Value.pointer none, Value.pointer none, Value.pointer none, Value.pointer none, Value.pointer none, Value.pointer none, Value.pointer none, Value.pointer none, Value.pointer none, Value.pointer none, Value.pointer none, Value.pointer none, Value.pointer none, Value.pointer none, Value.pointer none, Value.pointer none, Value.pointer none, Value.pointer none, Value.pointer none, Value.pointer none] 150) := by
  go_enter Try.func89, Try.ntmps89
  go_wp2
  go_ret
  exact ⟨rfl, rfl⟩

set_option maxRecDepth 100000 in
set_option maxHeartbeats 1600000 in
theorem copiedRows_some (w : World) (b : Nat) (R : Array Value) (hb : b < w.heap.size) (hR : w.heap[b]? = some (.cells R 150)) (hRs : R.size = 32) (hR1 : R.all (·.oneCell') = true) :
    Calls Try.prog 89 #[.pointer (some ⟨b, 0, none⟩)] w fun e w' => e = .returned (.pointer (some ⟨w.heap.size, 0, none⟩)) ∧ w' = w.alloc (.cells R 150) := by
  have h2 : ∀ o1, (w.alloc o1).heap[b]? = some (.cells R 150) := fun o1 => heap_old _ _ hb hR
  have hiR : (Try.prog.info? 150).map (·.size) = some R.size := by rw [hRs]; exact infoRows
  go_enter Try.func89, Try.ntmps89
  go_wp2_with (first | (refine wpList_load_row rfl 150 (.tmp 9) rfl b rfl 150 R (0, 0) _ (h2 _) Try.underlying150 rfl hiR ?_) | (refine wpList_store_new rfl 150 (.tmp 11) (.tmp 10) rfl _ _ rfl rfl rfl hiR (by rw [hRs]; rfl) hR1 ?_))
  go_ret
  exact ⟨rfl, rfl⟩

set_option maxRecDepth 100000 in
set_option maxHeartbeats 1600000 in
theorem copiedRow_none (w : World) : Calls Try.prog 90 #[.pointer none] w fun e w' => e = .returned (.pointer (some ⟨w.heap.size, 0, none⟩)) ∧ w' = w.alloc (.cells #[Value.pointer none, Value.pointer none, Value.pointer none, Value.pointer none, Value.pointer none, Value.pointer none, Value.pointer none, Value.pointer none, Value.pointer none, Value.pointer none, Value.pointer none, Value.pointer none, Value.pointer none, Value.pointer none, Value.pointer none, Value.pointer none, Value.pointer none, Value.pointer none, Value.pointer none, Value.pointer none, Value.pointer none, Value.pointer none, Value.pointer none, Value.pointer none, Value.pointer none, Value.pointer none, Value.pointer none, Value.pointer none, Value.pointer none, Value.pointer none, Value.pointer none, Value.pointer none] 153) := by
  go_enter Try.func90, Try.ntmps90
  go_wp2
  go_ret
  exact ⟨rfl, rfl⟩

set_option maxRecDepth 100000 in
set_option maxHeartbeats 1600000 in
theorem copiedRow_some (w : World) (b : Nat) (R : Array Value) (hb : b < w.heap.size) (hR : w.heap[b]? = some (.cells R 153)) (hRs : R.size = 32) (hR1 : R.all (·.oneCell') = true) :
    Calls Try.prog 90 #[.pointer (some ⟨b, 0, none⟩)] w fun e w' => e = .returned (.pointer (some ⟨w.heap.size, 0, none⟩)) ∧ w' = w.alloc (.cells R 153) := by
  have h2 : ∀ o1, (w.alloc o1).heap[b]? = some (.cells R 153) := fun o1 => heap_old _ _ hb hR
  have hiR : (Try.prog.info? 153).map (·.size) = some R.size := by rw [hRs]; exact infoRow
  go_enter Try.func90, Try.ntmps90
  go_wp2_with (first | (refine wpList_load_row rfl 153 (.tmp 9) rfl b rfl 153 R (0, 0) _ (h2 _) Try.underlying153 rfl hiR ?_) | (refine wpList_store_new rfl 153 (.tmp 11) (.tmp 10) rfl _ _ rfl rfl rfl hiR (by rw [hRs]; rfl) hR1 ?_))
  go_ret
  exact ⟨rfl, rfl⟩

theorem copiedRows_any (w : World) (ro r : Option Nat) (g : Nat → Option Nat) (h : ShelfOf w ro r g) : Calls Try.prog 89 #[ptr ro] w fun e w' => e = .returned (.pointer (some ⟨w.heap.size, 0, none⟩)) ∧ w' = w.alloc (.cells (rowsL r).toArray 150) := by
  cases ro with
  | none => rw [h.nil rfl]; exact copiedRows_none w
  | some b => exact copiedRows_some w b _ (h.lt b rfl) (h.rows b rfl) (by simp [rowsL_len]) (rows_one _)
theorem copiedRow_any (w : World) (ro r : Option Nat) (g : Nat → Option Nat) (h : ShelfOf w ro r g) : Calls Try.prog 90 #[ptr r] w fun e w' => e = .returned (.pointer (some ⟨w.heap.size, 0, none⟩)) ∧ w' = w.alloc (.cells (cellsL g).toArray 153) := by
  cases r with
  | none =>
    have : g = fun _ => none := funext (h.empty rfl)
    rw [this]; exact copiedRow_none w
  | some b => exact copiedRow_some w b _ (h.lt' b rfl) (h.row b rfl) (by simp [cellsL_len]) (cells_one _)
end Go.Proofs.Ytnlkalbkjocoaaa
