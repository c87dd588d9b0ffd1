/-
  What With does to a shelf.
-/
import Derived.Test.YtbhhegpckcfbmaaShelf
namespace Go.Proofs.Ytbhhegpckcfbmaa
open Go.Shelf Go.RowKit

def upd (g : Nat → Option Nat) (i s : Nat) : Nat → Option Nat := fun j => if j = i then some s else g j

theorem info84 : (Try.prog.info? 84).map (·.size) = some 32 := by kernel_rfl
theorem info129 : (Try.prog.info? 129).map (·.size) = some 32 := by kernel_rfl
theorem setRow_new (w : World) (c c' : Array Value) (t : TypeId) (g : Nat) (hg : g = w.heap.size) : (w.alloc (.cells c t)).setRow g c' = w.alloc (.cells c' t) := by
  subst hg; exact World.setRow_alloc_new w c c' t
theorem heap_old (w : World) (o : Obj) {j : Nat} {x : Option Obj} (hj : j < w.heap.size) (h : w.heap[j]? = x) : (w.alloc o).heap[j]? = x := by
  rw [← h]; exact Below.heap_alloc w o j hj
theorem heap_last (w : World) (o : Obj) (g : Nat) (hg : g = w.heap.size) : (w.alloc o).heap[g]? = some o := by
  subst hg; exact heap_alloc_last w o

theorem wpList_store_new {P : Program} {ops : Array Oper} {rest : List Oper} {o : Oper} {a : Act} {W : World} {Q : Exit → Act → World → Prop} (hgd : o.guard = none) (ty : TypeId) (x y : Operand) (ho : o.op = .store ty x y)
    (g : Nat) (cells : Array Value) (hx : a.eval x = .pointer (some ⟨g, 0, none⟩)) (hy : a.eval y = .agg cells) {c : Array Value} {t : TypeId} (hg : g = W.heap.size) (hi : (P.info? ty).map (·.size) = some cells.size)
    (hold : c.size = cells.size) (h1 : cells.all (·.oneCell') = true) (h : wpList P ops Q rest (a.put o.dst undef) (W.alloc (.cells cells t))) : wpList P ops Q (o :: rest) a (W.alloc (.cells c t)) := by
  subst hg
  refine wpList_store_row hgd ty x y ho W.heap.size cells hx hy t c (heap_alloc_last W _) hi hold h1 ?_
  rw [World.setRow_alloc_new]; exact h

theorem setRow_same {w : World} {g : Nat} {c : Array Value} {t : TypeId} {fr : Nat × Nat} (c' : Array Value) (h : w.heap[g]? = some (.cells c t fr)) : (w.setRow g c').heap[g]? = some (.cells c' t fr) := by
  simp only [World.setRow]
  rw [Array.getElem?_modify, if_pos rfl, h]; rfl
theorem setRow_other (w : World) (g : Nat) (c' : Array Value) {j : Nat} (h : g ≠ j) : (w.setRow g c').heap[j]? = w.heap[j]? := by
  simp only [World.setRow]
  rw [Array.getElem?_modify, if_neg h]
theorem setRow_below {w w' : World} {k g : Nat} (c' : Array Value) (hg : k ≤ g) (h : Below k w w') : Below k w (w'.setRow g c') :=
  ⟨h.os, h.tape, h.output, by simp only [World.setRow, Array.size_modify]; exact h.size, fun j hj => by rw [setRow_other _ _ _ (by omega)]; exact h.block j hj⟩

theorem heap3 (w : World) (o1 o2 o3 : Obj) : (((w.alloc o1).alloc o2).alloc o3).heap[w.heap.size]? = some o1 :=
  heap_old _ _ (by simp; omega) (heap_old _ _ (by simp) (heap_alloc_last w o1))
theorem all_set {R : Array Value} (h : R.all (·.oneCell') = true) (i : Nat) (v : Value) (hv : v.oneCell' = true) : (R.setIfInBounds i v).all (·.oneCell') = true := by
  rw [Array.all_eq_true_iff_forall_mem] at h ⊢
  intro x hx
  rcases Array.mem_or_eq_of_mem_setIfInBounds hx with h1 | h1
  · exact h x h1
  · rw [h1]; exact hv

set_option maxRecDepth 100000 in
set_option maxHeartbeats 1600000 in
theorem with_none_core (w : World) (b : Nat) (R : Array Value) (i s : Nat) (hi : i < 32) (hb : b < w.heap.size) (hR : w.heap[b]? = some (.cells R 86)) (hRs : R.size = 32) (hR1 : R.all (·.oneCell') = true) (hR0 : R[0]? = some (.pointer none))
    (X : Array Value) (HX : Hid (X = (List.set [Value.pointer none, Value.pointer none, Value.pointer none, Value.pointer none, Value.pointer none, Value.pointer none, Value.pointer none, Value.pointer none, Value.pointer none, Value.pointer none, Value.pointer none, Value.pointer none, Value.pointer none, Value.pointer none, Value.pointer none, Value.pointer none, Value.pointer none, Value.pointer none, Value.pointer none, Value.pointer none, Value.pointer none, Value.pointer none, Value.pointer none, Value.pointer none, Value.pointer none, Value.pointer none, Value.pointer none, Value.pointer none, Value.pointer none, Value.pointer none, Value.pointer none, Value.pointer none] i (.pointer (some ⟨s, 0, none⟩))).toArray)) :
    Calls Try.prog 57 #[.pointer (some ⟨b, 0, none⟩), .int .i64 i, .pointer (some ⟨s, 0, none⟩)] w fun e w' => e = .returned (.agg (R.setIfInBounds 0 (.pointer (some ⟨w.heap.size + 1, 0, none⟩)))) ∧
      w'.heap[w.heap.size + 1]? = some (.cells X 129) ∧ Below w.heap.size w w' := by
  have hd := div32 i (by omega)
  have hm := mod32 i (by omega)
  have e0 : i / 32 = 0 := by omega
  have e1 : i % 32 = i := by omega
  rw [e0] at hd
  rw [e1] at hm
  have e2 : (i : Int) < 32 := by omega
  have c0 : ∀ o1 o2, ((w.alloc o1).alloc o2).cell? ⟨b, 0, none⟩ = some (.pointer none) := fun o1 o2 => by
    rw [World.cell?_alloc_lt _ _ _ (by simp; omega), World.cell?_alloc_lt _ _ _ hb, cell_of_row w b 0 _ _ _ hR]; exact hR0
  have h2 : ∀ o1 o2, ((w.alloc o1).alloc o2).heap[b]? = some (.cells R 86) := fun o1 o2 => heap_old _ _ (by simp; omega) (heap_old _ _ hb hR)
  have hsp := fun a x m w => run_store Try.prog w a (.pointer x) m rfl
  have hi84 : (Try.prog.info? 84).map (·.size) = some R.size := by rw [hRs]; exact info84
  have hsz : (R.setIfInBounds 0 (.pointer (some ⟨w.heap.size + 1, 0, none⟩))).size = 32 := by simp [hRs]
  have hiS : (Try.prog.info? 84).map (·.size) = some (R.setIfInBounds 0 (.pointer (some ⟨w.heap.size + 1, 0, none⟩))).size := by rw [hsz]; exact info84
  have hone : (R.setIfInBounds 0 (.pointer (some ⟨w.heap.size + 1, 0, none⟩))).all (·.oneCell') = true := all_set hR1 _ _ rfl
  have hZ : (#[Value.pointer none, Value.pointer none, Value.pointer none, Value.pointer none, Value.pointer none, Value.pointer none, Value.pointer none, Value.pointer none, Value.pointer none, Value.pointer none, Value.pointer none, Value.pointer none, Value.pointer none, Value.pointer none, Value.pointer none, Value.pointer none, Value.pointer none, Value.pointer none, Value.pointer none, Value.pointer none, Value.pointer none, Value.pointer none, Value.pointer none, Value.pointer none, Value.pointer none, Value.pointer none, Value.pointer none, Value.pointer none, Value.pointer none, Value.pointer none, Value.pointer none, Value.pointer none] : Array Value).size = (R.setIfInBounds 0 (.pointer (some ⟨w.heap.size + 1, 0, none⟩))).size := by rw [hsz]; rfl
  have hA : ∀ o2 o3, (((w.alloc (.cells #[Value.pointer none, Value.pointer none, Value.pointer none, Value.pointer none, Value.pointer none, Value.pointer none, Value.pointer none, Value.pointer none, Value.pointer none, Value.pointer none, Value.pointer none, Value.pointer none, Value.pointer none, Value.pointer none, Value.pointer none, Value.pointer none, Value.pointer none, Value.pointer none, Value.pointer none, Value.pointer none, Value.pointer none, Value.pointer none, Value.pointer none, Value.pointer none, Value.pointer none, Value.pointer none, Value.pointer none, Value.pointer none, Value.pointer none, Value.pointer none, Value.pointer none, Value.pointer none] 84)).alloc o2).alloc o3).heap[w.heap.size]? = some (.cells #[Value.pointer none, Value.pointer none, Value.pointer none, Value.pointer none, Value.pointer none, Value.pointer none, Value.pointer none, Value.pointer none, Value.pointer none, Value.pointer none, Value.pointer none, Value.pointer none, Value.pointer none, Value.pointer none, Value.pointer none, Value.pointer none, Value.pointer none, Value.pointer none, Value.pointer none, Value.pointer none, Value.pointer none, Value.pointer none, Value.pointer none, Value.pointer none, Value.pointer none, Value.pointer none, Value.pointer none, Value.pointer none, Value.pointer none, Value.pointer none, Value.pointer none, Value.pointer none] 84) := fun o2 o3 => heap3 w _ o2 o3
  generalize hR' : R.setIfInBounds 0 (.pointer (some ⟨w.heap.size + 1, 0, none⟩)) = R' at *
  go_enter Try.func57, Try.ntmps57
  go_wp2_with (first | (refine wpList_load_row rfl 84 (.tmp 27) rfl b rfl 86 R (0, 0) _ (h2 _ _) Try.underlying84 rfl hi84 ?_) | (refine wpList_store_new rfl 84 (.tmp 9) (.tmp 28) rfl _ _ rfl rfl (by simp) hi84 (by rw [hRs]; rfl) hR1 ?_) | (refine wpList_load_row rfl 84 (.tmp 9) rfl (w.heap.size + 1 + 1) rfl 84 R' (0, 0) _ (heap_last _ _ _ (by simp)) Try.underlying84 rfl hiS ?_) | (refine wpList_store_row rfl 84 (.tmp 6) (.tmp 33) rfl w.heap.size R' rfl rfl 84 #[Value.pointer none, Value.pointer none, Value.pointer none, Value.pointer none, Value.pointer none, Value.pointer none, Value.pointer none, Value.pointer none, Value.pointer none, Value.pointer none, Value.pointer none, Value.pointer none, Value.pointer none, Value.pointer none, Value.pointer none, Value.pointer none, Value.pointer none, Value.pointer none, Value.pointer none, Value.pointer none, Value.pointer none, Value.pointer none, Value.pointer none, Value.pointer none, Value.pointer none, Value.pointer none, Value.pointer none, Value.pointer none, Value.pointer none, Value.pointer none, Value.pointer none, Value.pointer none] (hA _ _) hiS hZ hone ?_; generalize hW : World.setRow _ _ _ = W6))
  have hW6a : W6.heap[w.heap.size]? = some (.cells R' 84) := by rw [← hW]; exact setRow_same _ (hA _ _)
  have hW6b : W6.heap[w.heap.size + 1]? = some (.cells X 129) := by
    rw [← hW, HX.out]
    exact (setRow_other _ _ _ (by omega)).trans (heap_old _ _ (by simp) (heap_last _ _ _ (by simp)))
  have hW6c : Below w.heap.size w W6 := by
    rw [← hW]
    exact setRow_below _ (Nat.le_refl _) ((((Below.refl _ _).alloc (Nat.le_refl _) _).alloc (by simp) _).alloc (by simp; omega) _)
  clear hW
  refine bodyPost_ret (v := .agg R') (results_cell_row rfl _ _ w.heap.size 84 R' (0, 0) _ rfl hW6a Try.underlying84 rfl hiS) rfl ⟨rfl, hW6b, hW6c⟩
end Go.Proofs.Ytbhhegpckcfbmaa
