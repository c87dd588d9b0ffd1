/-
  Count: how many shapes a shelf has.
-/
import Derived.Test.YtnlkalbkjocoaaaAll
namespace Go.Proofs.Ytnlkalbkjocoaaa
open Go.Shelf Go.RowKit

attribute [local go_sem] Oper.semAt_some

theorem zip2 (a : Array Value) (i j : Tmp) (u v : Value) : (#[i, j].zip #[u, v]).foldl (fun t ((p, x) : Tmp × Value) => t.setIfInBounds p x) a = (a.setIfInBounds i u).setIfInBounds j v := by
  have e : (#[i, j].zip #[u, v]) = #[(i, u), (j, v)] := by apply Array.toList_inj.1; simp
  rw [e]; rfl

def TrueR (_ : Nat × Nat) : Prop := True
theorem trueR (g : Nat → Option Nat) : ∀ i k, i < 1000 → g i = some k → TrueR (i, k) := fun _ _ _ _ => trivial

set_option maxRecDepth 100000 in
set_option maxHeartbeats 1000000 in
theorem count_any (w : World) (bv : Nat) (r : Option Nat) (g : Nat → Option Nat) (hS : ShelfAt w bv r g) :
    Calls Try.prog 26 #[.pointer (some ⟨bv, 0, none⟩)] w fun e w' => e = .returned (.int .i64 ((allItems (R := TrueR) g (trueR g)).length : Int)) ∧ Below w.heap.size w w' := by
  obtain ⟨ro, hview, hS⟩ := hS.view
  have hlt : bv < w.heap.size := (Array.getElem?_eq_some_iff.1 hview).1
  have hv : ∀ o, (w.alloc o).cell? ⟨bv, 0, none⟩ = some (ptr ro) := fun o => by rw [World.cell?_alloc_lt _ _ _ hlt, cell_of_row w bv 0 _ _ _ hview]; rfl
  have HP : Hid (ptr ro = .pointer (ro.map fun k => ⟨k, 0, none⟩)) := rfl
  rw [HP.out] at hv
  generalize ro.map (fun k => (⟨k, 0, none⟩ : Addr)) = pro at hv HP
  refine (callsIn_wide (n := 5)).1 ?_
  refine callsIn_of_wp_marks Try.func26 rfl trivial ?_ rfl
  simp only [Try.ntmps26, List.size_toArray, List.length_cons, List.length_nil, Nat.reduceAdd, Nat.reduceSub, Array.replicate_succ, Array.replicate_zero, List.push_toArray, List.append_toArray, List.nil_append, List.cons_append]
  gi_wp2_with (refine ⟨trivial, ?_⟩; gi_at_call 49; refine (callsIn_wide.2 (all_any _ _)).mono ?_; rintro e w' ⟨rfl, rfl⟩)
  have hb1 : Below w.heap.size w ((w.alloc (.cells #[.int .i64 0] 3)).alloc (.cells #[.pointer pro] 94)) := ((Below.refl _ _).alloc (Nat.le_refl _) _).alloc (by simp) _
  have hcnt : ((w.alloc (.cells #[.int .i64 0] 3)).alloc (.cells #[.pointer pro] 94)).heap[w.heap.size]? = some (.cells #[.int .i64 0] 3) := heap_old _ _ (by simp) (heap_last _ _ _ rfl)
  refine wpIn_rangeFunc_ownF (α := It TrueR) rfl (by omega) (gf := 75) (lb := #[.pointer (some ⟨w.heap.size + 1, 0, none⟩)]) rfl trivial (enters_of Try.func75 (by kernel_rfl) rfl)
    (all_stops 4 (w.heap.size + 1) w.heap.size ro r g (trueR g) (by omega) _ (by rw [HP.out]; exact heap_last _ _ _ (by simp)) (fun j c t hj ht => ne_of_type hj hcnt (by rcases ht with rfl | rfl | rfl <;> decide)) (hS.below hb1))
    (fun h k => h.trans k) (keepsB_b (Nat.le_refl _)) (Below.refl _ _) (fun _ => rfl)
    (fun pre W => Go.Boxed W w.heap.size 3 (.int .i64 (pre.length : Int)) ∧ Below w.heap.size w W)
    (fun _ _ _ => False)
    (OwnFrom.and (Own.from (boxed_own _ _ _) _) (ownFrom_below (Nat.le_refl _) (by simp; omega)))
    (fun _ _ _ _ _ h _ _ => h)
    ⟨(Go.Boxed.new _ _ _).alloc _, hb1⟩
    (fun x => { tmps := #[.pointer (some ⟨bv, 0, none⟩), undef, .int .i64 0, .pointer (some ⟨w.heap.size, 0, none⟩), .pointer (some ⟨bv, 0, none⟩), .pointer (some ⟨bv, 0, none⟩), .pointer (some ⟨bv, 0, none⟩), .agg #[.pointer pro], .func (.func 75) #[] #[.pointer (some ⟨w.heap.size + 1, 0, none⟩)], .int .i64 x.1.1, .pointer (some ⟨x.1.2, 0, none⟩), undef, undef, undef], defers := [] }) ?assign ?body ?done ?stop
  case assign =>
    intro l x W K hK
    unfold itE
    rw [zip2]
    gi_wp2
    exact hK
  case body =>
    rintro l pre x W ⟨hbx, hB⟩ hN
    have hc := hbx.cell
    have hf := hbx.frozen
    have hw : IntKind.i64.wrap ((pre.length : Int) + 1) = ((pre.length + 1 : Nat) : Int) := by rw [IntKind.wrap_i64]; omega
    gi_wp2
    have e1 : ((pre ++ [x]).length : Int) = (pre.length : Int) + 1 := by simp
    refine ⟨KeepsOthers.setCell _ _ _, ⟨by simp [World.setCell], fun j _ hn => heap_setCell_other _ _ _ _ hn⟩, ?_, hB.setCell (p := ⟨w.heap.size, 0, none⟩) (Nat.le_refl _) _⟩
    rw [e1]
    exact hbx.set _
  case done =>
    rintro D ys W hD rfl ⟨hbx, hB⟩ hK
    have hc := hbx.cell
    gi_wp2
    refine ⟨by simp, .inl ⟨_, _, rfl, run_takeDeferred hK, ?_⟩⟩
    exact ⟨_, results_tmp rfl _ _ _, rfl, hB.trans (belowK_b (w := w) (Nat.le_refl _) W D _ _ (by simp at hD; omega) hK rfl rfl)⟩
  case stop =>
    rintro D c pre W _ _ h _
    exact h.elim
end Go.Proofs.Ytnlkalbkjocoaaa
