/-
  What the list of the nearest has.
-/
import Derived.Test.YtnlkalbkjocoaaaDist
namespace Go.Proofs.Ytnlkalbkjocoaaa
open Go.Shelf Go.RowKit

theorem items_ids {R : Nat × Nat → Prop} (g : Nat → Option Nat) (hR : ∀ i k, i < 1000 → g i = some k → R (i, k)) (n : Nat) (hn : n ≤ 1000) :
    (items g hR n).map (fun x => x.1.1) = (List.range n).filter fun i => (g i).isSome := by
  induction n with
  | zero => rfl
  | succ n ih =>
    rw [List.range_succ, List.filter_append, ← ih (by omega)]
    cases hg : g n with
    | none => rw [items_none hg]; simp [hg]
    | some k => rw [items_some (by omega) hg]; simp [hg]

theorem filter_low (g : Nat → Option Nat) (out : ∀ i, 30 ≤ i → g i = none) : (List.range 1000).filter (fun i => (g i).isSome) = (List.range 30).filter fun i => (g i).isSome := by
  have e : List.range 1000 = List.range 30 ++ (List.range 970).map (30 + ·) := by rw [← List.range_add]
  rw [e, List.filter_append]
  have : ((List.range 970).map (30 + ·)).filter (fun i => (g i).isSome) = [] := by
    rw [List.filter_eq_nil_iff]
    intro i hi
    obtain ⟨j, -, rfl⟩ := List.mem_map.1 hi
    rw [out (30 + j) (by omega)]; simp
  rw [this, List.append_nil]

/-- How far the shape with an id is. -/
def farF (p : Q) (V : Nat → Q × Q) (i : Nat) : Int := distQ p (V i).1 (V i).2

/-- What holds of the list of all, the nearest first. -/
structure AllOk (p : Q) (g : Nat → Option Nat) (V : Nat → Q × Q) (all : List Nat) : Prop where
  mem : ∀ i, i ∈ all ↔ (g i).isSome = true
  nodup : all.Nodup
  len : all.length ≤ 30
  rise : ∀ k (h : k + 1 < all.length), farF p V all[k] < farF p V all[k + 1] ∨ (farF p V all[k] = farF p V all[k + 1] ∧ all[k] < all[k + 1])

theorem sortL_perm (L : List D) : (sortL L).Perm L := List.mergeSort_perm _ _
theorem sortL_sorted (L : List D) : (sortL L).Pairwise fun x y => ¬ ltD y x := by
  have h := List.pairwise_mergeSort (le := fun x y => !ltOf cmpD y x) (fun a b c h1 h2 => by
    simp only [Bool.not_eq_true', cmpD_nlt] at *; unfold ltD at *; omega) (fun a b => by
    by_cases h : ltOf cmpD b a = true
    · have : ltOf cmpD a b = false := by rw [cmpD_nlt]; rw [cmpD_lt] at h; unfold ltD at *; omega
      simp [this]
    · simp at h; simp [h]) L
  exact h.imp fun h => by simpa [cmpD_nlt] using h

theorem all_ok {w : World} (p : Q) (g : Nat → Option Nat) (V : Nat → Q × Q) (hV : ∀ i k, i < 1000 → g i = some k → NearR w V (i, k)) (out : ∀ i, 30 ≤ i → g i = none) :
    AllOk p g V ((sortL (dsOf p V (allItems g hV))).map fun d => d.2.val) := by
  have hp := sortL_perm (dsOf p V (allItems g hV))
  have hs := sortL_sorted (dsOf p V (allItems g hV))
  have hids : (dsOf p V (allItems g hV)).map (fun d => d.2.val) = (List.range 30).filter fun i => (g i).isSome := by
    rw [← filter_low g out, ← items_ids g hV 1000 (Nat.le_refl _), allItems_eq]
    unfold dsOf
    rw [List.map_map]; rfl
  have hd : ∀ d ∈ dsOf p V (allItems g hV), (d.1.val : Int) = farF p V d.2.val := by
    intro d hd
    unfold dsOf at hd
    obtain ⟨x, -, rfl⟩ := List.mem_map.1 hd
    show (((distQ p (V x.1.1).1 (V x.1.1).2).toNat : Nat) : Int) = distQ p (V x.1.1).1 (V x.1.1).2
    exact Int.toNat_of_nonneg (distQ_bd _ _ _).1
  generalize dsOf p V (allItems g hV) = L at *
  generalize sortL L = S at *
  have hpm : (S.map fun d => d.2.val).Perm ((List.range 30).filter fun i => (g i).isSome) := by rw [← hids]; exact hp.map _
  have hnd : (S.map fun d => d.2.val).Nodup := hpm.nodup_iff.2 (List.nodup_range.filter _)
  refine ⟨fun i => ?_, hnd, ?_, fun k hk => ?_⟩
  · rw [hpm.mem_iff, List.mem_filter, List.mem_range]
    constructor
    · exact fun h => h.2
    · intro h
      refine ⟨?_, h⟩
      by_cases h30 : 30 ≤ i
      · rw [out i h30] at h; cases h
      · omega
  · rw [hpm.length_eq]
    exact Nat.le_trans (List.length_filter_le _ _) (by simp)
  · have hk' : k + 1 < S.length := by simpa using hk
    have h1 := List.pairwise_iff_getElem.1 hs k (k + 1) (by omega) hk' (by omega)
    have h2 := List.pairwise_iff_getElem.1 hnd k (k + 1) (by omega) hk (by omega)
    have d1 := hd S[k] (hp.mem_iff.1 (List.getElem_mem _))
    have d2 := hd S[k + 1] (hp.mem_iff.1 (List.getElem_mem _))
    simp only [List.getElem_map] at h2 ⊢
    rw [← d1, ← d2]
    unfold ltD at h1
    omega

theorem near_take {w : World} (p : Q) (g : Nat → Option Nat) (V : Nat → Q × Q) (hV : ∀ i k, i < 1000 → g i = some k → NearR w V (i, k)) (n : Nat) :
    ((sortL (dsOf p V (allItems g hV))).take n).map (fun d => d.2.val) = ((sortL (dsOf p V (allItems g hV))).map fun d => d.2.val).take n := by rw [List.map_take]

theorem count_len {w : World} (p : Q) (g : Nat → Option Nat) (V : Nat → Q × Q) (hV : ∀ i k, i < 1000 → g i = some k → NearR w V (i, k)) :
    (allItems (R := TrueR) g (trueR g)).length = ((sortL (dsOf p V (allItems g hV))).map fun d => d.2.val).length := by
  rw [List.length_map, (sortL_perm _).length_eq]
  have e1 := items_ids g (trueR g) 1000 (Nat.le_refl _)
  have e2 := items_ids g hV 1000 (Nat.le_refl _)
  rw [allItems_eq]
  unfold dsOf
  rw [List.length_map, allItems_eq]
  have h1 := congrArg List.length e1
  have h2 := congrArg List.length e2
  rw [List.length_map] at h1 h2
  rw [h1, h2]

/-- The boxes that the law's triangles have. -/
theorem box_uniq {T : List Q} {lo hi lo' hi' : Q} (h : BoxOf T lo hi) (h' : BoxOf T lo' hi') : lo = lo' ∧ hi = hi' := by
  obtain ⟨t1, m1, e1⟩ := h.left
  obtain ⟨t2, m2, e2⟩ := h.right
  obtain ⟨t3, m3, e3⟩ := h.low
  obtain ⟨t4, m4, e4⟩ := h.high
  obtain ⟨u1, n1, f1⟩ := h'.left
  obtain ⟨u2, n2, f2⟩ := h'.right
  obtain ⟨u3, n3, f3⟩ := h'.low
  obtain ⟨u4, n4, f4⟩ := h'.high
  have a1 := h'.has t1 m1
  have a2 := h'.has t2 m2
  have a3 := h'.has t3 m3
  have a4 := h'.has t4 m4
  have c1 := h.has u1 n1
  have c2 := h.has u2 n2
  have c3 := h.has u3 n3
  have c4 := h.has u4 n4
  exact ⟨q_ext (by omega) (by omega), q_ext (by omega) (by omega)⟩
/-- The law's own box. -/
def triHi (x y z : Int) : Q := mkQ (triX x + triK z) (triX y + triK z)
theorem tri_box (x y z : Int) : BoxOf (triL x y z) (mkQ (triX x) (triX y)) (triHi x y z) := by
  have a1 := triX_bd x
  have a2 := triX_bd y
  have a3 := triK_bd z
  have e1 := qx_mk (triX x) (triX y) (by omega)
  have e2 := qy_mk (triX x) (triX y) (by omega)
  have e3 := qx_mk (triX x + triK z) (triX y) (by omega)
  have e4 := qy_mk (triX x + triK z) (triX y) (by omega)
  have e5 := qx_mk (triX x) (triX y + triK z) (by omega)
  have e6 := qy_mk (triX x) (triX y + triK z) (by omega)
  have e7 := qx_mk (triX x + triK z) (triX y + triK z) (by omega)
  have e8 := qy_mk (triX x + triK z) (triX y + triK z) (by omega)
  unfold triL triHi
  refine ⟨fun t ht => ?_, ⟨_, by simp, rfl⟩, ⟨mkQ (triX x + triK z) (triX y), by simp, by omega⟩, ⟨_, by simp, rfl⟩, ⟨mkQ (triX x) (triX y + triK z), by simp, by omega⟩⟩
  simp only [List.mem_cons, List.not_mem_nil, or_false] at ht
  rcases ht with rfl | rfl | rfl <;> omega
end Go.Proofs.Ytnlkalbkjocoaaa
