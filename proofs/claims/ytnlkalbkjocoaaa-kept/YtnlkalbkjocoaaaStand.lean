/-
  What the law says a map should have: its lists of corners, by ids; what its words in and hit answer of them.
-/
import Derived.Test.YtnlkalbkjocoaaaIn
import Derived.Test.YtnlkalbkjocoaaaHit
import Derived.Deep.MidRow
namespace Go.Proofs.Ytnlkalbkjocoaaa
open Go.Shelf Go.RowKit

/-- A triangle's corners, as they lie in memory. -/
def trC (t : Tr) : Array Value := #[qe (mkQ t.u t.v), qe (mkQ (t.u + t.k) t.v), qe (mkQ t.u (t.v + t.k))]
theorem trC_at {w : World} {b : Nat} {t : Tr} (h : w.heap[b]? = some (.cells (trC t) 26)) : At w b 0 t.l := fun k hk => by
  rw [Nat.zero_add, cell_of_row w b k _ _ _ h]
  have hk' : k < 3 := hk
  rcases (by omega : k = 0 ∨ k = 1 ∨ k = 2) with rfl | rfl | rfl <;> rfl

/-- What a map should have: the law's list, and the triangles. -/
structure StandT (w : World) (L : List Value) (T : Nat → Option Tr) : Prop where
  len : L.length = 30
  nil : ∀ i, i < 30 → T i = none → L[i]? = some (.slice none 0 0)
  tri : ∀ i t, i < 30 → T i = some t → t.ok ∧ ∃ b, L[i]? = some (.slice (some ⟨b, 0, none⟩) 3 3) ∧ w.heap[b]? = some (.cells (trC t) 26)
  out : ∀ i, 30 ≤ i → T i = none

theorem StandT.kept {w w' : World} {L : List Value} {T : Nat → Option Tr} (h : StandT w L T) (hk : Keeps w w') : StandT w' L T :=
  ⟨h.len, h.nil, fun i t hi ht => by
    obtain ⟨h1, b, h2, h3⟩ := h.tri i t hi ht
    exact ⟨h1, b, h2, (hk.block _ _ _ h3 (by unfold KeepT; simp)).trans h3⟩, h.out⟩
theorem StandT.one {w : World} {L : List Value} {T : Nat → Option Tr} (h : StandT w L T) : ∀ v ∈ L, v.oneCell' = true := fun v hv => by
  obtain ⟨i, hi, rfl⟩ := List.mem_iff_getElem.1 hv
  have hi' : i < 30 := by have := h.len; omega
  have hg : L[i]? = some L[i] := List.getElem?_eq_getElem hi
  cases hT : T i with
  | none => rw [h.nil i hi' hT] at hg; injection hg with hg; rw [← hg]; rfl
  | some t =>
    obtain ⟨-, b, h2, -⟩ := h.tri i t hi' hT
    rw [h2] at hg; injection hg with hg; rw [← hg]; rfl

/-- The law's word 'in' of what it has at i. -/
theorem in_T (w : World) (L : List Value) (T : Nat → Option Tr) (h : StandT w L T) (i : Nat) (hi : i < 30) (c d : Q) (hcd : qx c ≤ qx d ∧ qy c ≤ qy d) (x : Value) (hx : L[i]? = some x) :
    Calls Try.prog 53 #[x, .agg #[qe c, qe d]] w fun e w' => e = .returned (.bool (winP T c d i)) ∧ Below w.heap.size w w' := by
  cases hT : T i with
  | none =>
    rw [h.nil i hi hT] at hx; cases hx
    have e : winP T c d i = false := by unfold winP; rw [hT]
    rw [e]; exact in_none _ _ _ _ w
  | some t =>
    obtain ⟨hok, b, h2, h3⟩ := h.tri i t hi hT
    rw [h2] at hx; cases hx
    have hA := trC_at h3
    obtain ⟨p1, p2, p3, p4, p5, p6, p7, p8⟩ := triQ_parts hok
    have e : winP T c d i = decide (qx (mkQ t.u t.v) ≤ qx d ∧ qx c ≤ qx (mkQ (t.u + t.k) t.v) ∧ qy (mkQ t.u t.v) ≤ qy d ∧ qy c ≤ qy (mkQ t.u (t.v + t.k))) := by
      unfold winP; rw [hT]
      show meetB _ _ c d = _
      unfold meetB ord
      apply decide_eq_decide.2
      show (qx (qmax (mkQ t.u t.v) c) ≤ qx (qmin (mkQ (t.u + t.k) (t.v + t.k)) d) ∧ qy (qmax (mkQ t.u t.v) c) ≤ qy (qmin (mkQ (t.u + t.k) (t.v + t.k)) d)) ↔ _
      rw [qx_max, qx_min, qy_max, qy_min, p1, p2, p3, p6, p7, p8]
      have := hok.1
      omega
    exact in_core b _ _ _ _ _ _ _ _ _ _ _ _ _ _ _ _ _ _ _ w (hA 0 (by show 0 < 3; omega)) (hA 1 (by show 1 < 3; omega)) (hA 2 (by show 2 < 3; omega)) (fun w => qX_any _ w) (fun w => qX_any _ w) (fun w => qX_any c w) (fun w => qX_any d w) (fun w => qY_any _ w) (fun w => qY_any _ w) (fun w => qY_any c w) (fun w => qY_any d w) e

/-- The law's word 'hit' of what it has at i. -/
theorem hit_T (w : World) (L : List Value) (T : Nat → Option Tr) (h : StandT w L T) (i : Nat) (hi : i < 30) (p : Q) (x : Value) (hx : L[i]? = some x) :
    Calls Try.prog 54 #[x, qe p] w fun e w' => e = .returned (.bool (hitP T p i)) ∧ Below w.heap.size w w' := by
  cases hT : T i with
  | none =>
    rw [h.nil i hi hT] at hx; cases hx
    have e : hitP T p i = false := by unfold hitP; rw [hT]
    rw [e]; exact (hit_none _ _ w).mono fun e w' ⟨q1, q2⟩ => ⟨q1, by rw [q2]; exact Below.refl _ _⟩
  | some t =>
    obtain ⟨hok, b, h2, h3⟩ := h.tri i t hi hT
    rw [h2] at hx; cases hx
    have hA := trC_at h3
    obtain ⟨p1, p2, p3, p4, p5, p6, p7, p8⟩ := triQ_parts hok
    have h0 : 0 < ((triQ t.u t.v t.k).map qc).length := by unfold triQ; simp
    have e : hitP T p i = decide (0 ≤ qx p - qx (mkQ t.u t.v) ∧ 0 ≤ qy p - qy (mkQ t.u t.v) ∧ qx p - qx (mkQ t.u t.v) + (qy p - qy (mkQ t.u t.v)) ≤ qx (mkQ (t.u + t.k) t.v) - qx (mkQ t.u t.v)) := by
      unfold hitP; rw [hT]
      show hitB p (triQ t.u t.v t.k) (mkQ t.u t.v, mkQ (t.u + t.k) (t.v + t.k)) = _
      unfold hitB
      rw [dif_pos h0, triQ_hit hok p h0]
      unfold hasB
      rw [← Bool.decide_and]
      apply decide_eq_decide.2
      show ((qx (mkQ t.u t.v) ≤ qx p ∧ qx p ≤ qx (mkQ (t.u + t.k) (t.v + t.k)) ∧ qy (mkQ t.u t.v) ≤ qy p ∧ qy p ≤ qy (mkQ (t.u + t.k) (t.v + t.k))) ∧ _) ↔ _
      rw [p1, p2, p3, p7, p8]
      have := hok.1
      omega
    have b1 := qx_bd p
    have b2 := qy_bd p
    have b3 := qx_bd (mkQ t.u t.v)
    have b4 := qy_bd (mkQ t.u t.v)
    have b5 := qx_bd (mkQ (t.u + t.k) t.v)
    exact hit_core b _ _ _ _ _ _ (qx p) (qy p) (qx (mkQ t.u t.v)) (qy (mkQ t.u t.v)) (qx (mkQ (t.u + t.k) t.v)) (qx p - qx (mkQ t.u t.v)) (qy p - qy (mkQ t.u t.v)) (qx p - qx (mkQ t.u t.v) + (qy p - qy (mkQ t.u t.v))) (qx (mkQ (t.u + t.k) t.v) - qx (mkQ t.u t.v)) _ w (hA 0 (by show 0 < 3; omega)) (hA 1 (by show 1 < 3; omega)) (fun w => qX_any p w) (fun w => qY_any p w) (fun w => qX_any _ w) (fun w => qY_any _ w) (fun w => qX_any _ w) (by rw [IntKind.wrap_i64]; omega) (by rw [IntKind.wrap_i64]; omega) (by rw [IntKind.wrap_i64]; omega) (by rw [IntKind.wrap_i64]; omega) e

/-- How many of the first k there are. -/
def cnt (P : Nat → Bool) (k : Nat) : Nat := ((List.range k).filter P).length
theorem cnt_no {P : Nat → Bool} {k : Nat} (h : P k = false) : cnt P (k + 1) = cnt P k := by
  unfold cnt; rw [List.range_succ, List.filter_append]; simp [h]
theorem cnt_yes {P : Nat → Bool} {k : Nat} (h : P k = true) : cnt P (k + 1) = cnt P k + 1 := by
  unfold cnt; rw [List.range_succ, List.filter_append]; simp [h]
theorem cnt_le (P : Nat → Bool) (k : Nat) : cnt P k ≤ k := by
  unfold cnt; exact Nat.le_trans (List.length_filter_le _ _) (by simp)
theorem cnt_at {P : Nat → Bool} {k n : Nat} (hk : k < n) (h : P k = true) : ((List.range n).filter P)[cnt P k]? = some k := by
  have e : List.range n = List.range k ++ (List.range (n - k)).map (k + ·) := by rw [← List.range_add]; congr 1; omega
  have e2 : List.range (n - k) = 0 :: (List.range (n - k - 1)).map Nat.succ := by rw [← List.range_succ_eq_map]; congr 1; omega
  rw [e, List.filter_append]
  unfold cnt
  rw [List.getElem?_append_right (Nat.le_refl _), Nat.sub_self, e2]
  simp [h]
theorem cnt_lt {P : Nat → Bool} {k n : Nat} (hk : k < n) (h : P k = true) : cnt P k < ((List.range n).filter P).length := by
  have := cnt_at hk h
  exact (List.getElem?_eq_some_iff.1 this).1

/-- A list of ids in new memory, as a slice. -/
theorem own_form {w : World} {base : Nat} {v : Value} {ids : List Nat} (h : w.ownsRow base 3 1 v ids.length (ids.map fun i : Nat => .int .i64 (i : Int))) :
    ∃ a cap, v = .slice a ids.length cap ∧ ∀ k i : Nat, ids[k]? = some i → ∃ g, a = some ⟨g, 0, none⟩ ∧ w.cell? ⟨g, k, none⟩ = some (.int .i64 (i : Int)) := by
  rcases h.2 with ⟨hv, h0⟩ | ⟨g, cap, cur, hv, -, hg, -, -, -, ht⟩
  · refine ⟨none, 0, by rw [hv, h0], fun k i hk => ?_⟩
    have := (List.getElem?_eq_some_iff.1 hk).1
    omega
  · refine ⟨some ⟨g, 0, none⟩, cap, hv, fun k i hk => ⟨g, rfl, ?_⟩⟩
    have hkl := (List.getElem?_eq_some_iff.1 hk).1
    rw [cell_of_row w g k _ _ _ hg]
    have h1 := congrArg (fun l => l[k]?) ht
    simp only [List.getElem?_take, Nat.mul_one] at h1
    rw [if_pos hkl] at h1
    rw [← Array.getElem?_toList, h1, List.getElem?_map, hk]; rfl
end Go.Proofs.Ytnlkalbkjocoaaa
