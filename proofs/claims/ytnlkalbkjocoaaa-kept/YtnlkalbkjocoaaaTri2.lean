/-
  Triangles that go k to the right and k up, as points: their box, what they have, what a shift makes of them (for the law Kept).
-/
import Derived.Test.YtnlkalbkjocoaaaTold
import Derived.Test.YtnlkalbkjocoaaaTri
namespace Go.Proofs.Ytnlkalbkjocoaaa
open Go.Shelf Go.RowKit

/-- The triangle at (u, v), k to the right and k up. -/
def triQ (u v k : Int) : List Q := [mkQ u v, mkQ (u + k) v, mkQ u (v + k)]
/-- All its corners are points. -/
def TriOk (u v k : Int) : Prop := 0 < k ∧ -1048576 ≤ u ∧ u + k ≤ 1048576 ∧ -1048576 ≤ v ∧ v + k ≤ 1048576

theorem triQ_parts {u v k : Int} (h : TriOk u v k) : qx (mkQ u v) = u ∧ qy (mkQ u v) = v ∧ qx (mkQ (u + k) v) = u + k ∧ qy (mkQ (u + k) v) = v ∧ qx (mkQ u (v + k)) = u ∧ qy (mkQ u (v + k)) = v + k ∧ qx (mkQ (u + k) (v + k)) = u + k ∧ qy (mkQ (u + k) (v + k)) = v + k := by
  unfold TriOk at h
  refine ⟨qx_mk _ _ (by omega), qy_mk _ _ (by omega), qx_mk _ _ (by omega), qy_mk _ _ (by omega), qx_mk _ _ (by omega), qy_mk _ _ (by omega), qx_mk _ _ (by omega), qy_mk _ _ (by omega)⟩

theorem triQ_box {u v k : Int} (h : TriOk u v k) : BoxOf (triQ u v k) (mkQ u v) (mkQ (u + k) (v + k)) := by
  obtain ⟨e1, e2, e3, e4, e5, e6, e7, e8⟩ := triQ_parts h
  have h0 := h.1
  unfold triQ
  refine ⟨fun t ht => ?_, ⟨_, by simp, rfl⟩, ⟨mkQ (u + k) v, by simp, by omega⟩, ⟨_, by simp, rfl⟩, ⟨mkQ u (v + k), by simp, by omega⟩⟩
  simp only [List.mem_cons, List.not_mem_nil, or_false] at ht
  rcases ht with rfl | rfl | rfl <;> omega

/-- What the shape answers of a point. -/
theorem triQ_hit {u v k : Int} (h : TriOk u v k) (p : Q) (h0 : 0 < ((triQ u v k).map qc).length) :
    ((windsL (qc p) ((triQ u v k).map qc) h0).2 || decide ((windsL (qc p) ((triQ u v k).map qc) h0).1 ≠ 0)) = decide (u ≤ qx p ∧ v ≤ qy p ∧ qx p - u + (qy p - v) ≤ k) := by
  obtain ⟨e1, e2, e3, e4, e5, e6, -, -⟩ := triQ_parts h
  have := tri_hit ((qc (mkQ u v)).sub (qc p)) ((qc (mkQ (u + k) v)).sub (qc p)) ((qc (mkQ u (v + k))).sub (qc p)) (u - qx p) (v - qy p) k h.1
    (by rw [C.X_sub, qX, qX, e1]) (by rw [C.Y_sub, qY, qY, e2]) (by rw [C.X_sub, qX, qX, e3]; omega) (by rw [C.Y_sub, qY, qY, e4]) (by rw [C.X_sub, qX, qX, e5]) (by rw [C.Y_sub, qY, qY, e6]; omega)
  refine Eq.trans this (decide_eq_decide.2 ?_)
  omega

/-- Whoever hits it is in its box. -/
theorem triQ_in {u v k : Int} (h : TriOk u v k) (p : Q) (hp : u ≤ qx p ∧ v ≤ qy p ∧ qx p - u + (qy p - v) ≤ k) : u ≤ qx p ∧ qx p ≤ u + k ∧ v ≤ qy p ∧ qy p ≤ v + k := by
  have := h.1; omega

/-- A shift of it. -/
theorem triQ_move {u v k s t : Int} (h : TriOk u v k) (h' : TriOk (u + s) (v + t) k) : ((triQ u v k).map qc).map (C.move (C.of 1 0) (C.of s t)) = (triQ (u + s) (v + t) k).map qc := by
  have a := triQ_parts h
  have b := triQ_parts h'
  unfold triQ
  simp only [List.map_cons, List.map_nil]
  unfold qc C.move
  rw [a.1, a.2.1, a.2.2.1, a.2.2.2.1, a.2.2.2.2.1, a.2.2.2.2.2.1, b.1, b.2.1, b.2.2.1, b.2.2.2.1, b.2.2.2.2.1, b.2.2.2.2.2.1, move_one, move_one, move_one]
  rw [show u + k + s = u + s + k by omega, show v + k + t = v + t + k by omega]

/-- The law's triangle is one. -/
theorem triL_is (x y z : Int) : triL x y z = triQ (triX x) (triX y) (triK z) := rfl
theorem triL_ok (x y z : Int) : TriOk (triX x) (triX y) (triK z) := by
  have a1 := triX_bd x
  have a2 := triX_bd y
  have a3 := triK_bd z
  unfold TriOk; omega

/-- Two boxes meet: no part of the greater first corner is beyond the lesser second one. -/
def meets (a b c d : Q) : Prop := qx a ≤ qx d ∧ qx c ≤ qx b ∧ qy a ≤ qy d ∧ qy c ≤ qy b
theorem meets_iff (a b c d : Q) (h1 : qx a ≤ qx b) (h2 : qy a ≤ qy b) (h3 : qx c ≤ qx d) (h4 : qy c ≤ qy d) :
    (qx (qmax a c) ≤ qx (qmin b d) ∧ qy (qmax a c) ≤ qy (qmin b d)) ↔ meets a b c d := by
  rw [qx_max, qx_min, qy_max, qy_min]; unfold meets; omega
end Go.Proofs.Ytnlkalbkjocoaaa
