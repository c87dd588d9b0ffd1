/-
  What the leaves of package plane answer on complex numbers with whole parts: conjugate, Cross, touchesOrigin, crossesRay, isWhole, partsAreWhole, IsPoint.
-/
import Derived.Test.YtnlkalbkjocoaaaCx
import Derived.Test.YtnlkalbkjocoaaaChecked
import Derived.WalkKit
import Derived.WalkSpells
import Derived.WalkLawsBesides
import Derived.KernelRfl
namespace Go.Proofs.Ytnlkalbkjocoaaa
open Go.RowKit

theorem un_neg (b : Nat) : Op.unary .neg (.float .f64 b) = pure (.float .f64 (Op.negFloat .f64 b)) := rfl

set_option maxHeartbeats 400000 in
theorem conjugate_any (a : C) (m : Int) (ha : a.lim m) (hm : m < 9007199254740992) (w : World) :
    Calls Try.prog 74 #[.complex .f64 a.re.bits a.im.bits] w fun e w' => e = .returned (.complex .f64 a.conj.re.bits a.conj.im.bits) ∧ w' = w := by
  have hn : Op.negFloat .f64 a.im.bits = a.im.opp.bits := Z.neg_bits _ (C.small_im ha hm)
  have hu := un_neg
  clear ha
  go_enter Try.func74, Try.ntmps74
  go_wp2
  go_ret
  exact ⟨rfl, rfl⟩

set_option maxHeartbeats 400000 in
theorem cross_any (a b : C) (m n : Int) (ha : a.lim m) (hb : b.lim n) (hm : m < 9007199254740992) (hn : n < 9007199254740992) (hmn : m * n ≤ 1125899906842624) (w : World) :
    Calls Try.prog 55 #[.complex .f64 a.re.bits a.im.bits, .complex .f64 b.re.bits b.im.bits] w fun e w' => e = .returned (.float .f64 (a.conj.mul b).im.bits) ∧ w' = w := by
  have hc := fun w => conjugate_any a m ha hm w
  have hop := fun t w => run_complex_mul (P := Try.prog) w t _ _ _ _ _ _ (C.bits_mul (C.lim_conj ha) hb hm hn hmn)
  clear ha hb hmn
  go_enter Try.func55, Try.ntmps55
  go_wp2_with (go_at_call 74; refine (hc _).mono ?_; rintro e w' ⟨rfl, rfl⟩)
  go_ret
  exact ⟨rfl, rfl⟩

theorem zero_bits : (0 : Nat) = (Z.mk false 0).bits := by decide
theorem zero_small : (Z.mk false 0).small := by unfold Z.small; decide
theorem ret_bool {a b : Bool} (h : a = b) : Ending.returned (.bool a) = .returned (.bool b) := by rw [h]
theorem ret_int {k : IntKind} {a b : Int} (h : a = b) : Ending.returned (.int k a) = .returned (.int k b) := by rw [h]
theorem le_bool (x y : Int) : decide (x ≤ y) = (decide (x < y) || decide (x = y)) := by
  by_cases h : x < y
  · simp [h]; omega
  · by_cases h' : x = y
    · simp [h']
    · have : ¬ x ≤ y := by omega
      simp [h, h', this]
theorem eq0 (x : Z) (h : x.small) : (FloatKind.f64.format.order x.bits 0 == some .eq) = decide (x.val = 0) := by
  have := Z.eq_bits x _ h zero_small; rwa [← zero_bits] at this
theorem lt0 (x : Z) (h : x.small) : (FloatKind.f64.format.order x.bits 0 == some .lt) = decide (x.val < 0) := by
  have := Z.lt_bits x _ h zero_small; rwa [← zero_bits] at this
theorem gt0 (x : Z) (h : x.small) : (FloatKind.f64.format.order x.bits 0 == some .gt) = decide (0 < x.val) := by
  have := Z.gt_bits x _ h zero_small; rwa [← zero_bits] at this

set_option maxHeartbeats 400000 in
theorem touches_any (a b : C) (m n : Int) (ha : a.lim m) (hb : b.lim n) (hm : m < 9007199254740992) (hn : n < 9007199254740992) (hmn : m * n ≤ 1125899906842624) (w : World) :
    Calls Try.prog 57 #[.complex .f64 a.re.bits a.im.bits, .complex .f64 b.re.bits b.im.bits] w fun e w' => e = .returned (.bool (C.touchB a b)) ∧ w' = w := by
  have hc := fun w => conjugate_any a m ha hm w
  have hop := fun t w => run_complex_mul (P := Try.prog) w t _ _ _ _ _ _ (C.bits_mul (C.lim_conj ha) hb hm hn hmn)
  have hl := C.lim_mul (C.lim_conj ha) hb
  have h1 := eq0 _ (C.small_im hl (by omega))
  have h2 := lt0 _ (C.small_re hl (by omega))
  have h3 := eq0 _ (C.small_re hl (by omega))
  have e1 : (a.conj.mul b).im.val = C.cr a b := C.Y_conj_mul a b
  have e2 : (a.conj.mul b).re.val = C.dt a b := C.X_conj_mul a b
  rw [e1] at h1; rw [e2] at h2 h3
  clear ha hb hmn hl e1 e2
  by_cases g1 : C.cr a b = 0
  · have g1' : decide (C.cr a b = 0) = true := decide_eq_true g1
    rw [g1'] at h1
    have G : Hid (C.touchB a b = (decide (C.dt a b < 0) || decide (C.dt a b = 0))) := by
      unfold C.touchB; rw [g1', Bool.true_and]; exact le_bool _ _
    clear g1 g1'
    go_enter Try.func57, Try.ntmps57
    go_wp2_with (go_at_call 74; refine (hc _).mono ?_; rintro e w' ⟨rfl, rfl⟩)
    go_ret
    exact ⟨ret_bool G.out.symm, rfl⟩
  · have g1' : decide (C.cr a b = 0) = false := decide_eq_false g1
    rw [g1'] at h1
    have G : Hid (C.touchB a b = false) := by
      unfold C.touchB; rw [g1', Bool.false_and]; exact rfl
    clear g1 g1'
    go_enter Try.func57, Try.ntmps57
    go_wp2_with (go_at_call 74; refine (hc _).mono ?_; rintro e w' ⟨rfl, rfl⟩)
    go_ret
    exact ⟨ret_bool G.out.symm, rfl⟩

theorem arch_trunc (x : Z) (h : x.small) (w : World) : (callFunc 116 #[.float .f64 x.bits]).run Try.prog w = .ok (.value (.float .f64 x.bits)) w := by
  rw [run_callFunc_extern (e := Extern.MathFloor.toIntegral "math.archTrunc" .zero) Try.func116 (by kernel_rfl) (by kernel_rfl) (by kernel_rfl) (by kernel_rfl), Z.trunc_bits x h]
  rfl

set_option maxHeartbeats 400000 in
theorem trunc_any (x : Z) (h : x.small) (w : World) : Calls Try.prog 95 #[.float .f64 x.bits] w fun e w' => e = .returned (.float .f64 x.bits) ∧ w' = w := by
  have ht := fun w => arch_trunc x h w
  clear h
  go_enter Try.func95, Try.ntmps95
  go_wp2
  go_ret
  exact ⟨rfl, rfl⟩

/-- Does x lie from -m to m? -/
def wholeB (x m : Int) : Bool := decide (-m ≤ x) && decide (x ≤ m)

set_option maxHeartbeats 400000 in
theorem isWhole_any (x m : Z) (hx : x.small) (hm : m.small) (w : World) : Calls Try.prog 83 #[.float .f64 x.bits, .float .f64 m.bits] w fun e w' => e = .returned (.bool (wholeB x.val m.val)) ∧ w' = w := by
  have ht := fun w => trunc_any x hx w
  have hu := un_neg
  have hn : Op.negFloat .f64 m.bits = m.opp.bits := Z.neg_bits _ hm
  have h1 := Z.lt_bits m.opp x hm hx
  have h2 := Z.eq_bits m.opp x hm hx
  have h3 := Z.lt_bits x m hx hm
  have h4 := Z.eq_bits x m hx hm
  have h5 := Z.eq_bits x x hx hx
  have ho := le_bool m.opp.val x.val
  have ho' := le_bool x.val m.val
  rw [Z.val_opp] at h1 h2 ho
  clear hx hm
  by_cases g1 : -m.val ≤ x.val
  · by_cases g2 : x.val ≤ m.val
    · have G : Hid (wholeB x.val m.val = true) := by unfold wholeB; simp [g1, g2, Hid]
      rw [decide_eq_true g1] at ho
      rw [decide_eq_true g2] at ho'
      clear g1 g2
      simp only [decide_true] at h5
      rw [← h1, ← h2] at ho
      rw [← h3, ← h4] at ho'
      clear h1 h2 h3 h4
      replace ho := ho.symm
      replace ho' := ho'.symm
      go_enter Try.func83, Try.ntmps83
      go_wp2_with (go_at_call 95; refine (ht _).mono ?_; rintro e w' ⟨rfl, rfl⟩)
      go_ret
      exact ⟨ret_bool G.out.symm, rfl⟩
    · have G : Hid (wholeB x.val m.val = false) := by unfold wholeB; simp [g2, Hid]
      rw [decide_eq_true g1] at ho
      rw [decide_eq_false g2] at ho'
      clear g1 g2 h5
      rw [← h1, ← h2] at ho
      rw [← h3, ← h4] at ho'
      clear h1 h2 h3 h4
      replace ho := ho.symm
      replace ho' := ho'.symm
      go_enter Try.func83, Try.ntmps83
      go_wp2
      go_ret
      exact ⟨ret_bool G.out.symm, rfl⟩
  · have G : Hid (wholeB x.val m.val = false) := by unfold wholeB; simp [g1, Hid]
    rw [decide_eq_false g1] at ho
    clear g1 h5 ho' h3 h4
    rw [← h1, ← h2] at ho
    clear h1 h2
    replace ho := ho.symm
    go_enter Try.func83, Try.ntmps83
    go_wp2
    go_ret
    exact ⟨ret_bool G.out.symm, rfl⟩
end Go.Proofs.Ytnlkalbkjocoaaa
