/-
  What partsAreWhole, IsPoint, crossesRay and the law's own X, Y, pick, at answer.
-/
import Derived.Test.YtnlkalbkjocoaaaLeaf
import Derived.Deep.RegionWith
namespace Go.Proofs.Ytnlkalbkjocoaaa
open Go.RowKit

set_option maxHeartbeats 400000 in
theorem parts_any (a : C) (m : Z) (hr : a.re.small) (hi : a.im.small) (hm : m.small) (w : World) :
    Calls Try.prog 56 #[.complex .f64 a.re.bits a.im.bits, .float .f64 m.bits] w fun e w' => e = .returned (.bool (C.within m.val a)) ∧ w' = w := by
  have h1 := fun w => isWhole_any a.re m hr hm w
  have h2 := fun w => isWhole_any a.im m hi hm w
  have e : C.within m.val a = (wholeB a.re.val m.val && wholeB a.im.val m.val) := rfl
  clear hr hi hm
  cases g1 : wholeB a.re.val m.val with
  | true =>
    rw [g1, Bool.true_and] at e
    have G : Hid (C.within m.val a = wholeB a.im.val m.val) := e
    clear e
    rw [g1] at h1
    clear g1
    go_enter Try.func56, Try.ntmps56
    go_wp2_with (first | (go_at_call_of 83 (Value.float .f64 a.re.bits); refine (h1 _).mono ?_; rintro e w' ⟨rfl, rfl⟩) | (go_at_call_of 83 (Value.float .f64 a.im.bits); refine (h2 _).mono ?_; rintro e w' ⟨rfl, rfl⟩))
    go_ret
    exact ⟨ret_bool G.out.symm, rfl⟩
  | false =>
    rw [g1, Bool.false_and] at e
    have G : Hid (C.within m.val a = false) := e
    clear e
    rw [g1] at h1
    clear g1
    go_enter Try.func56, Try.ntmps56
    go_wp2_with (first | (go_at_call_of 83 (Value.float .f64 a.re.bits); refine (h1 _).mono ?_; rintro e w' ⟨rfl, rfl⟩))
    go_ret
    exact ⟨ret_bool G.out.symm, rfl⟩

theorem maxPart_bits : (4697254411347427328 : Nat) = (Z.mk false 1048576).bits := by decide +kernel
theorem maxScale_bits : (4634204016564240384 : Nat) = (Z.mk false 64).bits := by decide +kernel

set_option maxHeartbeats 400000 in
theorem isPoint_any (a : C) (hr : a.re.small) (hi : a.im.small) (w : World) :
    Calls Try.prog 34 #[.complex .f64 a.re.bits a.im.bits] w fun e w' => e = .returned (.bool (C.within 1048576 a)) ∧ w' = w := by
  have h1 := fun w => parts_any a (Z.mk false 1048576) hr hi (by unfold Z.small; decide) w
  rw [← maxPart_bits] at h1
  have hv : (Z.mk false 1048576).val = 1048576 := rfl
  rw [hv] at h1
  clear hr hi hv
  go_enter Try.func34, Try.ntmps34
  go_wp2_with (go_at_call 56; refine (h1 _).mono ?_; rintro e w' ⟨rfl, rfl⟩)
  go_ret
  exact ⟨rfl, rfl⟩

set_option maxHeartbeats 400000 in
theorem X_any (a : C) (hr : a.re.small) (w : World) :
    Calls Try.prog 15 #[.complex .f64 a.re.bits a.im.bits] w fun e w' => e = .returned (.int .i64 a.X) ∧ w' = w := by
  have hc : ∀ w, (convert 61 3 (.float .f64 a.re.bits)).run Try.prog w = .ok (.int .i64 a.X) w := fun w => run_convert_float_int w 61 3 .f64 .i64 a.re.bits a.X (by rw [Try.underlying61]; rfl) Try.underlying3 (Z.toInt_bits _ hr)
  clear hr
  go_enter Try.func15, Try.ntmps15
  go_wp2
  go_ret
  exact ⟨rfl, rfl⟩

set_option maxHeartbeats 400000 in
theorem Y_any (a : C) (hr : a.im.small) (w : World) :
    Calls Try.prog 16 #[.complex .f64 a.re.bits a.im.bits] w fun e w' => e = .returned (.int .i64 a.Y) ∧ w' = w := by
  have hc : ∀ w, (convert 61 3 (.float .f64 a.im.bits)).run Try.prog w = .ok (.int .i64 a.Y) w := fun w => run_convert_float_int w 61 3 .f64 .i64 a.im.bits a.Y (by rw [Try.underlying61]; rfl) Try.underlying3 (Z.toInt_bits _ hr)
  clear hr
  go_enter Try.func16, Try.ntmps16
  go_wp2
  go_ret
  exact ⟨rfl, rfl⟩

/-- What 'pick' picks. -/
def pickI (c n : Int) : Int := (if c < 0 then -(c + 1) else c) % n
theorem pickI_bd (c n : Int) (h : 0 < n) : 0 ≤ pickI c n ∧ pickI c n < n := ⟨Int.emod_nonneg _ (by omega), Int.emod_lt_of_pos _ h⟩

set_option maxHeartbeats 400000 in
theorem pick_any (c n : Int) (hn : 0 < n) (hn' : n < 1000000) (h1 : -9223372036854775808 ≤ c) (h2 : c ≤ 9223372036854775807) (w : World) :
    Calls Try.prog 11 #[.int .i64 c, .int .i64 n] w fun e w' => e = .returned (.int .i64 (pickI c n)) ∧ w' = w := by
  have hnz : ¬ n = 0 := by omega
  by_cases hc : c < 0
  · have e : pickI c n = -(c + 1).tmod n := by unfold pickI; rw [if_pos hc, ← Int.neg_tmod, Int.tmod_eq_emod_of_nonneg (by omega)]
    have G : Hid (pickI c n = -(c + 1).tmod n) := e
    clear e
    go_enter Try.func11, Try.ntmps11
    go_wp2
    go_ret
    exact ⟨ret_int (by rw [G.out]), rfl⟩
  · have e : pickI c n = c % n := by unfold pickI; rw [if_neg hc]
    have G : Hid (pickI c n = c % n) := e
    clear e
    go_enter Try.func11, Try.ntmps11
    go_wp2
    go_ret
    exact ⟨ret_int (by rw [G.out]), rfl⟩

theorem le0 (x : Z) (h : x.small) : (FloatKind.f64.format.order x.bits 0 == some .lt || FloatKind.f64.format.order x.bits 0 == some .eq) = decide (x.val ≤ 0) := by
  rw [lt0 x h, eq0 x h, le_bool]

set_option maxHeartbeats 400000 in
theorem ray_any (a b : C) (m n : Int) (ha : a.lim m) (hb : b.lim n) (hm : m < 9007199254740992) (hn : n < 9007199254740992) (hmn : m * n ≤ 1125899906842624) (w : World) :
    Calls Try.prog 58 #[.complex .f64 a.re.bits a.im.bits, .complex .f64 b.re.bits b.im.bits] w fun e w' => e = .returned (.int .i64 (C.rayI a b)) ∧ w' = w := by
  have hc := fun w => cross_any a b m n ha hb hm hn hmn w
  have hl := C.lim_mul (C.lim_conj ha) hb
  have e1 : (a.conj.mul b).im.val = C.cr a b := C.Y_conj_mul a b
  have c1 := lt0 _ (C.small_im hl (by omega))
  have c2 := gt0 _ (C.small_im hl (by omega))
  rw [e1] at c1 c2
  have a1 := le0 _ (C.small_im ha hm)
  have a2 := gt0 _ (C.small_im ha hm)
  have b1 := le0 _ (C.small_im hb hn)
  have b2 := gt0 _ (C.small_im hb hn)
  have ea : a.im.val = a.Y := rfl
  have eb : b.im.val = b.Y := rfl
  rw [ea] at a1 a2
  rw [eb] at b1 b2
  clear ea eb e1 hl ha hb hmn
  by_cases g1 : a.Y ≤ 0
  · have g1' : ¬ 0 < a.Y := by omega
    rw [decide_eq_true g1] at a1
    rw [decide_eq_false g1'] at a2
    by_cases g2 : 0 < b.Y
    · have g2' : ¬ b.Y ≤ 0 := by omega
      rw [decide_eq_false g2'] at b1
      rw [decide_eq_true g2] at b2
      by_cases g3 : 0 < C.cr a b
      · rw [decide_eq_true g3] at c2
        have G : Hid (C.rayI a b = 1) := by unfold C.rayI; rw [if_pos ⟨g1, g2, g3⟩]; exact rfl
        clear g1 g2 g3 g1' g2' c1
        go_enter Try.func58, Try.ntmps58
        go_wp2_with (go_at_call 55; refine (hc _).mono ?_; rintro e w' ⟨rfl, rfl⟩)
        go_ret
        exact ⟨ret_int G.out.symm, rfl⟩
      · rw [decide_eq_false g3] at c2
        have G : Hid (C.rayI a b = 0) := by unfold C.rayI; rw [if_neg (by omega), if_neg (by omega)]; exact rfl
        clear g1 g2 g3 g1' g2' c1
        go_enter Try.func58, Try.ntmps58
        go_wp2_with (go_at_call 55; refine (hc _).mono ?_; rintro e w' ⟨rfl, rfl⟩)
        go_ret
        exact ⟨ret_int G.out.symm, rfl⟩
    · have g2' : b.Y ≤ 0 := by omega
      rw [decide_eq_true g2'] at b1
      rw [decide_eq_false g2] at b2
      have G : Hid (C.rayI a b = 0) := by unfold C.rayI; rw [if_neg (by omega), if_neg (by omega)]; exact rfl
      clear g1 g2 g1' g2' c1 c2
      go_enter Try.func58, Try.ntmps58
      go_wp2
      go_ret
      exact ⟨ret_int G.out.symm, rfl⟩
  · have g1' : 0 < a.Y := by omega
    rw [decide_eq_false g1] at a1
    rw [decide_eq_true g1'] at a2
    by_cases g2 : b.Y ≤ 0
    · have g2' : ¬ 0 < b.Y := by omega
      rw [decide_eq_true g2] at b1
      rw [decide_eq_false g2'] at b2
      by_cases g3 : C.cr a b < 0
      · rw [decide_eq_true g3] at c1
        have G : Hid (C.rayI a b = -1) := by unfold C.rayI; rw [if_neg (by omega), if_pos ⟨g2, g1', g3⟩]; exact rfl
        clear g1 g2 g3 g1' g2' c2
        go_enter Try.func58, Try.ntmps58
        go_wp2_with (go_at_call 55; refine (hc _).mono ?_; rintro e w' ⟨rfl, rfl⟩)
        go_ret
        exact ⟨ret_int G.out.symm, rfl⟩
      · rw [decide_eq_false g3] at c1
        have G : Hid (C.rayI a b = 0) := by unfold C.rayI; rw [if_neg (by omega), if_neg (by omega)]; exact rfl
        clear g1 g2 g3 g1' g2' c2
        go_enter Try.func58, Try.ntmps58
        go_wp2_with (go_at_call 55; refine (hc _).mono ?_; rintro e w' ⟨rfl, rfl⟩)
        go_ret
        exact ⟨ret_int G.out.symm, rfl⟩
    · have g2' : 0 < b.Y := by omega
      rw [decide_eq_false g2] at b1
      rw [decide_eq_true g2'] at b2
      have G : Hid (C.rayI a b = 0) := by unfold C.rayI; rw [if_neg (by omega), if_neg (by omega)]; exact rfl
      clear g1 g2 g1' g2' c1 c2
      go_enter Try.func58, Try.ntmps58
      go_wp2
      go_ret
      exact ⟨ret_int G.out.symm, rfl⟩

/-- What 'at' makes. -/
def atC (x y most : Int) : C := C.of (pickI x (2 * most + 1) - most) (pickI y (2 * most + 1) - most)
theorem atC_lim (x y most : Int) (h : 0 ≤ most) : (atC x y most).lim most := by
  have h1 := pickI_bd x (2 * most + 1) (by omega)
  have h2 := pickI_bd y (2 * most + 1) (by omega)
  unfold atC C.lim; rw [C.X_of, C.Y_of]; omega

set_option maxHeartbeats 400000 in
theorem at_any (x y most : Int) (h0 : 0 ≤ most) (h0' : most < 400000) (h1 : -9223372036854775808 ≤ x) (h2 : x ≤ 9223372036854775807) (h3 : -9223372036854775808 ≤ y) (h4 : y ≤ 9223372036854775807) (w : World) :
    Calls Try.prog 10 #[.int .i64 x, .int .i64 y, .int .i64 most] w fun e w' => e = .returned (.complex .f64 (atC x y most).re.bits (atC x y most).im.bits) ∧ w' = w := by
  have c1 := fun w => pick_any x (2 * most + 1) (by omega) (by omega) h1 h2 w
  have c2 := fun w => pick_any y (2 * most + 1) (by omega) (by omega) h3 h4 w
  have p1 := pickI_bd x (2 * most + 1) (by omega)
  have p2 := pickI_bd y (2 * most + 1) (by omega)
  clear h1 h2 h3 h4
  go_enter Try.func10, Try.ntmps10
  go_wp2_with fail
  refine (c1 _).mono ?_
  rintro e w' ⟨rfl, rfl⟩
  go_wp2_with fail
  refine (c2 _).mono ?_
  rintro e w' ⟨rfl, rfl⟩
  go_wp2_with fail
  go_ret
  exact ⟨rfl, rfl⟩
end Go.Proofs.Ytnlkalbkjocoaaa
