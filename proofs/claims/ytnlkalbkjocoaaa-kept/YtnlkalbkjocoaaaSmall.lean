/-
  What the law's small and distance answer.
-/
import Derived.Test.YtnlkalbkjocoaaaNear
import Derived.BigQuiet
namespace Go.Proofs.Ytnlkalbkjocoaaa
open Go.Shelf Go.RowKit

/-- A point of two numbers. -/
def mkQ (x y : Int) : Q := (⟨(x + 1048576).toNat % 2097153, Nat.mod_lt _ (by omega)⟩, ⟨(y + 1048576).toNat % 2097153, Nat.mod_lt _ (by omega)⟩)
theorem qx_mk (x y : Int) (h : -1048576 ≤ x ∧ x ≤ 1048576) : qx (mkQ x y) = x := by
  unfold qx mkQ; simp only; rw [Nat.mod_eq_of_lt (by omega)]; omega
theorem qy_mk (x y : Int) (h : -1048576 ≤ y ∧ y ≤ 1048576) : qy (mkQ x y) = y := by
  unfold qy mkQ; simp only; rw [Nat.mod_eq_of_lt (by omega)]; omega
theorem qe_mk (x y : Int) (h : -1048576 ≤ x ∧ x ≤ 1048576) (h' : -1048576 ≤ y ∧ y ≤ 1048576) : qe (mkQ x y) = .complex .f64 (Z.of x).bits (Z.of y).bits := by
  rw [qe_eq, qx_mk x y h, qy_mk x y h']

theorem Z.add_of (a b : Int) : (Z.of a).add (Z.of b) = Z.of (a + b) := by
  refine Z.ext' ?_ ?_
  · show (if (Z.of a).val + (Z.of b).val = 0 then (Z.of a).neg && (Z.of b).neg else decide ((Z.of a).val + (Z.of b).val < 0)) = decide (a + b < 0)
    rw [Z.val_of, Z.val_of]
    split
    · show (decide (a < 0) && decide (b < 0)) = decide (a + b < 0)
      by_cases h1 : a < 0 <;> by_cases h2 : b < 0 <;> simp [h1, h2] <;> omega
    · rfl
  · show ((Z.of a).val + (Z.of b).val).natAbs = (a + b).natAbs
    rw [Z.val_of, Z.val_of]

/-- The corner and the size of the law's triangle. -/
def triX (x : Int) : Int := pickI x 601 - 300
def triK (z : Int) : Int := 1 + pickI z 40
theorem triX_bd (x : Int) : -300 ≤ triX x ∧ triX x ≤ 300 := by have := pickI_bd x 601 (by omega); unfold triX; omega
theorem triK_bd (z : Int) : 1 ≤ triK z ∧ triK z ≤ 40 := by have := pickI_bd z 40 (by omega); unfold triK; omega
/-- The law's triangle. -/
def triL (x y z : Int) : List Q := [mkQ (triX x) (triX y), mkQ (triX x + triK z) (triX y), mkQ (triX x) (triX y + triK z)]

theorem small_core (kd id x y z k : Int) (a1 a2 k0 b1 b2 c1 c2 : Nat) (w : World)
    (h1 : ∀ w, Calls Try.prog 10 #[.int .i64 x, .int .i64 y, .int .i64 300] w fun e w' => e = .returned (.complex .f64 a1 a2) ∧ w' = w)
    (h2 : ∀ w, Calls Try.prog 11 #[.int .i64 z, .int .i64 40] w fun e w' => e = .returned (.int .i64 k) ∧ w' = w)
    (hk : IntKind.i64.wrap (1 + k) = 1 + k) (hcv : floatOfInt .f64 (1 + k) = k0)
    (hs1 : ∀ t w, (binOp .add t (.complex .f64 a1 a2) (.complex .f64 k0 0)).run Try.prog w = .ok (.complex .f64 b1 b2) w)
    (hs2 : ∀ t w, (binOp .add t (.complex .f64 a1 a2) (.complex .f64 0 k0)).run Try.prog w = .ok (.complex .f64 c1 c2) w) :
    Calls Try.prog 22 #[.agg #[.int .i64 kd, .int .i64 id, .int .i64 x, .int .i64 y, .int .i64 z]] w fun e w' => e = .returned (.slice (some ⟨w.heap.size + 1, 0, none⟩) 3 3) ∧
      w' = (w.alloc (.cells #[.int .i64 kd, .int .i64 id, .int .i64 x, .int .i64 y, .int .i64 z] 57)).alloc (.cells #[.complex .f64 a1 a2, .complex .f64 b1 b2, .complex .f64 c1 c2] 26) := by
  go_enter Try.func22, Try.ntmps22
  go_wp2_with (first | (go_at_call 10; refine (h1 _).mono ?_; rintro e w' ⟨rfl, rfl⟩) | (go_at_call 11; refine (h2 _).mono ?_; rintro e w' ⟨rfl, rfl⟩))
  go_ret
  exact ⟨rfl, rfl⟩

theorem small_any (kd id x y z : Int) (hx : -9223372036854775808 ≤ x ∧ x ≤ 9223372036854775807) (hy : -9223372036854775808 ≤ y ∧ y ≤ 9223372036854775807) (hz : -9223372036854775808 ≤ z ∧ z ≤ 9223372036854775807) (w : World) :
    Calls Try.prog 22 #[.agg #[.int .i64 kd, .int .i64 id, .int .i64 x, .int .i64 y, .int .i64 z]] w fun e w' => e = .returned (.slice (some ⟨w.heap.size + 1, 0, none⟩) 3 3) ∧
      At w' (w.heap.size + 1) 0 (triL x y z) ∧ w.heap.size + 1 < w'.heap.size ∧ Below w.heap.size w w' := by
  have a1 := triX_bd x
  have a2 := triX_bd y
  have a3 := triK_bd z
  have hk : 1 + pickI z 40 = triK z := rfl
  have hA : atC x y 300 = C.of (triX x) (triX y) := rfl
  have lA : (C.of (triX x) (triX y)).lim 300 := by have := atC_lim x y 300 (by omega); rwa [hA] at this
  have lK : (C.of (triK z) 0).lim 40 := by unfold C.lim; rw [C.X_of, C.Y_of]; omega
  have lK' : (C.of 0 (triK z)).lim 40 := by unfold C.lim; rw [C.X_of, C.Y_of]; omega
  have hcv : floatOfInt .f64 (1 + pickI z 40) = (Z.of (triK z)).bits := rfl
  have h := small_core kd id x y z (pickI z 40) _ _ _ _ _ _ _ w (fun w => at_any x y 300 (by omega) (by omega) hx.1 hx.2 hy.1 hy.2 w) (fun w => pick_any z 40 (by omega) (by omega) hz.1 hz.2 w)
    (by rw [IntKind.wrap_i64]; omega) hcv
    (fun t w => by have := run_complex_sum (P := Try.prog) w .add (Or.inl rfl) t .f64 _ _ _ _ _ _ (C.bits_add lA lK (by decide) (by decide) (by decide)); rw [hA, show (0 : Nat) = (Z.of 0).bits from b0.symm]; exact this)
    (fun t w => by have := run_complex_sum (P := Try.prog) w .add (Or.inl rfl) t .f64 _ _ _ _ _ _ (C.bits_add lA lK' (by decide) (by decide) (by decide)); rw [hA, show (0 : Nat) = (Z.of 0).bits from b0.symm]; exact this)
  refine h.mono ?_
  rintro e w' ⟨rfl, rfl⟩
  refine ⟨rfl, fun k hk => ?_, by simp, ((Below.refl _ _).alloc (Nat.le_refl _) _).alloc (by simp) _⟩
  rw [cell_of_row _ _ _ _ _ _ (heap_last _ _ _ (by simp))]
  have e1 : (C.of (triX x) (triX y)).add (C.of (triK z) 0) = C.of (triX x + triK z) (triX y) := by
    show (⟨(Z.of _).add (Z.of _), (Z.of _).add (Z.of _)⟩ : C) = _; rw [Z.add_of, Z.add_of, Int.add_zero]; rfl
  have e2 : (C.of (triX x) (triX y)).add (C.of 0 (triK z)) = C.of (triX x) (triX y + triK z) := by
    show (⟨(Z.of _).add (Z.of _), (Z.of _).add (Z.of _)⟩ : C) = _; rw [Z.add_of, Z.add_of, Int.add_zero]; rfl
  rw [e1, e2]
  have k3 : k < 3 := hk
  rcases (by omega : k = 0 ∨ k = 1 ∨ k = 2) with rfl | rfl | rfl
  · show some _ = some (qe (mkQ (triX x) (triX y))); rw [qe_mk _ _ (by omega) (by omega)]; rfl
  · show some _ = some (qe (mkQ (triX x + triK z) (triX y))); rw [qe_mk _ _ (by omega) (by omega)]; rfl
  · show some _ = some (qe (mkQ (triX x) (triX y + triK z))); rw [qe_mk _ _ (by omega) (by omega)]; rfl
end Go.Proofs.Ytnlkalbkjocoaaa
