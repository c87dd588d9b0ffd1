/-
  How far a box is from a place (Off), and how compare orders distances.
-/
import Derived.Test.YtnlkalbkjocoaaaLess
import Derived.BigQuiet
import Derived.Deep.RegionHeld3
import Derived.Shelf.SlSortCmp.QuietGrown
namespace Go.Proofs.Ytnlkalbkjocoaaa
open Go.Shelf Go.RowKit

/-- The point of a box that is the nearest to p. -/
def clampQ (p lo hi : Q) : Q := qmin (qmax p lo) hi
/-- The square of the distance. -/
def distQ (p lo hi : Q) : Int := (qx (clampQ p lo hi) - qx p) * (qx (clampQ p lo hi) - qx p) + (qy (clampQ p lo hi) - qy p) * (qy (clampQ p lo hi) - qy p)
theorem sq_nonneg (x : Int) : 0 ≤ x * x := by
  by_cases h : 0 ≤ x
  · exact Int.mul_nonneg h h
  · exact Int.mul_nonneg_of_nonpos_of_nonpos (by omega) (by omega)
theorem distQ_bd (p lo hi : Q) : 0 ≤ distQ p lo hi ∧ distQ p lo hi ≤ 8796093022208 := by
  have a1 := qx_bd p
  have a2 := qy_bd p
  have b1 := qx_bd (clampQ p lo hi)
  have b2 := qy_bd (clampQ p lo hi)
  have m1 := mul_bound (x := qx (clampQ p lo hi) - qx p) (y := qx (clampQ p lo hi) - qx p) (m := 2097152) (n := 2097152) (by omega) (by omega)
  have m2 := mul_bound (x := qy (clampQ p lo hi) - qy p) (y := qy (clampQ p lo hi) - qy p) (m := 2097152) (n := 2097152) (by omega) (by omega)
  have s1 := sq_nonneg (qx (clampQ p lo hi) - qx p)
  have s2 := sq_nonneg (qy (clampQ p lo hi) - qy p)
  unfold distQ; omega

theorem Z.ext' {a b : Z} (h1 : a.neg = b.neg) (h2 : a.mag = b.mag) : a = b := by cases a; cases b; simp_all

theorem norm_of (a : C) : (a.conj.mul a).re = Z.of (a.X * a.X + a.Y * a.Y) := by
  have e : (a.conj.mul a).re.val = a.X * a.X + a.Y * a.Y := C.X_conj_mul a a
  have s1 := sq_nonneg a.X
  have s2 := sq_nonneg a.Y
  have e1 : (a.re.mul a.re).neg = false := by show (a.re.neg ^^ a.re.neg) = false; simp
  have e2 : ((a.im.opp.mul a.im).opp).neg = false := by show (!((!a.im.neg) ^^ a.im.neg)) = false; simp
  have hm : ∀ z : Z, z.mag = z.val.natAbs := fun z => by unfold Z.val; split <;> omega
  refine Z.ext' ?_ ?_
  · show (if (a.re.mul a.re).val + ((a.im.opp.mul a.im).opp).val = 0 then (a.re.mul a.re).neg && ((a.im.opp.mul a.im).opp).neg else decide ((a.re.mul a.re).val + ((a.im.opp.mul a.im).opp).val < 0)) = decide (a.X * a.X + a.Y * a.Y < 0)
    have e3 : (a.re.mul a.re).val + ((a.im.opp.mul a.im).opp).val = a.X * a.X + a.Y * a.Y := by
      rw [← e]
      have := Z.val_add (a.re.mul a.re) ((a.im.opp.mul a.im).opp)
      exact this.symm
    rw [e3, e1]
    have : ¬ (a.X * a.X + a.Y * a.Y < 0) := by omega
    simp [this]
  · rw [hm, e]; rfl

theorem below_drewN {k : Nat} {w w' : World} (h : Below k w w') (n : Nat) : Below k w (w'.drewN n) := ⟨h.os, h.tape, h.output, h.size, h.block⟩

theorem off_core (p1 p2 a1 a2 b1 b2 g1 g2 l1 l2 s1 s2 c1 c2 m1 m2 : Nat) (w : World)
    (hg : ∀ w, Calls Try.prog 73 #[.complex .f64 p1 p2, .complex .f64 a1 a2] w fun e w' => e = .returned (.complex .f64 g1 g2) ∧ w' = w)
    (hl : ∀ w, Calls Try.prog 72 #[.complex .f64 g1 g2, .complex .f64 b1 b2] w fun e w' => e = .returned (.complex .f64 l1 l2) ∧ w' = w)
    (hs : ∀ t w, (binOp .sub t (.complex .f64 l1 l2) (.complex .f64 p1 p2)).run Try.prog w = .ok (.complex .f64 s1 s2) w)
    (hc : ∀ w, Calls Try.prog 74 #[.complex .f64 s1 s2] w fun e w' => e = .returned (.complex .f64 c1 c2) ∧ w' = w)
    (hm : ∀ t w, (binOp .mul t (.complex .f64 c1 c2) (.complex .f64 s1 s2)).run Try.prog w = .ok (.complex .f64 m1 m2) w) :
    Calls Try.prog 48 #[.complex .f64 p1 p2, .agg #[.complex .f64 a1 a2, .complex .f64 b1 b2]] w fun e w' => e = .returned (.float .f64 m1) ∧ Below w.heap.size w w' := by
  have hst := store_complex
  go_enter Try.func48, Try.ntmps48
  go_wp2_with fail
  go_big_quiet (first | (go_at_call 73; exact Calls.quiet_of_same (hg _)) | (go_at_call 72; exact Calls.quiet_of_same (hl _)))
  rename_i nq
  go_wp2_with (go_at_call 74; refine (hc _).mono ?_; rintro e w' ⟨rfl, rfl⟩)
  go_ret
  refine ⟨rfl, ?_⟩
  exact below_drewN ((Below.refl _ _).alloc (Nat.le_refl _) _) _

theorem off_any (p lo hi : Q) (w : World) :
    Calls Try.prog 48 #[qe p, .agg #[qe lo, qe hi]] w fun e w' => e = .returned (.float .f64 (Z.of (distQ p lo hi)).bits) ∧ Below w.heap.size w w' := by
  have hl := C.lim_sub (qc_lim (clampQ p lo hi)) (qc_lim p)
  have h := off_core _ _ _ _ _ _ _ _ _ _ _ _ _ _ _ _ w (fun w => greater_any p lo w) (fun w => lesser_any (qmax p lo) hi w)
    (fun t w => run_complex_sum (P := Try.prog) w .sub (Or.inr rfl) t .f64 _ _ _ _ _ _ (C.bits_sub (qc_lim (clampQ p lo hi)) (qc_lim p) (by decide) (by decide) (by decide)))
    (fun w => conjugate_any _ _ hl (by decide) w)
    (fun t w => run_complex_mul (P := Try.prog) w t _ _ _ _ _ _ (C.bits_mul (C.lim_conj hl) hl (by decide) (by decide) (by decide)))
  have e : (((qc (clampQ p lo hi)).sub (qc p)).conj.mul ((qc (clampQ p lo hi)).sub (qc p))).re = Z.of (distQ p lo hi) := by
    rw [norm_of, C.X_sub, C.Y_sub, qX, qX, qY, qY]; rfl
  exact h.mono fun _ _ ⟨h1, h2⟩ => ⟨by rw [h1, ← e]; rfl, h2⟩

/-- Distances: how far, and whose. -/
abbrev D : Type := Fin 8796093022209 × Fin 1000
def de (x : D) : List Value := [.float .f64 (Z.of (x.1.val : Int)).bits, .int .i64 (x.2.val : Int)]
def cmpD (x y : D) : Int := if cmpI (x.1.val : Int) (y.1.val : Int) = 0 then cmpI (x.2.val : Int) (y.2.val : Int) else cmpI (x.1.val : Int) (y.1.val : Int)
theorem d_small (x : D) : (Z.of (x.1.val : Int)).small := Z.small_of (by rw [Z.val_of]; have := x.1.isLt; omega)

set_option maxHeartbeats 400000 in
theorem isNaNI_any (x : Int) (w : World) : Calls Try.prog 115 #[.int .i64 x] w fun e w' => e = .returned (.bool false) ∧ w' = w := by
  go_enter Try.func115, Try.ntmps115
  go_wp2
  go_ret
  exact ⟨rfl, rfl⟩

set_option maxHeartbeats 400000 in
theorem compareI_any (x y : Int) (w : World) : Calls Try.prog 92 #[.int .i64 x, .int .i64 y] w fun e w' => e = .returned (.int .i64 (cmpI x y)) ∧ w' = w := by
  have h1 := fun w => isNaNI_any x w
  have h2 := fun w => isNaNI_any y w
  by_cases g1 : x < y
  · have G : Hid (cmpI x y = -1) := by unfold cmpI; rw [if_pos g1]; exact rfl
    go_enter Try.func92, Try.ntmps92
    go_wp2_with (first | (go_at_call_of 115 (Value.int .i64 x); refine (h1 _).mono ?_; rintro e w' ⟨rfl, rfl⟩) | (go_at_call_of 115 (Value.int .i64 y); refine (h2 _).mono ?_; rintro e w' ⟨rfl, rfl⟩))
    go_ret
    exact ⟨ret_int G.out.symm, rfl⟩
  · by_cases g2 : y < x
    · have G : Hid (cmpI x y = 1) := by unfold cmpI; rw [if_neg g1, if_pos g2]; exact rfl
      go_enter Try.func92, Try.ntmps92
      go_wp2_with (first | (go_at_call_of 115 (Value.int .i64 x); refine (h1 _).mono ?_; rintro e w' ⟨rfl, rfl⟩) | (go_at_call_of 115 (Value.int .i64 y); refine (h2 _).mono ?_; rintro e w' ⟨rfl, rfl⟩))
      go_ret
      exact ⟨ret_int G.out.symm, rfl⟩
    · have G : Hid (cmpI x y = 0) := by unfold cmpI; rw [if_neg g1, if_neg g2]; exact rfl
      go_enter Try.func92, Try.ntmps92
      go_wp2_with (first | (go_at_call_of 115 (Value.int .i64 x); refine (h1 _).mono ?_; rintro e w' ⟨rfl, rfl⟩) | (go_at_call_of 115 (Value.int .i64 y); refine (h2 _).mono ?_; rintro e w' ⟨rfl, rfl⟩))
      go_ret
      exact ⟨ret_int G.out.symm, rfl⟩

end Go.Proofs.Ytnlkalbkjocoaaa
