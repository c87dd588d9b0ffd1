/-
  Complex numbers with whole parts: products, sums and differences of them in complex128 are exact as long as the parts stay below 2^52.
-/
import Derived.Test.YtnlkalbkjocoaaaFloat
namespace Go.Proofs.Ytnlkalbkjocoaaa

theorem mul_bound {x y m n : Int} (hx : -m ≤ x ∧ x ≤ m) (hy : -n ≤ y ∧ y ≤ n) : -(m * n) ≤ x * y ∧ x * y ≤ m * n := by
  have hm : 0 ≤ m := by omega
  have hn : 0 ≤ n := by omega
  have h : (x * y).natAbs ≤ (m * n).natAbs := by
    rw [Int.natAbs_mul, Int.natAbs_mul]
    exact Nat.mul_le_mul (by omega) (by omega)
  have hmn := Int.mul_nonneg hm hn
  omega

structure C where
  re : Z
  im : Z

namespace C
def X (a : C) : Int := a.re.val
def Y (a : C) : Int := a.im.val
abbrev v (a : C) : Value := .complex .f64 a.re.bits a.im.bits
def lim (a : C) (m : Int) : Prop := (-m ≤ a.X ∧ a.X ≤ m) ∧ (-m ≤ a.Y ∧ a.Y ≤ m)
def mul (a b : C) : C := ⟨(a.re.mul b.re).sub (a.im.mul b.im), (a.re.mul b.im).add (a.im.mul b.re)⟩
def add (a b : C) : C := ⟨a.re.add b.re, a.im.add b.im⟩
def sub (a b : C) : C := ⟨a.re.sub b.re, a.im.sub b.im⟩
def conj (a : C) : C := ⟨a.re, a.im.opp⟩
def of (x y : Int) : C := ⟨Z.of x, Z.of y⟩

theorem X_mul (a b : C) : (a.mul b).X = a.X * b.X - a.Y * b.Y := by show (Z.sub _ _).val = _; rw [Z.val_sub, Z.val_mul, Z.val_mul]; rfl
theorem Y_mul (a b : C) : (a.mul b).Y = a.X * b.Y + a.Y * b.X := by show (Z.add _ _).val = _; rw [Z.val_add, Z.val_mul, Z.val_mul]; rfl
theorem X_add (a b : C) : (a.add b).X = a.X + b.X := Z.val_add _ _
theorem Y_add (a b : C) : (a.add b).Y = a.Y + b.Y := Z.val_add _ _
theorem X_sub (a b : C) : (a.sub b).X = a.X - b.X := Z.val_sub _ _
theorem Y_sub (a b : C) : (a.sub b).Y = a.Y - b.Y := Z.val_sub _ _
theorem X_conj (a : C) : a.conj.X = a.X := rfl
theorem Y_conj (a : C) : a.conj.Y = -a.Y := Z.val_opp _
theorem X_of (x y : Int) : (of x y).X = x := Z.val_of x
theorem Y_of (x y : Int) : (of x y).Y = y := Z.val_of y

theorem lim_mono {a : C} {m n : Int} (h : a.lim m) (hmn : m ≤ n) : a.lim n := by unfold lim at *; omega
theorem lim_conj {a : C} {m : Int} (h : a.lim m) : a.conj.lim m := by unfold lim at *; rw [X_conj, Y_conj]; omega
theorem lim_add {a b : C} {m n : Int} (h : a.lim m) (h' : b.lim n) : (a.add b).lim (m + n) := by unfold lim at *; rw [X_add, Y_add]; omega
theorem lim_sub {a b : C} {m n : Int} (h : a.lim m) (h' : b.lim n) : (a.sub b).lim (m + n) := by unfold lim at *; rw [X_sub, Y_sub]; omega
theorem lim_mul {a b : C} {m n : Int} (h : a.lim m) (h' : b.lim n) : (a.mul b).lim (2 * (m * n)) := by
  have h1 := mul_bound h.1 h'.1
  have h2 := mul_bound h.2 h'.2
  have h3 := mul_bound h.1 h'.2
  have h4 := mul_bound h.2 h'.1
  unfold lim; rw [X_mul, Y_mul]; omega
theorem small_re {a : C} {m : Int} (h : a.lim m) (hm : m < 9007199254740992) : a.re.small := Z.small_of (by have := h.1; unfold X at this; omega)
theorem small_im {a : C} {m : Int} (h : a.lim m) (hm : m < 9007199254740992) : a.im.small := Z.small_of (by have := h.2; unfold Y at this; omega)

theorem bits_mul {a b : C} {m n : Int} (h : a.lim m) (h' : b.lim n) (hm : m < 9007199254740992) (hn : n < 9007199254740992) (hmn : m * n ≤ 1125899906842624) :
    cMulBits a.re.bits a.im.bits b.re.bits b.im.bits = some ((a.mul b).re.bits, (a.mul b).im.bits) := by
  have sa := small_re h hm
  have sb := small_im h hm
  have sc := small_re h' hn
  have sd := small_im h' hn
  have h1 := mul_bound h.1 h'.1
  have h2 := mul_bound h.2 h'.2
  have h3 := mul_bound h.1 h'.2
  have h4 := mul_bound h.2 h'.1
  have l := lim_mul h h'
  unfold X at h1
  unfold Y at h2
  unfold X Y at h3
  unfold X Y at h4
  have p1 : (a.re.mul b.re).small := Z.small_of (by rw [Z.val_mul]; omega)
  have p2 : (a.im.mul b.im).small := Z.small_of (by rw [Z.val_mul]; omega)
  have p3 : (a.re.mul b.im).small := Z.small_of (by rw [Z.val_mul]; omega)
  have p4 : (a.im.mul b.re).small := Z.small_of (by rw [Z.val_mul]; omega)
  have p5 : (a.mul b).re.small := small_re l (by omega)
  have p6 : (a.mul b).im.small := small_im l (by omega)
  unfold cMulBits
  rw [Z.bits_mul _ _ sa sc p1, Z.bits_mul _ _ sb sd p2, Z.bits_mul _ _ sa sd p3, Z.bits_mul _ _ sb sc p4]
  simp only [Option.bind_some]
  rw [Z.bits_sub _ _ p1 p2 p5, Z.bits_add _ _ p3 p4 p6]
  rfl

theorem bits_add {a b : C} {m n : Int} (h : a.lim m) (h' : b.lim n) (hm : m < 9007199254740992) (hn : n < 9007199254740992) (hmn : m + n < 9007199254740992) :
    cSumBits .add .f64 a.re.bits a.im.bits b.re.bits b.im.bits = some ((a.add b).re.bits, (a.add b).im.bits) := by
  have l := lim_add h h'
  unfold cSumBits
  rw [Z.bits_add _ _ (small_re h hm) (small_re h' hn) (small_re l hmn)]
  simp only [Option.bind_some]
  rw [Z.bits_add _ _ (small_im h hm) (small_im h' hn) (small_im l hmn)]
  rfl

theorem bits_sub {a b : C} {m n : Int} (h : a.lim m) (h' : b.lim n) (hm : m < 9007199254740992) (hn : n < 9007199254740992) (hmn : m + n < 9007199254740992) :
    cSumBits .sub .f64 a.re.bits a.im.bits b.re.bits b.im.bits = some ((a.sub b).re.bits, (a.sub b).im.bits) := by
  have l := lim_sub h h'
  unfold cSumBits
  rw [Z.bits_sub _ _ (small_re h hm) (small_re h' hn) (small_re l hmn)]
  simp only [Option.bind_some]
  rw [Z.bits_sub _ _ (small_im h hm) (small_im h' hn) (small_im l hmn)]
  rfl

/-- The cross and the dot of two. -/
def cr (a b : C) : Int := a.X * b.Y - a.Y * b.X
def dt (a b : C) : Int := a.X * b.X + a.Y * b.Y
theorem X_conj_mul (a b : C) : (a.conj.mul b).X = dt a b := by rw [X_mul, X_conj, Y_conj]; unfold dt; rw [Int.neg_mul]; omega
theorem Y_conj_mul (a b : C) : (a.conj.mul b).Y = cr a b := by rw [Y_mul, X_conj, Y_conj]; unfold cr; rw [Int.neg_mul]; omega

/-- What touchesOrigin and crossesRay answer. -/
def touchB (a b : C) : Bool := decide (cr a b = 0) && decide (dt a b ≤ 0)
def rayI (a b : C) : Int :=
  if a.Y ≤ 0 ∧ 0 < b.Y ∧ 0 < cr a b then 1
  else if b.Y ≤ 0 ∧ 0 < a.Y ∧ cr a b < 0 then -1
  else 0
/-- Is it a point (whole parts at most 'm' either way)? -/
def within (m : Int) (a : C) : Bool := (decide (-m ≤ a.X) && decide (a.X ≤ m)) && (decide (-m ≤ a.Y) && decide (a.Y ≤ m))
theorem within_iff (m : Int) (a : C) : within m a = true ↔ a.lim m := by unfold within lim; simp
end C
end Go.Proofs.Ytnlkalbkjocoaaa
