/-
  Whole numbers held in float64: of two whole numbers below 2^53 the float64 sum, difference, product, comparison and conversion are those of the whole numbers (a zero may bear either sign).
-/
import Derived.Laws.FloatArith
import Derived.Laws.ComplexArith
import GoSem.Extern.MathFloor
namespace Go.Proofs.Ytnlkalbkjocoaaa

theorem log2_shift (n k : Nat) (h : n ≠ 0) : (n * 2 ^ k).log2 = n.log2 + k := by
  have hp : 0 < 2 ^ k := Nat.two_pow_pos k
  have h0 : n * 2 ^ k ≠ 0 := Nat.ne_of_gt (Nat.mul_pos (Nat.pos_of_ne_zero h) hp)
  rw [Nat.log2_eq_iff h0]
  have h1 := Nat.log2_self_le h
  have h2 := Nat.lt_log2_self (n := n)
  constructor
  · rw [Nat.pow_add]; exact Nat.mul_le_mul_right _ h1
  · rw [show n.log2 + k + 1 = (n.log2 + 1) + k by omega, Nat.pow_add]; exact Nat.mul_lt_mul_of_pos_right h2 hp

theorem cut_exact (way : Ieee.Toward) (s : Bool) (n d : Nat) (hd : d ≤ (n * 2 ^ d).log2 + 2) : way.cut s (n * 2 ^ d) d = n := by
  have hp : 0 < 2 ^ d := Nat.two_pow_pos d
  unfold Ieee.Toward.cut
  rw [Nat.min_eq_left hd]
  simp only [Nat.shiftLeft_eq, Nat.one_mul, Nat.mul_div_cancel n hp, Nat.mul_mod_left]
  cases way <;> simp

/-- The word of a whole number below 2^53. -/
def wordOf (s : Bool) (n : Nat) : Nat := Ieee.double.nearest s n 0

def rungOf (n : Nat) : Nat := (n.log2 + 1022) * 2 ^ 52 + n * 2 ^ (52 - n.log2)

theorem rung_bounds (n : Nat) (h : n ≠ 0) (hl : n < 2 ^ 53) : n.log2 ≤ 52 ∧ 2 ^ 52 ≤ n * 2 ^ (52 - n.log2) ∧ n * 2 ^ (52 - n.log2) < 2 ^ 53 := by
  have h0 : n.log2 < 53 := (Nat.log2_lt h).2 hl
  have h1 := Nat.log2_self_le h
  have h2 := Nat.lt_log2_self (n := n)
  have hp : 0 < 2 ^ (52 - n.log2) := Nat.two_pow_pos _
  refine ⟨by omega, ?_, ?_⟩
  · have := Nat.mul_le_mul_right (2 ^ (52 - n.log2)) h1
    rwa [← Nat.pow_add, show n.log2 + (52 - n.log2) = 52 by omega] at this
  · have := Nat.mul_lt_mul_of_pos_right h2 hp
    rwa [← Nat.pow_add, show n.log2 + 1 + (52 - n.log2) = 53 by omega] at this

theorem nearest_shift (s : Bool) (n k : Nat) (hl : n < 2 ^ 53) : Ieee.double.nearest s (n * 2 ^ k) (-(k : Int)) = if n = 0 then Ieee.double.word s 0 else Ieee.double.word s (rungOf n) := by
  by_cases h : n = 0
  · subst h; simp [Ieee.Format.nearest]
  · obtain ⟨b1, b2, b3⟩ := rung_bounds n h hl
    have hp : 0 < 2 ^ k := Nat.two_pow_pos k
    have h0 : n * 2 ^ k ≠ 0 := Nat.ne_of_gt (Nat.mul_pos (Nat.pos_of_ne_zero h) hp)
    have hL := log2_shift n k h
    rw [if_neg h]
    unfold Ieee.Format.nearest
    rw [if_neg h0, hL]
    have hlast : max (-(k : Int) + ((n.log2 + k : Nat) : Int) - (Ieee.double.fractionBits : Int)) Ieee.double.leastPlace = (n.log2 : Int) - 52 := by
      have e1 : (Ieee.double.fractionBits : Int) = 52 := rfl
      have e2 : Ieee.double.leastPlace = -1074 := by decide
      rw [e1, e2]; omega
    simp only [hlast]
    have hkept : Ieee.Toward.even.cut s ((n * 2 ^ k) <<< (-(k : Int) - ((n.log2 : Int) - 52)).toNat) (((n.log2 : Int) - 52) - -(k : Int)).toNat = n * 2 ^ (52 - n.log2) := by
      by_cases hc : k + n.log2 ≤ 52
      · have e1 : (-(k : Int) - ((n.log2 : Int) - 52)).toNat = 52 - n.log2 - k := by omega
        have e2 : (((n.log2 : Int) - 52) - -(k : Int)).toNat = 0 := by omega
        rw [e1, e2, Nat.shiftLeft_eq, Nat.mul_assoc, ← Nat.pow_add, show k + (52 - n.log2 - k) = 52 - n.log2 by omega]
        have := cut_exact .even s (n * 2 ^ (52 - n.log2)) 0 (by omega)
        simpa using this
      · have e1 : (-(k : Int) - ((n.log2 : Int) - 52)).toNat = 0 := by omega
        have e2 : (((n.log2 : Int) - 52) - -(k : Int)).toNat = k + n.log2 - 52 := by omega
        rw [e1, e2, Nat.shiftLeft_eq, Nat.pow_zero, Nat.mul_one]
        have e3 : n * 2 ^ k = (n * 2 ^ (52 - n.log2)) * 2 ^ (k + n.log2 - 52) := by
          rw [Nat.mul_assoc, ← Nat.pow_add, show 52 - n.log2 + (k + n.log2 - 52) = k by omega]
        rw [e3]
        exact cut_exact .even s _ _ (by rw [← e3, hL]; omega)
    rw [hkept]
    have e5 : (((n.log2 : Int) - 52) - Ieee.double.leastPlace).toNat = n.log2 + 1022 := by
      have e2 : Ieee.double.leastPlace = -1074 := by decide
      rw [e2]; omega
    rw [e5]
    have e6 : Ieee.double.binade = 2 ^ 52 := rfl
    have e7 : Ieee.double.infRung = 2047 * 2 ^ 52 := by decide
    rw [e6, e7, Nat.min_eq_left (by omega)]
    rfl

theorem wordOf_eq (s : Bool) (n : Nat) (hl : n < 2 ^ 53) : wordOf s n = if n = 0 then Ieee.double.word s 0 else Ieee.double.word s (rungOf n) := by
  have := nearest_shift s n 0 hl
  simpa [wordOf] using this

theorem nearest_wordOf (s : Bool) (n k : Nat) (hl : n < 2 ^ 53) : Ieee.double.nearest s (n * 2 ^ k) (-(k : Int)) = wordOf s n := by
  rw [nearest_shift s n k hl, wordOf_eq s n hl]

theorem read_zero (s : Bool) (k : Nat) (hk : k = 1074) : Ieee.double.read (Ieee.double.word s 0) = .number s (0 * 2 ^ k) (-(k : Int)) := by
  rw [Nat.zero_mul, hk]
  cases s <;> decide

theorem read_wordOf (s : Bool) (n : Nat) (hl : n < 2 ^ 53) : ∃ k : Nat, k ≤ 1074 ∧ Ieee.double.read (wordOf s n) = .number s (n * 2 ^ k) (-(k : Int)) ∧ (n = 0 ∨ k ≤ 52) := by
  rw [wordOf_eq s n hl]
  by_cases h : n = 0
  · subst h
    exact ⟨1074, Nat.le_refl _, read_zero s 1074 rfl, Or.inl rfl⟩
  · obtain ⟨b1, b2, b3⟩ := rung_bounds n h hl
    rw [if_neg h]
    refine ⟨52 - n.log2, by omega, ?_, Or.inr (by omega)⟩
    have e0 : Ieee.double.signWeight = 2 ^ 63 := rfl
    have e1 : Ieee.double.binade = 2 ^ 52 := rfl
    have e2 : Ieee.double.infRung = 2047 * 2 ^ 52 := by decide
    have e3 : Ieee.double.leastPlace = -1074 := by decide
    have hr : rungOf n < 2 ^ 63 ∧ 2 ^ 52 ≤ rungOf n ∧ rungOf n < 2047 * 2 ^ 52 := by unfold rungOf; omega
    have hd : rungOf n / 2 ^ 52 = n.log2 + 1023 := by unfold rungOf; omega
    have hm : rungOf n % 2 ^ 52 = n * 2 ^ (52 - n.log2) - 2 ^ 52 := by unfold rungOf; omega
    have hs : (Ieee.double.word s (rungOf n) / 2 ^ 63 % 2 == 1) = s := by
      cases s <;> simp only [Ieee.Format.word, e0] <;> simp <;> omega
    have hg : Ieee.double.word s (rungOf n) % 2 ^ 63 = rungOf n := by
      cases s <;> simp only [Ieee.Format.word, e0] <;> simp <;> omega
    unfold Ieee.Format.read
    simp only [e0, e1, e2, e3, hs, hg]
    rw [if_neg (by omega), if_pos (by omega), hd, hm]
    have a1 : 2 ^ 52 + (n * 2 ^ (52 - n.log2) - 2 ^ 52) = n * 2 ^ (52 - n.log2) := by omega
    have a2 : (-1074 : Int) + ((n.log2 + 1023 - 1 : Nat) : Int) = -((52 - n.log2 : Nat) : Int) := by omega
    rw [a1, a2]

/-- A whole number with a sign of its own (0 may have either). -/
structure Z where
  neg : Bool
  mag : Nat

namespace Z
def val (x : Z) : Int := if x.neg then -(x.mag : Int) else x.mag
def bits (x : Z) : Nat := wordOf x.neg x.mag
def of (n : Int) : Z := ⟨decide (n < 0), n.natAbs⟩
def opp (x : Z) : Z := ⟨!x.neg, x.mag⟩
def mul (x y : Z) : Z := ⟨x.neg ^^ y.neg, x.mag * y.mag⟩
def add (x y : Z) : Z := ⟨if x.val + y.val = 0 then x.neg && y.neg else decide (x.val + y.val < 0), (x.val + y.val).natAbs⟩
def sub (x y : Z) : Z := x.add y.opp
def small (x : Z) : Prop := x.mag < 2 ^ 53

theorem val_of (n : Int) : (of n).val = n := by unfold of val; simp only [decide_eq_true_eq]; split <;> omega
theorem val_opp (x : Z) : x.opp.val = -x.val := by unfold opp val; cases x.neg <;> simp
theorem val_mul (x y : Z) : (x.mul y).val = x.val * y.val := by unfold mul val; cases x.neg <;> cases y.neg <;> simp [Int.neg_mul, Int.mul_neg]
theorem val_add (x y : Z) : (x.add y).val = x.val + y.val := by
  show (if (if x.val + y.val = 0 then x.neg && y.neg else decide (x.val + y.val < 0)) = true then -((x.val + y.val).natAbs : Int) else ((x.val + y.val).natAbs : Int)) = _
  by_cases h : x.val + y.val = 0
  · simp [h]
  · rw [if_neg h]; simp only [decide_eq_true_eq]; split <;> omega
theorem val_sub (x y : Z) : (x.sub y).val = x.val - y.val := by unfold sub; rw [val_add, val_opp]; omega
theorem mag_eq (x : Z) : x.mag = x.val.natAbs := by unfold val; split <;> omega
theorem small_of {x : Z} (h : -9007199254740992 < x.val ∧ x.val < 9007199254740992) : x.small := by unfold small; rw [mag_eq]; omega
theorem small_opp {x : Z} (h : x.small) : x.opp.small := h

theorem bits_of (n : Int) : floatOfInt .f64 n = (of n).bits := rfl

theorem read_bits (x : Z) (h : x.small) : ∃ k : Nat, k ≤ 1074 ∧ Ieee.double.read x.bits = .number x.neg (x.mag * 2 ^ k) (-(k : Int)) ∧ (x.mag = 0 ∨ k ≤ 52) := read_wordOf x.neg x.mag h

theorem signed_up (s : Bool) (m k l : Nat) : Ieee.signed s (m * 2 ^ k) l = (if s then -(m : Int) else m) * 2 ^ (k + l) := by
  unfold Ieee.signed
  rw [Nat.shiftLeft_eq, Nat.mul_assoc, ← Nat.pow_add]
  cases s <;> simp [Int.natCast_mul, Int.natCast_pow, Int.neg_mul]

theorem bits_mul (x y : Z) (hx : x.small) (hy : y.small) (h : (x.mul y).small) : floatBits .mul .f64 x.bits y.bits = some (x.mul y).bits := by
  obtain ⟨k, -, hk, -⟩ := read_bits x hx
  obtain ⟨l, -, hl, -⟩ := read_bits y hy
  show ((Ieee.double.read x.bits).product (Ieee.double.read y.bits)).map Ieee.double.write = _
  rw [hk, hl]
  show some (Ieee.double.nearest (x.neg ^^ y.neg) (x.mag * 2 ^ k * (y.mag * 2 ^ l)) (-(k : Int) + -(l : Int))) = _
  have e1 : x.mag * 2 ^ k * (y.mag * 2 ^ l) = (x.mag * y.mag) * 2 ^ (k + l) := by rw [Nat.pow_add]; simp only [Nat.mul_assoc, Nat.mul_left_comm]
  have e2 : (-(k : Int) + -(l : Int)) = -((k + l : Nat) : Int) := by omega
  have h' : x.mag * y.mag < 2 ^ 53 := h
  rw [e1, e2, nearest_wordOf _ _ _ h']
  rfl

theorem sum_bits (x : Z) (y : Z) (s : Bool) (m k l : Nat) (hm : (if s then -(m : Int) else m) = y.val) (hs : s = y.neg) (h : (x.add y).small) :
    ((Ieee.Datum.number x.neg (x.mag * 2 ^ k) (-(k : Int))).sum (.number s (m * 2 ^ l) (-(l : Int)))).map Ieee.double.write = some (x.add y).bits := by
  have key : ∀ B : Nat, k ≤ B → l ≤ B → min (-(k : Int)) (-(l : Int)) = -(B : Int) →
      ((Ieee.Datum.number x.neg (x.mag * 2 ^ k) (-(k : Int))).sum (.number s (m * 2 ^ l) (-(l : Int)))).map Ieee.double.write = some (x.add y).bits := by
    intro B h1 h2 hb
    have ek : (-(k : Int) - -(B : Int)).toNat = B - k := by omega
    have el : (-(l : Int) - -(B : Int)).toNat = B - l := by omega
    have hp : (0 : Int) < 2 ^ B := Int.pow_pos (by decide)
    have htot : Ieee.signed x.neg (x.mag * 2 ^ k) (B - k) + Ieee.signed s (m * 2 ^ l) (B - l) = (x.val + y.val) * 2 ^ B := by
      rw [signed_up, signed_up, show k + (B - k) = B by omega, show l + (B - l) = B by omega, hm, ← Int.add_mul]; rfl
    simp only [Ieee.Datum.sum, hb, ek, el, htot, Option.map]
    show some (Ieee.double.nearest _ _ _) = _
    have e1 : ((x.val + y.val) * 2 ^ B).natAbs = (x.val + y.val).natAbs * 2 ^ B := by rw [Int.natAbs_mul, Int.natAbs_pow]; rfl
    have h' : (x.val + y.val).natAbs < 2 ^ 53 := h
    rw [e1, nearest_wordOf _ _ _ h']
    have e2 : ((x.val + y.val) * 2 ^ B = 0) ↔ (x.val + y.val = 0) := by
      constructor
      · intro h; rcases Int.mul_eq_zero.1 h with h | h
        · exact h
        · omega
      · intro h; rw [h, Int.zero_mul]
    have e3 : ((x.val + y.val) * 2 ^ B < 0) ↔ (x.val + y.val < 0) := by
      constructor
      · intro h; exact Int.not_le.1 fun h' => absurd (Int.mul_nonneg h' (Int.le_of_lt hp)) (Int.not_le.2 h)
      · intro h; exact Int.mul_neg_of_neg_of_pos h hp
    simp only [e2, e3, hs]
    rfl
  rcases Nat.le_total k l with hkl | hkl
  · exact key l hkl (Nat.le_refl _) (by omega)
  · exact key k (Nat.le_refl _) hkl (by omega)

theorem bits_add (x y : Z) (hx : x.small) (hy : y.small) (h : (x.add y).small) : floatBits .add .f64 x.bits y.bits = some (x.add y).bits := by
  obtain ⟨k, -, hk, -⟩ := read_bits x hx
  obtain ⟨l, -, hl, -⟩ := read_bits y hy
  show ((Ieee.double.read x.bits).sum (Ieee.double.read y.bits)).map Ieee.double.write = _
  rw [hk, hl]
  exact sum_bits x y y.neg y.mag k l rfl rfl h

theorem bits_sub (x y : Z) (hx : x.small) (hy : y.small) (h : (x.sub y).small) : floatBits .sub .f64 x.bits y.bits = some (x.sub y).bits := by
  obtain ⟨k, -, hk, -⟩ := read_bits x hx
  obtain ⟨l, -, hl, -⟩ := read_bits y hy
  show ((Ieee.double.read x.bits).sum (Ieee.double.read y.bits).opposite).map Ieee.double.write = _
  rw [hk, hl]
  exact sum_bits x y.opp (!y.neg) y.mag k l rfl rfl h

theorem cmp_int (a b : Int) : compare a b = if a < b then .lt else if a = b then .eq else .gt := rfl

theorem order_bits (x y : Z) (hx : x.small) (hy : y.small) : Ieee.double.order x.bits y.bits = some (compare x.val y.val) := by
  obtain ⟨k, -, hk, -⟩ := read_bits x hx
  obtain ⟨l, -, hl, -⟩ := read_bits y hy
  show (Ieee.double.read x.bits).order (Ieee.double.read y.bits) = _
  rw [hk, hl]
  have key : ∀ B : Nat, k ≤ B → l ≤ B → min (-(k : Int)) (-(l : Int)) = -(B : Int) →
      (Ieee.Datum.number x.neg (x.mag * 2 ^ k) (-(k : Int))).order (.number y.neg (y.mag * 2 ^ l) (-(l : Int))) = some (compare x.val y.val) := by
    intro B h1 h2 hb
    have ek : (-(k : Int) - -(B : Int)).toNat = B - k := by omega
    have el : (-(l : Int) - -(B : Int)).toNat = B - l := by omega
    have hp : (0 : Int) < 2 ^ B := Int.pow_pos (by decide)
    simp only [Ieee.Datum.order, hb, ek, el]
    rw [signed_up, signed_up, show k + (B - k) = B by omega, show l + (B - l) = B by omega]
    show some (compare (x.val * 2 ^ B) (y.val * 2 ^ B)) = _
    congr 1
    simp only [cmp_int]
    have e1 : (x.val * 2 ^ B < y.val * 2 ^ B) ↔ (x.val < y.val) := Int.mul_lt_mul_right hp
    have e2 : (x.val * 2 ^ B = y.val * 2 ^ B) ↔ (x.val = y.val) := Int.mul_eq_mul_right_iff (by omega)
    simp only [e1, e2]
  rcases Nat.le_total k l with hkl | hkl
  · exact key l hkl (Nat.le_refl _) (by omega)
  · exact key k (Nat.le_refl _) hkl (by omega)

theorem lt_bits (x y : Z) (hx : x.small) (hy : y.small) : (FloatKind.f64.format.order x.bits y.bits == some .lt) = decide (x.val < y.val) := by
  show (Ieee.double.order x.bits y.bits == some .lt) = _
  rw [order_bits x y hx hy]
  by_cases h : x.val < y.val
  · simp [h, cmp_int]
  · by_cases h' : x.val = y.val <;> simp [h, h', cmp_int]
theorem gt_bits (x y : Z) (hx : x.small) (hy : y.small) : (FloatKind.f64.format.order x.bits y.bits == some .gt) = decide (y.val < x.val) := by
  show (Ieee.double.order x.bits y.bits == some .gt) = _
  rw [order_bits x y hx hy]
  by_cases h : x.val < y.val
  · have : ¬ y.val < x.val := by omega
    simp [h, this, cmp_int]
  · by_cases h' : x.val = y.val
    · simp [h']
    · have : y.val < x.val := by omega
      simp [h, h', this, cmp_int]
theorem eq_bits (x y : Z) (hx : x.small) (hy : y.small) : (FloatKind.f64.format.order x.bits y.bits == some .eq) = decide (x.val = y.val) := by
  show (Ieee.double.order x.bits y.bits == some .eq) = _
  rw [order_bits x y hx hy]
  by_cases h : x.val < y.val
  · have : ¬ x.val = y.val := by omega
    simp [h, this, cmp_int]
  · by_cases h' : x.val = y.val <;> simp [h, h', cmp_int]

theorem integral_bits (x : Z) (h : x.small) : ((FloatKind.f64.decode x.bits).integral .zero) = .number x.neg x.mag 0 := by
  obtain ⟨k, -, hk, h0⟩ := read_bits x h
  show (Ieee.double.read x.bits).integral .zero = _
  rw [hk]
  show Ieee.Datum.number x.neg (Ieee.Toward.zero.cut x.neg ((x.mag * 2 ^ k) <<< (-(k : Int)).toNat) (- -(k : Int)).toNat) 0 = _
  have e1 : (-(k : Int)).toNat = 0 := by omega
  have e2 : (- -(k : Int)).toNat = k := by omega
  rw [e1, e2, Nat.shiftLeft_eq, Nat.pow_zero, Nat.mul_one]
  rcases h0 with h0 | h0
  · rw [h0]; simp [Ieee.Toward.cut]
  · by_cases hz : x.mag = 0
    · rw [hz]; simp [Ieee.Toward.cut]
    · rw [cut_exact .zero x.neg x.mag k (by rw [log2_shift _ _ hz]; omega)]

theorem toInt_bits (x : Z) (h : x.small) : floatToIntVal .f64 x.bits .i64 = some x.val := by
  unfold floatToIntVal
  have e : (FloatKind.f64.decode x.bits).toInt .zero = some x.val := by
    unfold Ieee.Datum.toInt
    rw [integral_bits x h]
    simp only [Ieee.signed, Nat.shiftLeft_eq, Nat.pow_zero, Nat.mul_one]
    rfl
  have hb : IntKind.i64.min ≤ x.val ∧ x.val ≤ IntKind.i64.max := by
    have : x.mag < 2 ^ 53 := h
    rw [mag_eq] at this
    have a : IntKind.i64.min = -9223372036854775808 := by decide
    have b : IntKind.i64.max = 9223372036854775807 := by decide
    rw [a, b]; omega
  rw [e]; simp only [hb, and_self, if_true]

/-- math.archTrunc leaves a whole number as it is. -/
theorem trunc_bits (x : Z) (h : x.small) : Extern.MathFloor.toIntegral "math.archTrunc" .zero #[.float .f64 x.bits] = pure (.float .f64 x.bits) := by
  obtain ⟨k, -, hk, -⟩ := read_bits x h
  have hi := integral_bits x h
  have hk' : FloatKind.f64.decode x.bits = .number x.neg (x.mag * 2 ^ k) (-(k : Int)) := hk
  rw [hk'] at hi
  unfold Extern.MathFloor.toIntegral
  generalize hd : FloatKind.f64.decode = dec at hk'
  show (match dec x.bits with | .nan _ _ => _ | d => _) = _
  rw [hk']
  simp only [hi]
  rfl

theorem or_xor (r : Nat) (h : r < 2 ^ 63) : r ^^^ 2 ^ 63 = 2 ^ 63 + r := by
  have e := Nat.two_pow_add_eq_or_of_lt h 1
  rw [Nat.mul_one] at e
  rw [e]
  apply Nat.eq_of_testBit_eq
  intro i
  rw [Nat.testBit_xor, Nat.testBit_or, Nat.testBit_two_pow]
  by_cases hi : 63 = i
  · subst hi; rw [Nat.testBit_lt_two_pow h]; rfl
  · simp [hi]

theorem neg_word (s : Bool) (r : Nat) (h : r < 2 ^ 63) : Ieee.double.word s r ^^^ 2 ^ 63 = Ieee.double.word (!s) r := by
  have e0 : Ieee.double.signWeight = 2 ^ 63 := rfl
  cases s
  · simp only [Ieee.Format.word, e0, Bool.not_false, if_true, Bool.false_eq_true, if_false]; exact or_xor r h
  · simp only [Ieee.Format.word, e0, Bool.not_true, if_true, Bool.false_eq_true, if_false]
    rw [← or_xor r h, Nat.xor_assoc, Nat.xor_self, Nat.xor_zero]

theorem neg_bits (x : Z) (h : x.small) : Op.negFloat .f64 x.bits = x.opp.bits := by
  show wordOf x.neg x.mag ^^^ 2 ^ 63 = wordOf (!x.neg) x.mag
  rw [wordOf_eq _ _ h, wordOf_eq _ _ h]
  by_cases hz : x.mag = 0
  · rw [if_pos hz, if_pos hz]; exact neg_word _ _ (by decide)
  · obtain ⟨b1, b2, b3⟩ := rung_bounds x.mag hz h
    rw [if_neg hz, if_neg hz]; exact neg_word _ _ (by unfold rungOf; omega)

theorem lit_bits (s : Bool) (n b : Nat) (h : wordOf s n = b) : b = (Z.mk s n).bits := h.symm
end Z
end Go.Proofs.Ytnlkalbkjocoaaa
