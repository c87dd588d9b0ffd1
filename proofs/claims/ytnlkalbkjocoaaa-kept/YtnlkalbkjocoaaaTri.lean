/-
  Pure words for what is to come: how a triangle that goes k to the right and k up goes around a point; a turn that only shifts.
-/
import Derived.Test.YtnlkalbkjocoaaaLess
namespace Go.Proofs.Ytnlkalbkjocoaaa
open Go.Shelf Go.RowKit

theorem Z.ext2 {a b : Z} (h1 : a.neg = b.neg) (h2 : a.mag = b.mag) : a = b := by cases a; cases b; simp_all

theorem mul_sign (k t : Int) (hk : 0 < k) : (k * t = 0 ↔ t = 0) ∧ (0 < k * t ↔ 0 < t) ∧ (k * t < 0 ↔ t < 0) := by
  rcases Int.lt_trichotomy t 0 with h | h | h
  · have := Int.mul_neg_of_pos_of_neg hk h; omega
  · subst h; simp
  · have := Int.mul_pos hk h; omega
theorem between (k t : Int) (hk : 0 < k) : t * (t + k) ≤ 0 ↔ -k ≤ t ∧ t ≤ 0 := by
  constructor
  · intro h
    by_cases h1 : 0 < t
    · have := Int.mul_pos h1 (show 0 < t + k by omega); omega
    · by_cases h2 : t + k < 0
      · have := Int.mul_pos_of_neg_of_neg (show t < 0 by omega) h2; omega
      · omega
  · rintro ⟨h1, h2⟩
    exact Int.mul_nonpos_of_nonpos_of_nonneg h2 (by omega)

/-- Does a triangle that goes k to the right and k up have a point? -/
theorem tri_hit (a b c : C) (u v k : Int) (hk : 0 < k) (a1 : a.X = u) (a2 : a.Y = v) (b1 : b.X = u + k) (b2 : b.Y = v) (c1 : c.X = u) (c2 : c.Y = v + k) :
    ((windsZ 0 c [a, b, c]).2 || decide ((windsZ 0 c [a, b, c]).1 ≠ 0)) = decide (u ≤ 0 ∧ v ≤ 0 ∧ -k ≤ u + v) := by
  have e1 : C.cr c a = k * -u := by unfold C.cr; rw [a1, a2, c1, c2]; grind
  have e2 : C.cr a b = k * -v := by unfold C.cr; rw [a1, a2, b1, b2]; grind
  have e3 : C.cr b c = k * (u + v + k) := by unfold C.cr; rw [c1, c2, b1, b2]; grind
  have d1 : C.dt c a = u * u + v * (v + k) := by unfold C.dt; rw [a1, a2, c1, c2]; grind
  have d2 : C.dt a b = u * (u + k) + v * v := by unfold C.dt; rw [a1, a2, b1, b2]
  have d3 : C.dt b c = u * (u + k) + v * (v + k) := by unfold C.dt; rw [c1, c2, b1, b2]; grind
  have s1 := mul_sign k (-u) hk
  have s2 := mul_sign k (-v) hk
  have s3 := mul_sign k (u + v + k) hk
  have t1 : C.touchB c a = decide (u = 0 ∧ -k ≤ v ∧ v ≤ 0) := by
    unfold C.touchB
    rw [e1, d1, ← Bool.decide_and]
    apply decide_eq_decide.2
    constructor
    · rintro ⟨h1, h2⟩
      have hu : u = 0 := by have := s1.1.1 h1; omega
      subst hu
      have := (between k v hk).1 (by omega)
      exact ⟨rfl, this⟩
    · rintro ⟨rfl, h1, h2⟩
      have := (between k v hk).2 ⟨h1, h2⟩
      exact ⟨by simp, by omega⟩
  have t2 : C.touchB a b = decide (v = 0 ∧ -k ≤ u ∧ u ≤ 0) := by
    unfold C.touchB
    rw [e2, d2, ← Bool.decide_and]
    apply decide_eq_decide.2
    constructor
    · rintro ⟨h1, h2⟩
      have hv : v = 0 := by have := s2.1.1 h1; omega
      subst hv
      have := (between k u hk).1 (by omega)
      exact ⟨rfl, this⟩
    · rintro ⟨rfl, h1, h2⟩
      have := (between k u hk).2 ⟨h1, h2⟩
      exact ⟨by simp, by omega⟩
  have t3 : C.touchB b c = decide (u + v + k = 0 ∧ -k ≤ u ∧ u ≤ 0) := by
    unfold C.touchB
    rw [e3, d3, ← Bool.decide_and]
    apply decide_eq_decide.2
    constructor
    · rintro ⟨h1, h2⟩
      have hv : v = -(u + k) := by have := s3.1.1 h1; omega
      have h3 : v * (v + k) = u * (u + k) := by rw [hv]; grind
      have := (between k u hk).1 (by omega)
      exact ⟨by omega, this⟩
    · rintro ⟨h0, h1, h2⟩
      have hv : v = -(u + k) := by omega
      have h3 : v * (v + k) = u * (u + k) := by rw [hv]; grind
      have := (between k u hk).2 ⟨h1, h2⟩
      exact ⟨s3.1.2 (by omega), by omega⟩
  have r1 : C.rayI c a = if v ≤ 0 ∧ 0 < v + k ∧ 0 < u then -1 else 0 := by
    unfold C.rayI; rw [e1, a2, c2]
    have := s1.2.1
    have := s1.2.2
    split
    · rename_i h; omega
    · split
      · rename_i h; rw [if_pos (by omega)]
      · rename_i h; rw [if_neg (by omega)]
  have r2 : C.rayI a b = 0 := by
    unfold C.rayI; rw [a2, b2, if_neg (by omega), if_neg (by omega)]
  have r3 : C.rayI b c = if v ≤ 0 ∧ 0 < v + k ∧ 0 < u + v + k then 1 else 0 := by
    unfold C.rayI; rw [e3, b2, c2]
    have := s3.2.1
    have := s3.2.2
    split
    · rename_i h; rw [if_pos (by omega)]
    · split
      · rename_i h; omega
      · rename_i h h'; rw [if_neg (by omega)]
  have hR : windsZ 0 c [a, b, c] = if u = 0 ∧ -k ≤ v ∧ v ≤ 0 then (0, true) else if v = 0 ∧ -k ≤ u ∧ u ≤ 0 then (0, true) else if u + v + k = 0 ∧ -k ≤ u ∧ u ≤ 0 then (0, true) else
      ((if v ≤ 0 ∧ 0 < v + k ∧ 0 < u then -1 else 0) + (if v ≤ 0 ∧ 0 < v + k ∧ 0 < u + v + k then 1 else 0), false) := by
    simp only [windsZ, t1, t2, t3, r1, r2, r3, decide_eq_true_eq, Int.zero_add, Int.add_zero]
  rw [hR]
  by_cases q1 : u = 0 ∧ -k ≤ v ∧ v ≤ 0
  · rw [if_pos q1]; symm; rw [Bool.true_or, decide_eq_true_eq]; omega
  · rw [if_neg q1]
    by_cases q2 : v = 0 ∧ -k ≤ u ∧ u ≤ 0
    · rw [if_pos q2]; symm; rw [Bool.true_or, decide_eq_true_eq]; omega
    · rw [if_neg q2]
      by_cases q3 : u + v + k = 0 ∧ -k ≤ u ∧ u ≤ 0
      · rw [if_pos q3]; symm; rw [Bool.true_or, decide_eq_true_eq]; omega
      · rw [if_neg q3]
        show (false || decide (_ ≠ 0)) = _
        rw [Bool.false_or]
        apply decide_eq_decide.2
        show ((if v ≤ 0 ∧ 0 < v + k ∧ 0 < u then -1 else 0) + (if v ≤ 0 ∧ 0 < v + k ∧ 0 < u + v + k then 1 else 0) : Int) ≠ 0 ↔ _
        by_cases g1 : v ≤ 0 ∧ 0 < v + k ∧ 0 < u
        · rw [if_pos g1, if_pos (by omega)]; omega
        · rw [if_neg g1]
          by_cases g3 : v ≤ 0 ∧ 0 < v + k ∧ 0 < u + v + k
          · rw [if_pos g3]; omega
          · rw [if_neg g3]; omega

/-- To turn by 1 and a shift is to add. -/
theorem move_one (x y s t : Int) : ((C.of 1 0).mul (C.of x y)).add (C.of s t) = C.of (x + s) (y + t) := by
  have m1 : ∀ n : Int, (Z.of 1).mul (Z.of n) = Z.of n := fun n => by
    refine Z.ext2 ?_ ?_
    · show (false ^^ decide (n < 0)) = decide (n < 0); simp
    · show 1 * n.natAbs = n.natAbs; omega
  have a0 : ∀ (n : Int) (z : Z), z.val = 0 → (Z.of n).add z = Z.of n := fun n z hz => by
    refine Z.ext2 ?_ ?_
    · show (if (Z.of n).val + z.val = 0 then (Z.of n).neg && z.neg else decide ((Z.of n).val + z.val < 0)) = decide (n < 0)
      rw [Z.val_of, hz, Int.add_zero]
      split
      · rename_i h; subst h; simp [Z.of]
      · rfl
    · show ((Z.of n).val + z.val).natAbs = n.natAbs
      rw [Z.val_of, hz, Int.add_zero]
  have z0 : ∀ n : Int, ((Z.of 0).mul (Z.of n)).val = 0 := fun n => by unfold Z.mul Z.val; simp [Z.of]
  have ad : ∀ a b : Int, (Z.of a).add (Z.of b) = Z.of (a + b) := fun a b => by
    refine Z.ext2 ?_ ?_
    · show (if (Z.of a).val + (Z.of b).val = 0 then (Z.of a).neg && (Z.of b).neg else decide ((Z.of a).val + (Z.of b).val < 0)) = decide (a + b < 0)
      rw [Z.val_of, Z.val_of]
      split
      · show (decide (a < 0) && decide (b < 0)) = decide (a + b < 0)
        by_cases h1 : a < 0 <;> by_cases h2 : b < 0 <;> simp [h1, h2] <;> omega
      · rfl
    · show ((Z.of a).val + (Z.of b).val).natAbs = (a + b).natAbs
      rw [Z.val_of, Z.val_of]
  show (⟨(((Z.of 1).mul (Z.of x)).add ((Z.of 0).mul (Z.of y)).opp).add (Z.of s), (((Z.of 1).mul (Z.of y)).add ((Z.of 0).mul (Z.of x))).add (Z.of t)⟩ : C) = _
  rw [m1, m1, a0 x _ (by rw [Z.val_opp, z0]; rfl), a0 y _ (z0 x), ad, ad]
  rfl
end Go.Proofs.Ytnlkalbkjocoaaa
