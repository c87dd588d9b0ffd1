/-
  To turn is to multiply: areas grow by the square, windings stay: the plain mathematics.
-/
import Derived.Test.YtnlkalbkjocoaaaMath
import Derived.Test.YtnlkalbkjocoaaaTurn
namespace Go.Proofs.Ytnlkalbkjocoaaa

/-- What is reckoned on a list that is made of another, reckoned on that one. -/
theorem ps_map {M : Type} (op : M → M → M) (e : M) (f : C → C → M) (g : C → C) : ∀ l : List C, ps op e f (l.map g) = ps op e (fun a b => f (g a) (g b)) l
  | [] => rfl
  | [_] => rfl
  | a :: b :: r => by
    have ih := ps_map op e f g (b :: r)
    show op (f (g a) (g b)) (ps op e f ((b :: r).map g)) = _
    rw [ih]; rfl
theorem cyc_map {M : Type} (op : M → M → M) (e : M) (f : C → C → M) (g : C → C) (l : List C) : cyc op e f (l.map g) = cyc op e (fun a b => f (g a) (g b)) l := by
  rcases List.eq_nil_or_concat l with rfl | ⟨l', z, rfl⟩
  · rfl
  · rw [List.concat_eq_append, List.map_append, List.map_cons, List.map_nil, cyc_snoc, cyc_snoc]
    have := ps_map op e f g (z :: (l' ++ [z]))
    rw [List.map_cons, List.map_append, List.map_cons, List.map_nil] at this
    exact this

/-- Two ways to reckon that differ by what goes in and out: on a closed way they are one (where no edge touches). -/
theorem ps_tele (F F' : C → C → Int) (T : C → C → Bool) (k : C → Int) (h : ∀ a b, T a b = false → F' a b = F a b + k b - k a) (z : C) : ∀ (l : List C) (p : C), ps (· || ·) false T (p :: (l ++ [z])) = false →
    ps (· + ·) 0 F' (p :: (l ++ [z])) = ps (· + ·) 0 F (p :: (l ++ [z])) + k z - k p
  | [], p, ht => by
    have h1 : T p z = false := by simpa [ps] using ht
    simp only [List.nil_append, ps]
    rw [h p z h1]; omega
  | c :: r, p, ht => by
    have ht' : (T p c || ps (· || ·) false T (c :: (r ++ [z]))) = false := ht
    rw [Bool.or_eq_false_iff] at ht'
    have ih := ps_tele F F' T k h z r c ht'.2
    have e1 : ps (· + ·) 0 F' (p :: (c :: r ++ [z])) = F' p c + ps (· + ·) 0 F' (c :: (r ++ [z])) := rfl
    have e2 : ps (· + ·) 0 F (p :: (c :: r ++ [z])) = F p c + ps (· + ·) 0 F (c :: (r ++ [z])) := rfl
    rw [e1, e2, ih, h p c ht'.1]; omega
theorem cyc_tele (F F' : C → C → Int) (T : C → C → Bool) (k : C → Int) (h : ∀ a b, T a b = false → F' a b = F a b + k b - k a) (l : List C) (ht : cycB T l = false) : cycS F' l = cycS F l := by
  rcases List.eq_nil_or_concat l with rfl | ⟨l', z, rfl⟩
  · rfl
  · rw [List.concat_eq_append] at ht ⊢
    unfold cycS
    unfold cycB at ht
    rw [cyc_snoc] at ht
    rw [cyc_snoc, cyc_snoc, ps_tele F F' T k h z l' z ht]; omega
theorem ps_none : ∀ l : List C, ps (· || ·) false (fun _ _ => false) l = false
  | [] => rfl
  | [_] => rfl
  | a :: b :: r => by
    have := ps_none (b :: r)
    show (false || ps (· || ·) false (fun _ _ => false) (b :: r)) = false
    rw [this]; rfl
theorem cyc_none (l : List C) : cycB (fun _ _ => false) l = false := by
  unfold cycB cyc
  split
  · rfl
  · exact ps_none _
theorem ps_scale (c : Int) (f : C → C → Int) : ∀ l : List C, ps (· + ·) 0 (fun a b => c * f a b) l = c * ps (· + ·) 0 f l
  | [] => by simp [ps]
  | [_] => by simp [ps]
  | a :: b :: r => by
    have ih := ps_scale c f (b :: r)
    simp only [ps]; simp only [ih]; rw [Int.mul_add]
theorem cyc_scale (c : Int) (f : C → C → Int) (l : List C) : cycS (fun a b => c * f a b) l = c * cycS f l := by
  unfold cycS cyc
  split
  · simp
  · exact ps_scale c f _

/-- The square of the scale's absolute value. -/
def sizeI (s : C) : Int := s.X * s.X + s.Y * s.Y

theorem X_move (s t z : C) : (C.move s t z).X = s.X * z.X - s.Y * z.Y + t.X := by unfold C.move; rw [C.X_add, C.X_mul]
theorem Y_move (s t z : C) : (C.move s t z).Y = s.X * z.Y + s.Y * z.X + t.Y := by unfold C.move; rw [C.Y_add, C.Y_mul]

theorem cr_move (s t a b : C) : C.cr (C.move s t a) (C.move s t b) = sizeI s * C.cr a b + (t.X * (s.X * b.Y + s.Y * b.X) - t.Y * (s.X * b.X - s.Y * b.Y)) - (t.X * (s.X * a.Y + s.Y * a.X) - t.Y * (s.X * a.X - s.Y * a.Y)) := by
  unfold C.cr sizeI
  rw [X_move, Y_move, X_move, Y_move]
  simp only [Int.mul_add, Int.add_mul, Int.mul_sub, Int.sub_mul, Int.mul_assoc, Int.mul_left_comm, Int.mul_comm]
  omega

theorem turned_twice (s t : C) (l : List C) (h0 : 0 < l.length) (h1 : 0 < (l.map (C.move s t)).length) : twiceL (l.map (C.move s t)) h1 = sizeI s * twiceL l h0 := by
  rw [twiceL_eq, twiceL_eq, ← cyc_scale]
  unfold cycS
  rw [cyc_map]
  exact cyc_tele _ _ (fun _ _ => false) _ (fun a b _ => cr_move s t a b) l (cyc_none l)

/-! Windings. -/
def ind (p : Prop) [Decidable p] : Int := if p then 1 else 0
theorem ind_pos {p : Prop} [Decidable p] (h : p) : ind p = 1 := if_pos h
theorem ind_neg {p : Prop} [Decidable p] (h : ¬ p) : ind p = 0 := if_neg h

theorem pp {x y : Int} (hx : 0 < x) (hy : 0 < y) : 0 < x * y := Int.mul_pos hx hy
theorem nn {x y : Int} (hx : x ≤ 0) (hy : y ≤ 0) : 0 ≤ x * y := by have := Int.mul_nonneg (show 0 ≤ -x by omega) (show 0 ≤ -y by omega); rw [Int.neg_mul_neg] at this; exact this
theorem pn {x y : Int} (hx : 0 < x) (hy : y ≤ 0) : x * y ≤ 0 := by have := Int.mul_nonneg (Int.le_of_lt hx) (show 0 ≤ -y by omega); rw [Int.mul_neg] at this; omega
theorem np {x y : Int} (hx : x ≤ 0) (hy : 0 < y) : x * y ≤ 0 := by rw [Int.mul_comm]; exact pn hy hx

/-- Two rays: what crosses one and not the other ends up between them. (The half of it, where the edge goes counterclockwise.) -/
theorem rays_up (a1 ar b1 br : Int) (hD : 0 < a1 * br - b1 * ar) :
    ind (a1 ≤ 0 ∧ 0 < b1) - ind (ar ≤ 0 ∧ 0 < br) = ind (0 < b1 ∧ br ≤ 0) - ind (0 < a1 ∧ ar ≤ 0) := by
  by_cases h1 : 0 < a1 <;> by_cases h2 : 0 < b1 <;> by_cases h3 : 0 < ar <;> by_cases h4 : 0 < br
  all_goals
    simp only [ind, Int.not_lt] at *
    simp only [h1, h2, h3, h4, Int.not_lt.2, Int.not_le.2, true_and, and_true, if_true] <;> first
      | omega
      | (exfalso; have := pp ‹0 < b1› ‹0 < ar›; have := pn ‹0 < a1› ‹br ≤ 0›; omega)
      | (exfalso; have := pp ‹0 < b1› ‹0 < ar›; have := np ‹a1 ≤ 0› ‹0 < br›; omega)
      | (exfalso; have := nn ‹b1 ≤ 0› ‹ar ≤ 0›; have := np ‹a1 ≤ 0› ‹0 < br›; omega)
      | (exfalso; have := nn ‹b1 ≤ 0› ‹ar ≤ 0›; have := pn ‹0 < a1› ‹br ≤ 0›; omega)

/-- The same for every edge that does not go through the origin. -/
theorem rays (a1 ar b1 br p X : Int) (hp : 0 < p) (hX : p * X = a1 * br - b1 * ar) (h0 : X = 0 → ((0 < a1 ↔ 0 < b1) ∧ (0 < ar ↔ 0 < br))) :
    (if a1 ≤ 0 ∧ 0 < b1 ∧ 0 < X then 1 else if b1 ≤ 0 ∧ 0 < a1 ∧ X < 0 then -1 else 0 : Int) - (if ar ≤ 0 ∧ 0 < br ∧ 0 < X then 1 else if br ≤ 0 ∧ 0 < ar ∧ X < 0 then -1 else 0) =
      ind (0 < b1 ∧ br ≤ 0) - ind (0 < a1 ∧ ar ≤ 0) := by
  rcases Int.lt_trichotomy X 0 with h | h | h
  · have hD : 0 < b1 * ar - a1 * br := by have := Int.mul_pos hp (show 0 < -X by omega); rw [Int.mul_neg] at this; omega
    have key := rays_up b1 br a1 ar hD
    have e1 : (if a1 ≤ 0 ∧ 0 < b1 ∧ 0 < X then 1 else if b1 ≤ 0 ∧ 0 < a1 ∧ X < 0 then -1 else 0 : Int) = -ind (b1 ≤ 0 ∧ 0 < a1) := by
      rw [if_neg (by omega)]
      by_cases g : b1 ≤ 0 ∧ 0 < a1
      · rw [if_pos ⟨g.1, g.2, h⟩, ind_pos g]
      · rw [if_neg (fun k => g ⟨k.1, k.2.1⟩), ind_neg g]; rfl
    have e2 : (if ar ≤ 0 ∧ 0 < br ∧ 0 < X then 1 else if br ≤ 0 ∧ 0 < ar ∧ X < 0 then -1 else 0 : Int) = -ind (br ≤ 0 ∧ 0 < ar) := by
      rw [if_neg (by omega)]
      by_cases g : br ≤ 0 ∧ 0 < ar
      · rw [if_pos ⟨g.1, g.2, h⟩, ind_pos g]
      · rw [if_neg (fun k => g ⟨k.1, k.2.1⟩), ind_neg g]; rfl
    rw [e1, e2]; omega
  · obtain ⟨g1, g2⟩ := h0 h
    rw [if_neg (by omega), if_neg (by omega), if_neg (by omega), if_neg (by omega)]
    have : (0 < b1 ∧ br ≤ 0) ↔ (0 < a1 ∧ ar ≤ 0) := by omega
    simp only [ind, this]; omega
  · have hD : 0 < a1 * br - b1 * ar := by have := Int.mul_pos hp h; omega
    have key := rays_up a1 ar b1 br hD
    have e1 : (if a1 ≤ 0 ∧ 0 < b1 ∧ 0 < X then 1 else if b1 ≤ 0 ∧ 0 < a1 ∧ X < 0 then -1 else 0 : Int) = ind (a1 ≤ 0 ∧ 0 < b1) := by
      by_cases g : a1 ≤ 0 ∧ 0 < b1
      · rw [if_pos ⟨g.1, g.2, h⟩, ind_pos g]
      · rw [if_neg (fun k => g ⟨k.1, k.2.1⟩), if_neg (by omega), ind_neg g]
    have e2 : (if ar ≤ 0 ∧ 0 < br ∧ 0 < X then 1 else if br ≤ 0 ∧ 0 < ar ∧ X < 0 then -1 else 0 : Int) = ind (ar ≤ 0 ∧ 0 < br) := by
      by_cases g : ar ≤ 0 ∧ 0 < br
      · rw [if_pos ⟨g.1, g.2, h⟩, ind_pos g]
      · rw [if_neg (fun k => g ⟨k.1, k.2.1⟩), if_neg (by omega), ind_neg g]
    rw [e1, e2]; exact key

/-- What is multiplied by s. -/
theorem cr_mul (s a b : C) : C.cr (s.mul a) (s.mul b) = sizeI s * C.cr a b := by
  unfold C.cr sizeI
  rw [C.X_mul, C.Y_mul, C.X_mul, C.Y_mul]
  simp only [Int.mul_add, Int.add_mul, Int.mul_sub, Int.sub_mul, Int.mul_assoc, Int.mul_left_comm, Int.mul_comm]
  omega
theorem dt_mul (s a b : C) : C.dt (s.mul a) (s.mul b) = sizeI s * C.dt a b := by
  unfold C.dt sizeI
  rw [C.X_mul, C.Y_mul, C.X_mul, C.Y_mul]
  simp only [Int.mul_add, Int.add_mul, Int.mul_sub, Int.sub_mul, Int.mul_assoc, Int.mul_left_comm, Int.mul_comm]
  omega
theorem sign_mul {c x : Int} (hc : 0 < c) : (0 < c * x ↔ 0 < x) ∧ (c * x < 0 ↔ x < 0) ∧ (c * x = 0 ↔ x = 0) ∧ (c * x ≤ 0 ↔ x ≤ 0) := by
  have h1 : 0 < x → 0 < c * x := Int.mul_pos hc
  have h2 : x < 0 → c * x < 0 := fun h => by have := Int.mul_pos hc (show 0 < -x by omega); rw [Int.mul_neg] at this; omega
  have h3 : x = 0 → c * x = 0 := fun h => by rw [h, Int.mul_zero]
  omega
theorem touch_mul (s a b : C) (hs : 0 < sizeI s) : C.touchB (s.mul a) (s.mul b) = C.touchB a b := by
  unfold C.touchB
  rw [cr_mul, dt_mul]
  obtain ⟨-, -, h1, -⟩ := sign_mul (x := C.cr a b) hs
  obtain ⟨-, -, -, h2⟩ := sign_mul (x := C.dt a b) hs
  simp only [h1, h2]

/-- Of one direction: what is linear has the same sign on both. -/
theorem same_way (a b : C) (hx : C.cr a b = 0) (hd : 0 < C.dt a b) (m n : Int) : (0 < m * a.X + n * a.Y ↔ 0 < m * b.X + n * b.Y) := by
  have h1 : (a.X * a.X + a.Y * a.Y) * (m * b.X + n * b.Y) = C.dt a b * (m * a.X + n * a.Y) + C.cr a b * (n * a.X - m * a.Y) := by
    unfold C.dt C.cr
    simp only [Int.mul_add, Int.add_mul, Int.mul_sub, Int.sub_mul, Int.mul_assoc, Int.mul_left_comm, Int.mul_comm]
    omega
  rw [hx, Int.zero_mul, Int.add_zero] at h1
  have hn : 0 < a.X * a.X + a.Y * a.Y := by
    have h2 : 0 ≤ a.X * a.X := by rcases Int.le_total 0 a.X with h | h; exact Int.mul_nonneg h h; exact nn h h
    have h3 : 0 ≤ a.Y * a.Y := by rcases Int.le_total 0 a.Y with h | h; exact Int.mul_nonneg h h; exact nn h h
    rcases Int.lt_or_eq_of_le h2 with h | h
    · omega
    · rcases Int.lt_or_eq_of_le h3 with h' | h'
      · omega
      · exfalso
        have e1 : a.X = 0 := by rcases Int.mul_eq_zero.1 h.symm with e | e <;> exact e
        have e2 : a.Y = 0 := by rcases Int.mul_eq_zero.1 h'.symm with e | e <;> exact e
        unfold C.dt at hd; rw [e1, e2] at hd; simp at hd
  obtain ⟨k1, -⟩ := sign_mul (x := m * b.X + n * b.Y) hn
  obtain ⟨k2, -⟩ := sign_mul (x := m * a.X + n * a.Y) hd
  rw [← k1, ← k2, h1]

theorem touch_false {a b : C} (h : C.touchB a b = false) : C.cr a b = 0 → 0 < C.dt a b := by
  intro h0
  unfold C.touchB at h
  simp [h0] at h; omega

theorem ray_mul (s a b : C) (hs : 0 < sizeI s) : C.rayI (s.mul a) (s.mul b) = if (s.mul a).Y ≤ 0 ∧ 0 < (s.mul b).Y ∧ 0 < C.cr a b then 1 else if (s.mul b).Y ≤ 0 ∧ 0 < (s.mul a).Y ∧ C.cr a b < 0 then -1 else 0 := by
  obtain ⟨h1, h2, -, -⟩ := sign_mul (x := C.cr a b) hs
  unfold C.rayI
  rw [cr_mul]
  simp only [h1, h2]

theorem ray_tele_up (s : C) (hs : 0 < sizeI s) (hy : 0 < s.Y) : ∃ k : C → Int, ∀ a b, C.touchB a b = false → C.rayI (s.mul a) (s.mul b) = C.rayI a b + k b - k a := by
  refine ⟨fun v => ind (0 < (s.mul v).Y ∧ v.Y ≤ 0), fun a b ht => ?_⟩
  have key := rays (s.mul a).Y a.Y (s.mul b).Y b.Y s.Y (C.cr a b) hy (by
      rw [C.Y_mul, C.Y_mul]; unfold C.cr
      simp only [Int.mul_add, Int.add_mul, Int.mul_sub, Int.mul_assoc, Int.mul_left_comm, Int.mul_comm]
      omega)
    (fun h => by
      have g1 := same_way a b h (touch_false ht h) 0 1
      have g2 := same_way a b h (touch_false ht h) s.Y s.X
      rw [Int.zero_mul, Int.zero_mul, Int.one_mul, Int.one_mul, Int.zero_add, Int.zero_add] at g1
      rw [C.Y_mul, C.Y_mul, Int.add_comm (s.X * a.Y), Int.add_comm (s.X * b.Y)]
      exact ⟨g2, g1⟩)
  rw [ray_mul s a b hs]
  have e : C.rayI a b = if a.Y ≤ 0 ∧ 0 < b.Y ∧ 0 < C.cr a b then 1 else if b.Y ≤ 0 ∧ 0 < a.Y ∧ C.cr a b < 0 then -1 else 0 := rfl
  rw [e]
  show _ = _ + ind _ - ind _
  omega

theorem ray_tele_down (s : C) (hs : 0 < sizeI s) (hy : s.Y < 0) : ∃ k : C → Int, ∀ a b, C.touchB a b = false → C.rayI (s.mul a) (s.mul b) = C.rayI a b + k b - k a := by
  refine ⟨fun v => -ind (0 < v.Y ∧ (s.mul v).Y ≤ 0), fun a b ht => ?_⟩
  have key := rays a.Y (s.mul a).Y b.Y (s.mul b).Y (-s.Y) (C.cr a b) (by omega) (by
      rw [C.Y_mul, C.Y_mul]; unfold C.cr
      simp only [Int.mul_add, Int.add_mul, Int.mul_sub, Int.mul_assoc, Int.mul_left_comm, Int.mul_comm, Int.neg_mul, Int.mul_neg]
      omega)
    (fun h => by
      have g1 := same_way a b h (touch_false ht h) 0 1
      have g2 := same_way a b h (touch_false ht h) s.Y s.X
      rw [Int.zero_mul, Int.zero_mul, Int.one_mul, Int.one_mul, Int.zero_add, Int.zero_add] at g1
      rw [C.Y_mul, C.Y_mul, Int.add_comm (s.X * a.Y), Int.add_comm (s.X * b.Y)]
      exact ⟨g1, g2⟩)
  rw [ray_mul s a b hs]
  have e : C.rayI a b = if a.Y ≤ 0 ∧ 0 < b.Y ∧ 0 < C.cr a b then 1 else if b.Y ≤ 0 ∧ 0 < a.Y ∧ C.cr a b < 0 then -1 else 0 := rfl
  rw [e]
  show _ = _ + -ind _ - -ind _
  omega

theorem ray_tele_plain (s : C) (hs : 0 < sizeI s) (hy : s.Y = 0) (hx : 0 < s.X) (a b : C) : C.rayI (s.mul a) (s.mul b) = C.rayI a b := by
  rw [ray_mul s a b hs, C.Y_mul, C.Y_mul, hy, Int.zero_mul, Int.zero_mul, Int.add_zero, Int.add_zero]
  obtain ⟨a1, -, -, a2⟩ := sign_mul (x := a.Y) hx
  obtain ⟨b1, -, -, b2⟩ := sign_mul (x := b.Y) hx
  simp only [a1, a2, b1, b2]
  rfl

theorem ray_congr {a b a' b' : C} (h1 : a.X = a'.X) (h2 : a.Y = a'.Y) (h3 : b.X = b'.X) (h4 : b.Y = b'.Y) : C.rayI a b = C.rayI a' b' := by
  unfold C.rayI C.cr; rw [h1, h2, h3, h4]
theorem touch_congr {a b a' b' : C} (h1 : a.X = a'.X) (h2 : a.Y = a'.Y) (h3 : b.X = b'.X) (h4 : b.Y = b'.Y) : C.touchB a b = C.touchB a' b' := by
  unfold C.touchB C.cr C.dt; rw [h1, h2, h3, h4]

theorem ray_tele (s : C) (hs : 0 < sizeI s) : ∃ k : C → Int, ∀ a b, C.touchB a b = false → C.rayI (s.mul a) (s.mul b) = C.rayI a b + k b - k a := by
  rcases Int.lt_trichotomy s.Y 0 with hy | hy | hy
  · exact ray_tele_down s hs hy
  · rcases Int.lt_trichotomy s.X 0 with hx | hx | hx
    · have hi : 0 < sizeI (C.of 0 1) := by decide
      have hiy : 0 < (C.of 0 1).Y := by decide
      obtain ⟨k, hk⟩ := ray_tele_up (C.of 0 1) hi hiy
      have hn : 0 < sizeI (C.of (-s.X) 0) := by unfold sizeI; rw [C.X_of, C.Y_of]; have := pp (show 0 < -s.X by omega) (show 0 < -s.X by omega); omega
      have hnx : 0 < (C.of (-s.X) 0).X := by rw [C.X_of]; omega
      refine ⟨fun v => k ((C.of 0 1).mul ((C.of (-s.X) 0).mul v)) + k ((C.of (-s.X) 0).mul v), fun a b ht => ?_⟩
      have ht1 : C.touchB ((C.of (-s.X) 0).mul a) ((C.of (-s.X) 0).mul b) = false := by rw [touch_mul _ _ _ hn]; exact ht
      have ht2 : C.touchB ((C.of 0 1).mul ((C.of (-s.X) 0).mul a)) ((C.of 0 1).mul ((C.of (-s.X) 0).mul b)) = false := by rw [touch_mul _ _ _ hi]; exact ht1
      have k2 := hk _ _ ht2
      have k1 := hk _ _ ht1
      have k0 := ray_tele_plain (C.of (-s.X) 0) hn (C.Y_of _ _) hnx a b
      have eX : ∀ v : C, (s.mul v).X = ((C.of 0 1).mul ((C.of 0 1).mul ((C.of (-s.X) 0).mul v))).X := fun v => by
        simp only [C.X_mul, C.Y_mul, C.X_of, C.Y_of, hy, Int.zero_mul, Int.one_mul, Int.neg_mul]; omega
      have eY : ∀ v : C, (s.mul v).Y = ((C.of 0 1).mul ((C.of 0 1).mul ((C.of (-s.X) 0).mul v))).Y := fun v => by
        simp only [C.X_mul, C.Y_mul, C.X_of, C.Y_of, hy, Int.zero_mul, Int.one_mul, Int.neg_mul]; omega
      rw [ray_congr (eX a) (eY a) (eX b) (eY b), k2, k1, k0]
      dsimp only
      omega
    · exfalso; unfold sizeI at hs; rw [hx, hy] at hs; simp at hs
    · exact ⟨fun _ => 0, fun a b _ => by rw [ray_tele_plain s hs hy hx]; dsimp only; omega⟩
  · exact ray_tele_up s hs hy

/-- A turned shape goes around a turned point as often. -/
theorem turned_winds (s t q : C) (hs : 0 < sizeI s) (l : List C) (h0 : 0 < l.length) (h1 : 0 < (l.map (C.move s t)).length) : windsL (C.move s t q) (l.map (C.move s t)) h1 = windsL q l h0 := by
  have eX : ∀ a : C, ((C.move s t a).sub (C.move s t q)).X = (s.mul (a.sub q)).X := fun a => by
    rw [C.X_sub, X_move, X_move, C.X_mul, C.X_sub, C.Y_sub, Int.mul_sub, Int.mul_sub]; omega
  have eY : ∀ a : C, ((C.move s t a).sub (C.move s t q)).Y = (s.mul (a.sub q)).Y := fun a => by
    rw [C.Y_sub, Y_move, Y_move, C.Y_mul, C.X_sub, C.Y_sub, Int.mul_sub, Int.mul_sub]; omega
  have eT : cycB C.touchB ((l.map (C.move s t)).map (C.sub · (C.move s t q))) = cycB C.touchB (l.map (C.sub · q)) := by
    rw [List.map_map]
    unfold cycB
    rw [cyc_map, cyc_map]
    congr 1
    funext a b
    show C.touchB ((C.move s t a).sub (C.move s t q)) ((C.move s t b).sub (C.move s t q)) = _
    rw [touch_congr (eX a) (eY a) (eX b) (eY b), touch_mul _ _ _ hs]
  rw [windsL_eq, windsL_eq]
  simp only [eT]
  by_cases hT : cycB C.touchB (l.map (C.sub · q)) = true
  · rw [if_pos hT, if_pos hT]
  · rw [if_neg hT, if_neg hT]
    have hT' : cycB C.touchB (l.map (C.sub · q)) = false := by simpa using hT
    have hT2 : cycB (fun a b => C.touchB (a.sub q) (b.sub q)) l = false := by
      have := cyc_map (· || ·) false C.touchB (C.sub · q) l
      exact this.symm.trans hT'
    obtain ⟨k, hk⟩ := ray_tele s hs
    have e1 : cycS C.rayI ((l.map (C.move s t)).map (C.sub · (C.move s t q))) = cycS (fun a b => C.rayI (s.mul (a.sub q)) (s.mul (b.sub q))) l := by
      rw [List.map_map]
      unfold cycS
      rw [cyc_map]
      congr 1
      funext a b
      exact ray_congr (eX a) (eY a) (eX b) (eY b)
    have e2 : cycS C.rayI (l.map (C.sub · q)) = cycS (fun a b => C.rayI (a.sub q) (b.sub q)) l := by
      unfold cycS; rw [cyc_map]
    rw [e1, e2, cyc_tele (fun a b => C.rayI (a.sub q) (b.sub q)) (fun a b => C.rayI (s.mul (a.sub q)) (s.mul (b.sub q))) _ (fun v => k (v.sub q)) (fun a b h => hk _ _ h) l hT2]

/-- .. unless the scale is 0: then all is one point. -/
theorem turned_zero (s t q : C) (hs : sizeI s = 0) (l : List C) (h1 : 0 < (l.map (C.move s t)).length) : windsL (C.move s t q) (l.map (C.move s t)) h1 = (0, true) := by
  have h2 : 0 ≤ s.X * s.X := by rcases Int.le_total 0 s.X with h | h; exact Int.mul_nonneg h h; exact nn h h
  have h3 : 0 ≤ s.Y * s.Y := by rcases Int.le_total 0 s.Y with h | h; exact Int.mul_nonneg h h; exact nn h h
  have hsx : s.X = 0 := by unfold sizeI at hs; rcases Int.mul_eq_zero.1 (show s.X * s.X = 0 by omega) with e | e <;> exact e
  have hsy : s.Y = 0 := by unfold sizeI at hs; rcases Int.mul_eq_zero.1 (show s.Y * s.Y = 0 by omega) with e | e <;> exact e
  have eX : ∀ a : C, ((C.move s t a).sub (C.move s t q)).X = 0 := fun a => by rw [C.X_sub, X_move, X_move, hsx, hsy]; simp
  have eY : ∀ a : C, ((C.move s t a).sub (C.move s t q)).Y = 0 := fun a => by rw [C.Y_sub, Y_move, Y_move, hsx, hsy]; simp
  have hz : ∀ a b : C, C.touchB ((C.move s t a).sub (C.move s t q)) ((C.move s t b).sub (C.move s t q)) = true := fun a b => by
    unfold C.touchB C.cr C.dt; rw [eX, eY, eX, eY]; decide
  have hT : cycB C.touchB ((l.map (C.move s t)).map (C.sub · (C.move s t q))) = true := by
    rw [List.map_map]
    unfold cycB
    rw [cyc_map]
    rcases List.eq_nil_or_concat l with rfl | ⟨l', z, rfl⟩
    · simp at h1
    · rw [List.concat_eq_append, cyc_snoc]
      cases l' with
      | nil => simp [ps, hz]
      | cons c r => simp [ps, hz]
  rw [windsL_eq, if_pos hT]
end Go.Proofs.Ytnlkalbkjocoaaa
