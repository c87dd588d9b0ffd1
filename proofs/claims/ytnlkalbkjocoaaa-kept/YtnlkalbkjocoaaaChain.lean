/-
  What goes around points, in whole numbers: the way from the least to the greatest point that has all others on it or to its left; what it is made of; that it is the only one.
-/
namespace Go.Proofs.Ytnlkalbkjocoaaa

def pos2 (a b : Int) : Prop := 0 < a ∨ (a = 0 ∧ 0 < b)

/-- Among vectors of one half-plane 'to the left of' goes on. -/
theorem ang {u1 u2 v1 v2 w1 w2 : Int} (hu : pos2 u1 u2) (hv : pos2 v1 v2) (hw : pos2 w1 w2) (h1 : 0 ≤ u1 * v2 - u2 * v1) (h2 : 0 ≤ v1 * w2 - v2 * w1) :
    0 ≤ u1 * w2 - u2 * w1 ∧ ((0 < u1 * v2 - u2 * v1 ∨ 0 < v1 * w2 - v2 * w1) → 0 < u1 * w2 - u2 * w1) := by
  have key : v1 * (u1 * w2 - u2 * w1) = w1 * (u1 * v2 - u2 * v1) + u1 * (v1 * w2 - v2 * w1) := by grind
  rcases hv with hv | ⟨rfl, hv⟩
  · rcases hu with hu | ⟨rfl, hu⟩
    · rcases hw with hw | ⟨rfl, hw⟩
      · have a1 := Int.mul_nonneg (Int.le_of_lt hw) h1
        have a2 := Int.mul_nonneg (Int.le_of_lt hu) h2
        refine ⟨?_, fun h => ?_⟩
        · refine Int.le_of_mul_le_mul_left (a := v1) ?_ hv; omega
        · refine Int.lt_of_mul_lt_mul_left (a := v1) ?_ (Int.le_of_lt hv)
          rcases h with h | h
          · have := Int.mul_pos hw h; omega
          · have := Int.mul_pos hu h; omega
      · have := Int.mul_pos hu hw
        refine ⟨by omega, fun _ => by omega⟩
    · have := Int.mul_pos hu hv
      omega
  · have e1 : v2 * w1 ≤ 0 := by omega
    rcases hw with hw | ⟨rfl, hw⟩
    · have := Int.mul_pos hv hw; omega
    · rcases hu with hu | ⟨rfl, hu⟩
      · have := Int.mul_pos hu hw
        exact ⟨by omega, fun _ => by omega⟩
      · exact ⟨by omega, fun h => by omega⟩

/-- Twice the area of a triangle. -/
def area {α : Type} (X Y : α → Int) (a b c : α) : Int := (X b - X a) * (Y c - Y a) - (Y b - Y a) * (X c - X a)
/-- Ahead, by x and then by y. -/
def lt2 {α : Type} (X Y : α → Int) (a b : α) : Prop := X a < X b ∨ (X a = X b ∧ Y a < Y b)

theorem lt2_pos {α : Type} {X Y : α → Int} {a b : α} (h : lt2 X Y a b) : pos2 (X b - X a) (Y b - Y a) := by unfold lt2 at h; unfold pos2; omega
theorem lt2_trans {α : Type} {X Y : α → Int} {a b c : α} (h : lt2 X Y a b) (h' : lt2 X Y b c) : lt2 X Y a c := by unfold lt2 at *; omega
theorem lt2_irrefl {α : Type} {X Y : α → Int} {a : α} (h : lt2 X Y a a) : False := by unfold lt2 at *; omega
theorem lt2_asymm {α : Type} {X Y : α → Int} {a b : α} (h : lt2 X Y a b) (h' : lt2 X Y b a) : False := by unfold lt2 at *; omega

theorem area_neg {α : Type} (X Y : α → Int) (a b c : α) : area (fun p => -X p) (fun p => -Y p) a b c = area X Y a b c := by unfold area; grind
theorem lt2_neg {α : Type} (X Y : α → Int) (a b : α) : lt2 (fun p => -X p) (fun p => -Y p) a b ↔ lt2 X Y b a := by show (-X a < -X b ∨ (-X a = -X b ∧ -Y a < -Y b)) ↔ (X b < X a ∨ (X b = X a ∧ Y b < Y a)); omega

theorem area_self {α : Type} (X Y : α → Int) (a b : α) : area X Y a b a = 0 ∧ area X Y a b b = 0 ∧ area X Y a a b = 0 := by unfold area; refine ⟨?_, ?_, ?_⟩ <;> grind
theorem area_rot {α : Type} (X Y : α → Int) (a b c : α) : area X Y b c a = area X Y a b c := by unfold area; grind
theorem area_swap {α : Type} (X Y : α → Int) (a b c : α) : area X Y b a c = -area X Y a b c := by unfold area; grind
theorem area_swap' {α : Type} (X Y : α → Int) (a b c : α) : area X Y a c b = -area X Y a b c := by unfold area; grind
theorem area_part {α : Type} (X Y : α → Int) (y x z t : α) : area X Y y z t = area X Y y z x + area X Y x z t + area X Y y x t := by unfold area; grind

/-- t < x, y < x < z; t is not right of y x, and y x z bends left: t is left of x z. -/
theorem tri1 {α : Type} {X Y : α → Int} {y x z t : α} (hy : lt2 X Y y x) (hz : lt2 X Y x z) (ht : lt2 X Y t x) (h1 : 0 ≤ area X Y y x t) (h2 : 0 ≤ area X Y y x z) :
    0 ≤ area X Y x z t ∧ (0 < area X Y y x z → 0 < area X Y x z t) := by
  have a := ang (lt2_pos ht) (lt2_pos hy) (lt2_pos hz) (by have : (X x - X t) * (Y x - Y y) - (Y x - Y t) * (X x - X y) = area X Y y x t := by unfold area; grind
                                                           omega)
    (by have : (X x - X y) * (Y z - Y x) - (Y x - Y y) * (X z - X x) = area X Y y x z := by unfold area; grind
        omega)
  have e1 : (X x - X t) * (Y z - Y x) - (Y x - Y t) * (X z - X x) = area X Y x z t := by unfold area; grind
  have e2 : (X x - X y) * (Y z - Y x) - (Y x - Y y) * (X z - X x) = area X Y y x z := by unfold area; grind
  rw [e1, e2] at a
  exact ⟨a.1, fun h => a.2 (.inr h)⟩

/-- y < t, x, z: x is not right of y z, t not right of y x: t is not right of y z. -/
theorem tri2 {α : Type} {X Y : α → Int} {y x z t : α} (hx : lt2 X Y y x) (hz : lt2 X Y y z) (ht : lt2 X Y y t) (h1 : 0 ≤ area X Y y z x) (h2 : 0 ≤ area X Y y x t) : 0 ≤ area X Y y z t :=
  (ang (lt2_pos hz) (lt2_pos hx) (lt2_pos ht) h1 h2).1

/-- w < y < x < z: w y x bends left, and y x z: so does w y z. -/
theorem tri3 {α : Type} {X Y : α → Int} {w y x z : α} (hw : lt2 X Y w y) (hx : lt2 X Y y x) (hz : lt2 X Y y z) (h1 : 0 < area X Y w y x) (h2 : 0 ≤ area X Y y x z) : 0 < area X Y w y z := by
  have e1 : (X y - X w) * (Y x - Y y) - (Y y - Y w) * (X x - X y) = area X Y w y x := by unfold area; grind
  have e2 : (X y - X w) * (Y z - Y y) - (Y y - Y w) * (X z - X y) = area X Y w y z := by unfold area; grind
  have a := ang (lt2_pos hw) (lt2_pos hx) (lt2_pos hz) (by rw [e1]; omega) h2
  rw [e1, e2] at a
  exact a.2 (.inl h1)

/-- u < p < v bends left; a is not right of u p, b not right of p v: a p b bends left. -/
theorem tri4 {α : Type} {X Y : α → Int} {u p v a b : α} (hu : lt2 X Y u p) (hv : lt2 X Y p v) (ha : lt2 X Y a p) (hb : lt2 X Y p b) (h0 : 0 < area X Y u p v) (h1 : 0 ≤ area X Y u p a) (h2 : 0 ≤ area X Y p v b) : 0 < area X Y a p b := by
  have c := tri1 hu hv ha h1 (by omega)
  have c1 := c.2 h0
  have e1 : (X p - X a) * (Y v - Y p) - (Y p - Y a) * (X v - X p) = area X Y p v a := by unfold area; grind
  have e2 : (X p - X a) * (Y b - Y p) - (Y p - Y a) * (X b - X p) = area X Y a p b := by unfold area; grind
  have e := ang (lt2_pos ha) (lt2_pos hv) (lt2_pos hb) (by rw [e1]; omega) h2
  rw [e1, e2] at e
  exact e.2 (.inl c1)

/-- The top of the way is taken off, as long as it does not bend left towards z (the top stands first). -/
def popW {α : Type} (X Y : α → Int) (z : α) : List α → List α
  | [] => []
  | [x] => [x]
  | x :: y :: r => if 0 < area X Y y x z then x :: y :: r else popW X Y z (y :: r)
def wayW {α : Type} (X Y : α → Int) (st : List α) : List α → List α
  | [] => st
  | z :: r => wayW X Y (z :: popW X Y z st) r

theorem popW_neg {α : Type} (X Y : α → Int) (z : α) (st : List α) : popW (fun p => -X p) (fun p => -Y p) z st = popW X Y z st := by
  fun_induction popW X Y z st with
  | case1 => rfl
  | case2 => rfl
  | case3 x y r h => unfold popW; rw [if_pos (by rw [area_neg]; exact h)]
  | case4 x y r h ih => rw [← ih]; conv => lhs; unfold popW
                        rw [if_neg (by rw [area_neg]; exact h)]
theorem wayW_neg {α : Type} (X Y : α → Int) (l : List α) (st : List α) : wayW (fun p => -X p) (fun p => -Y p) st l = wayW X Y st l := by
  induction l generalizing st with
  | nil => rfl
  | cons z r ih => show wayW _ _ (z :: popW _ _ z st) r = _; rw [ih, popW_neg]; rfl

def Fall {α : Type} (X Y : α → Int) : List α → Prop
  | x :: y :: r => lt2 X Y y x ∧ Fall X Y (y :: r)
  | _ => True
def Bent {α : Type} (X Y : α → Int) : List α → Prop
  | x :: y :: z :: r => 0 < area X Y z y x ∧ Bent X Y (y :: z :: r)
  | _ => True
def Under {α : Type} (X Y : α → Int) (T : List α) : List α → Prop
  | x :: y :: r => (∀ t ∈ T, 0 ≤ area X Y y x t) ∧ Under X Y T (y :: r)
  | _ => True

theorem Fall.tail {α : Type} {X Y : α → Int} {x : α} {r : List α} (h : Fall X Y (x :: r)) : Fall X Y r := by cases r with | nil => trivial | cons y r => exact h.2
theorem Bent.tail {α : Type} {X Y : α → Int} {x : α} {r : List α} (h : Bent X Y (x :: r)) : Bent X Y r := by
  cases r with | nil => trivial | cons y r => cases r with | nil => trivial | cons z r => exact h.2
theorem Under.tail {α : Type} {X Y : α → Int} {T : List α} {x : α} {r : List α} (h : Under X Y T (x :: r)) : Under X Y T r := by cases r with | nil => trivial | cons y r => exact h.2

theorem Fall.lt {α : Type} {X Y : α → Int} {x : α} {r : List α} (h : Fall X Y (x :: r)) : ∀ t ∈ r, lt2 X Y t x := by
  induction r generalizing x with
  | nil => intro t ht; cases ht
  | cons y r ih =>
    intro t ht
    rcases List.mem_cons.1 ht with rfl | ht
    · exact h.1
    · exact lt2_trans (ih h.2 t ht) h.1

theorem Under.app {α : Type} {X Y : α → Int} {T U : List α} : ∀ {r : List α}, Under X Y T r → Under X Y U r → Under X Y (T ++ U) r
  | [], _, _ => trivial
  | [_], _, _ => trivial
  | _ :: _ :: _, h, h' => ⟨fun t ht => by rcases List.mem_append.1 ht with ht | ht; exact h.1 t ht; exact h'.1 t ht, Under.app h.2 h'.2⟩

/-- A point that the way bends left towards, is to the left of all of it. -/
theorem left_all {α : Type} {X Y : α → Int} {z : α} : ∀ {r : List α} {x y : α}, Fall X Y (x :: y :: r) → Bent X Y (x :: y :: r) → lt2 X Y x z → 0 < area X Y y x z → Under X Y [z] (x :: y :: r)
  | [], x, y, hf, _, hz, h => ⟨fun t ht => by simp at ht; subst ht; omega, trivial⟩
  | v :: r, x, y, hf, hb, hz, h => by
    refine ⟨fun t ht => by simp at ht; subst ht; omega, ?_⟩
    have h2 := tri3 hf.2.1 hf.1 (lt2_trans hf.1 hz) hb.1 (by omega : 0 ≤ area X Y y x z)
    exact left_all hf.2 hb.2 (lt2_trans hf.1 hz) h2

/-- What the way has, of the points T. -/
structure Way {α : Type} (X Y : α → Int) (T st : List α) : Prop where
  fall : Fall X Y st
  bent : Bent X Y st
  under : Under X Y T st
  sub : ∀ x ∈ st, x ∈ T
  top : ∀ x ∈ st.head?, ∀ t ∈ T, t = x ∨ lt2 X Y t x
  bot : ∀ x ∈ st.getLast?, ∀ t ∈ T, t = x ∨ lt2 X Y x t
  some : st ≠ []

theorem pop_way {α : Type} {X Y : α → Int} {T : List α} {z : α} (hz : ∀ t ∈ T, lt2 X Y t z) (htri : ∀ a b, a ∈ T → b ∈ T → a = b ∨ lt2 X Y a b ∨ lt2 X Y b a) :
    ∀ (r : List α) (x : α), Fall X Y (x :: r) → Bent X Y (x :: r) → Under X Y T (x :: r) → (∀ y ∈ x :: r, y ∈ T) → (∀ y ∈ (x :: r).getLast?, ∀ t ∈ T, t = y ∨ lt2 X Y y t) →
      (∀ t ∈ T, ¬ lt2 X Y t x → 0 ≤ area X Y x z t) →
      ∃ (x' : α) (r' : List α), popW X Y z (x :: r) = x' :: r' ∧ Fall X Y (z :: x' :: r') ∧ Bent X Y (z :: x' :: r') ∧ Under X Y (T ++ [z]) (z :: x' :: r') ∧ (∀ y ∈ x' :: r', y ∈ T) ∧ (∀ y ∈ (x' :: r').getLast?, ∀ t ∈ T, t = y ∨ lt2 X Y y t) := by
  intro r
  induction r with
  | nil =>
    intro x hf hb hu hs hl hH
    have hx := hz x (hs x (by simp))
    refine ⟨x, [], rfl, ⟨hx, trivial⟩, trivial, ⟨fun t ht => ?_, trivial⟩, hs, hl⟩
    rcases List.mem_append.1 ht with ht | ht
    · refine hH t ht fun hlt => ?_
      rcases hl x (by simp) t ht with rfl | h
      · exact lt2_irrefl hlt
      · exact lt2_asymm hlt h
    · simp at ht; subst ht; rw [(area_self X Y x t).2.1]; omega
  | cons y r ih =>
    intro x hf hb hu hs hl hH
    have hx := hz x (hs x (by simp))
    unfold popW
    by_cases hpos : 0 < area X Y y x z
    · rw [if_pos hpos]
      have hL := left_all hf hb hx hpos
      refine ⟨x, y :: r, rfl, ⟨hx, hf⟩, ⟨hpos, hb⟩, ⟨fun t ht => ?_, hu.app hL⟩, hs, hl⟩
      rcases List.mem_append.1 ht with ht | ht
      · by_cases hlt : lt2 X Y t x
        · exact (tri1 hf.1 hx hlt (hu.1 t ht) (by omega)).1
        · exact hH t ht hlt
      · simp at ht; subst ht; rw [(area_self X Y x t).2.1]; omega
    · rw [if_neg hpos]
      refine ih y hf.2 hb.tail hu.2 (fun v hv => hs v (by simp [hv])) (by simpa using hl) fun t ht hty => ?_
      have h1 : 0 ≤ area X Y y z x := by rw [area_swap']; omega
      have hyz := hz y (hs y (by simp))
      by_cases hlt : lt2 X Y t x
      · rcases htri t y ht (hs y (by simp)) with rfl | h | h
        · rw [(area_self X Y t z).1]; omega
        · exact absurd h hty
        · exact tri2 hf.1 hyz h h1 (hu.1 t ht)
      · have h2 := hH t ht hlt
        have h3 := hu.1 t ht
        rw [area_part X Y y x z t]; omega

theorem way_step {α : Type} {X Y : α → Int} {T st : List α} {z : α} (h : Way X Y T st) (hz : ∀ t ∈ T, lt2 X Y t z) (htri : ∀ a b, a ∈ T → b ∈ T → a = b ∨ lt2 X Y a b ∨ lt2 X Y b a) : Way X Y (T ++ [z]) (z :: popW X Y z st) := by
  cases st with
  | nil => exact absurd rfl h.some
  | cons x r =>
    obtain ⟨x', r', e, a1, a2, a3, a4, a5⟩ := pop_way hz htri r x h.fall h.bent h.under h.sub h.bot (fun t ht hlt => by
      rcases h.top x (by simp) t ht with rfl | h'
      · rw [(area_self X Y t z).1]; omega
      · exact absurd h' hlt)
    rw [e]
    refine ⟨a1, a2, a3, fun y hy => ?_, fun y hy t ht => ?_, fun y hy t ht => ?_, by simp⟩
    · rcases List.mem_cons.1 hy with rfl | hy
      · simp
      · exact List.mem_append_left _ (a4 y hy)
    · simp at hy; subst hy
      rcases List.mem_append.1 ht with ht | ht
      · exact .inr (hz t ht)
      · simp at ht; exact .inl ht
    · have hy' : y ∈ (x' :: r').getLast? := by simpa using hy
      rcases List.mem_append.1 ht with ht | ht
      · exact a5 y hy' t ht
      · simp at ht; subst ht
        exact .inr (hz y (a4 y (List.mem_of_getLast? hy')))

/-- Rising, strictly. -/
def Rise {α : Type} (X Y : α → Int) (l : List α) : Prop := l.Pairwise (lt2 X Y)

theorem Rise.tri {α : Type} {X Y : α → Int} {l : List α} (h : Rise X Y l) : ∀ a b, a ∈ l → b ∈ l → a = b ∨ lt2 X Y a b ∨ lt2 X Y b a := by
  induction l with
  | nil => intro a b ha; cases ha
  | cons x r ih =>
    have h' := List.pairwise_cons.1 h
    intro a b ha hb
    rcases List.mem_cons.1 ha with ea | ha <;> rcases List.mem_cons.1 hb with eb | hb
    · exact .inl (ea.trans eb.symm)
    · exact .inr (.inl (ea ▸ h'.1 b hb))
    · exact .inr (.inr (eb ▸ h'.1 a ha))
    · exact ih h'.2 a b ha hb

theorem way_go {α : Type} {X Y : α → Int} (l : List α) : ∀ (T st : List α), Way X Y T st → Rise X Y (T ++ l) → Way X Y (T ++ l) (wayW X Y st l) := by
  induction l with
  | nil => intro T st h _; simpa [wayW] using h
  | cons z r ih =>
    intro T st h hr
    have hp := List.pairwise_append.1 hr
    have e : T ++ z :: r = (T ++ [z]) ++ r := by simp
    rw [e] at hr ⊢
    exact ih _ _ (way_step h (fun t ht => hp.2.2 t ht z (by simp)) (fun a b ha hb => Rise.tri hp.1 a b ha hb)) hr

theorem way_all {α : Type} {X Y : α → Int} (z : α) (r : List α) (h : Rise X Y (z :: r)) : Way X Y (z :: r) (wayW X Y [] (z :: r)) := by
  have h0 : Way X Y [z] [z] := ⟨trivial, trivial, trivial, fun x hx => hx, fun x hx t ht => by simp at hx ht; subst hx; exact .inl ht, fun x hx t ht => by simp at hx ht; subst hx; exact .inl ht, by simp⟩
  exact way_go r [z] [z] h0 h

theorem way_rise {α : Type} {X Y : α → Int} {l : List α} (h : Rise X Y l) (h0 : l ≠ []) : Way X Y l (wayW X Y [] l) := by
  cases l with
  | nil => exact absurd rfl h0
  | cons z r => exact way_all z r h

/-- At a point within the way. -/
theorem way_mid {α : Type} {X Y : α → Int} {T : List α} {u p v : α} {l2 : List α} : ∀ (l1 : List α), Fall X Y (l1 ++ v :: p :: u :: l2) → Bent X Y (l1 ++ v :: p :: u :: l2) → Under X Y T (l1 ++ v :: p :: u :: l2) →
    lt2 X Y u p ∧ lt2 X Y p v ∧ 0 < area X Y u p v ∧ (∀ t ∈ T, 0 ≤ area X Y p v t) ∧ (∀ t ∈ T, 0 ≤ area X Y u p t)
  | [], hf, hb, hu => ⟨hf.2.1, hf.1, hb.1, hu.1, hu.2.1⟩
  | _ :: l1, hf, hb, hu => way_mid l1 (Fall.tail hf) (Bent.tail hb) (Under.tail hu)

theorem way_corner {α : Type} {X Y : α → Int} {T st : List α} (h : Way X Y T st) {a p b : α} (hp : p ∈ st) (ha : a ∈ T) (hb : b ∈ T) (hap : lt2 X Y a p) (hpb : lt2 X Y p b) : 0 < area X Y a p b := by
  obtain ⟨l1, l2, rfl⟩ := List.append_of_mem hp
  rcases List.eq_nil_or_concat l1 with rfl | ⟨l1, v, rfl⟩
  · rcases h.top p (by simp) b hb with rfl | h'
    · exact absurd hpb lt2_irrefl
    · exact absurd h' (fun h' => lt2_asymm hpb h')
  · cases l2 with
    | nil =>
      rcases h.bot p (by simp) a ha with rfl | h'
      · exact absurd hap lt2_irrefl
      · exact absurd h' (fun h' => lt2_asymm hap h')
    | cons u l2 =>
      have e : l1.concat v ++ p :: u :: l2 = l1 ++ v :: p :: u :: l2 := by simp
      have hf := h.fall
      have hbt := h.bent
      have hun := h.under
      rw [e] at hf hbt hun
      obtain ⟨c1, c2, c3, c4, c5⟩ := way_mid l1 hf hbt hun
      exact tri4 c1 c2 hap hpb c3 (c5 a ha) (c4 b hb)

/-- A point that is none of the way's lies between two of it. -/
theorem way_gap {α : Type} {X Y : α → Int} {T : List α} {p : α} (htri : ∀ a, a ∈ T → a = p ∨ lt2 X Y a p ∨ lt2 X Y p a) : ∀ (st : List α), Under X Y T st → (∀ x ∈ st, x ∈ T) → st ≠ [] → (∀ x ∈ st.head?, lt2 X Y p x) → (∀ x ∈ st.getLast?, p = x ∨ lt2 X Y x p) → p ∉ st →
    ∃ a b, a ∈ st ∧ b ∈ st ∧ lt2 X Y a p ∧ lt2 X Y p b ∧ ∀ t ∈ T, 0 ≤ area X Y a b t
  | [], _, _, h, _, _, _ => absurd rfl h
  | [x], _, _, _, h1, h2, hp => by
    rcases h2 x (by simp) with rfl | h
    · simp at hp
    · exact absurd h (fun h' => lt2_asymm (h1 x (by simp)) h')
  | x :: y :: r, hu, hs, _, h1, h2, hp => by
    rcases htri y (hs y (by simp)) with rfl | h | h
    · simp at hp
    · exact ⟨y, x, by simp, by simp, h, h1 x (by simp), hu.1⟩
    · obtain ⟨a, b, ha, hb, r1⟩ := way_gap htri (y :: r) hu.2 (fun v hv => hs v (by simp [hv])) (by simp) (by simpa using h) (by simpa using h2) (fun h => hp (by simp [h]))
      exact ⟨a, b, by simp [ha], by simp [hb], r1⟩

theorem way_in {α : Type} {X Y : α → Int} {T U st su : List α} (hT : Way X Y T st) (hU : Way X Y U su) (hUT : ∀ x ∈ U, x ∈ T) (htri : ∀ a b, a ∈ T → b ∈ T → a = b ∨ lt2 X Y a b ∨ lt2 X Y b a) {p : α} (hp : p ∈ st) (hpU : p ∈ U) : p ∈ su := by
  refine Classical.byContradiction fun hno => ?_
  have htop : ∀ x ∈ su.head?, lt2 X Y p x := fun x hx => by
    rcases hU.top x hx p hpU with rfl | h
    · exact absurd (List.mem_of_head? hx) hno
    · exact h
  obtain ⟨a, b, ha, hb, h1, h2, h3⟩ := way_gap (T := U) (fun a ha => htri a p (hUT a ha) (hUT p hpU)) su hU.under hU.sub hU.some htop (fun x hx => hU.bot x hx p hpU) hno
  have c := way_corner hT hp (hUT a (hU.sub a ha)) (hUT b (hU.sub b hb)) h1 h2
  have d := h3 p hpU
  rw [area_swap'] at d
  omega

theorem fall_eq {α : Type} {X Y : α → Int} : ∀ (s t : List α), Fall X Y s → Fall X Y t → (∀ x, x ∈ s ↔ x ∈ t) → s = t
  | [], [], _, _, _ => rfl
  | [], y :: t, _, _, h => absurd ((h y).2 (by simp)) (by simp)
  | x :: s, [], _, _, h => absurd ((h x).1 (by simp)) (by simp)
  | x :: s, y :: t, hs, ht, h => by
    have exy : x = y := by
      rcases List.mem_cons.1 ((h x).1 (by simp)) with e | e
      · exact e
      · rcases List.mem_cons.1 ((h y).2 (by simp)) with e' | e'
        · exact e'.symm
        · exact absurd (ht.lt x e) (fun h' => lt2_asymm h' (hs.lt y e'))
    subst exy
    rw [fall_eq s t hs.tail ht.tail fun v => ?_]
    refine ⟨fun hv => ?_, fun hv => ?_⟩
    · rcases List.mem_cons.1 ((h v).1 (by simp [hv])) with rfl | e
      · exact absurd (hs.lt v hv) lt2_irrefl
      · exact e
    · rcases List.mem_cons.1 ((h v).2 (by simp [hv])) with rfl | e
      · exact absurd (ht.lt v hv) lt2_irrefl
      · exact e

/-- The way of some of the points that has all of the way of all of them is the same. -/
theorem way_same {α : Type} {X Y : α → Int} {T U st su : List α} (hT : Way X Y T st) (hU : Way X Y U su) (hUT : ∀ x ∈ U, x ∈ T) (hsU : ∀ x ∈ st, x ∈ U) (htri : ∀ a b, a ∈ T → b ∈ T → a = b ∨ lt2 X Y a b ∨ lt2 X Y b a) : su = st := by
  refine fall_eq su st hU.fall hT.fall fun p => ⟨fun hp => ?_, fun hp => ?_⟩
  · -- p of su; were it not of st, it would lie over an edge of st, whose ends are of U
    refine Classical.byContradiction fun hno => ?_
    have hpU := hU.sub p hp
    have hpT := hUT p hpU
    have htop : ∀ x ∈ st.head?, lt2 X Y p x := fun x hx => by
      rcases hT.top x hx p hpT with rfl | h
      · exact absurd (List.mem_of_head? hx) hno
      · exact h
    obtain ⟨a, b, ha, hb, h1, h2, h3⟩ := way_gap (T := T) (fun a ha => htri a p ha hpT) st hT.under hT.sub hT.some htop (fun x hx => hT.bot x hx p hpT) hno
    have c := way_corner hU hp (hsU a ha) (hsU b hb) h1 h2
    have d := h3 p hpT
    rw [area_swap'] at d
    omega
  · exact way_in hT hU hUT htri hp (hsU p hp)
end Go.Proofs.Ytnlkalbkjocoaaa
