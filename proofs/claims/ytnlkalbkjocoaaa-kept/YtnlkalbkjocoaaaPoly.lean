/-
  What goes around points: the two ways together; what the law asks of it; around it goes the same.
-/
import Derived.Test.YtnlkalbkjocoaaaChain
namespace Go.Proofs.Ytnlkalbkjocoaaa

theorem joint {α : Type} {X Y : α → Int} {u M c t : α} (hu : lt2 X Y u M) (hc : lt2 X Y c M) (ht : t = M ∨ lt2 X Y t M) (h1 : 0 ≤ area X Y u M t) (h2 : 0 ≤ area X Y M c t) (h3 : 0 ≤ area X Y u M c) (h4 : 0 < area X Y u M t ∨ 0 < area X Y M c t) : 0 < area X Y u M c := by
  rcases ht with rfl | ht
  · rw [(area_self X Y u t).2.1, (area_self X Y t c).1] at h4; omega
  · refine Classical.byContradiction fun hn => ?_
    have e1 : (X M - X t) * (Y M - Y u) - (Y M - Y t) * (X M - X u) = area X Y u M t := by unfold area; grind
    have e2 : (X M - X u) * (Y M - Y c) - (Y M - Y u) * (X M - X c) = -area X Y u M c := by unfold area; grind
    have e3 : (X M - X t) * (Y M - Y c) - (Y M - Y t) * (X M - X c) = -area X Y M c t := by unfold area; grind
    have a := ang (lt2_pos ht) (lt2_pos hu) (lt2_pos hc) (by rw [e1]; omega) (by rw [e2]; omega)
    rw [e1, e2, e3] at a
    have a2 := a.2
    omega

/-- A way, from its first point on. -/
structure Bow {α : Type} (X Y : α → Int) (T a : List α) : Prop where
  some : 0 < a.length
  edge : ∀ i (h : i + 1 < a.length), ∀ t ∈ T, 0 ≤ area X Y (a[i]'(by omega)) a[i + 1] t
  bend : ∀ i (h : i + 2 < a.length), 0 < area X Y (a[i]'(by omega)) (a[i + 1]'(by omega)) a[i + 2]
  rise : ∀ i j (_ : i < j) (h : j < a.length), lt2 X Y (a[i]'(by omega)) a[j]
  sub : ∀ i (h : i < a.length), a[i] ∈ T
  first : ∀ t ∈ T, t = a[0] ∨ lt2 X Y a[0] t
  last : ∀ t ∈ T, t = (a[a.length - 1]'(by omega)) ∨ lt2 X Y t (a[a.length - 1]'(by omega))

theorem fall_at {α : Type} {X Y : α → Int} : ∀ (st : List α), Fall X Y st → ∀ i j (_ : i < j) (h : j < st.length), lt2 X Y st[j] (st[i]'(by omega))
  | [], _, _, _, _, h => absurd h (by simp)
  | x :: r, hf, 0, j + 1, _, h => hf.lt _ (by simp)
  | x :: r, hf, i + 1, j + 1, hij, h => fall_at r hf.tail i j (by omega) (by simpa using h)
theorem bent_at {α : Type} {X Y : α → Int} : ∀ (st : List α), Bent X Y st → ∀ i (h : i + 2 < st.length), 0 < area X Y st[i + 2] (st[i + 1]'(by omega)) (st[i]'(by omega))
  | [], _, _, h => absurd h (by simp)
  | [_], _, _, h => absurd h (by simp)
  | [_, _], _, _, h => absurd h (by simp)
  | x :: y :: z :: r, hb, 0, h => hb.1
  | x :: y :: z :: r, hb, i + 1, h => bent_at (y :: z :: r) hb.2 i (by simpa using h)
theorem under_at {α : Type} {X Y : α → Int} {T : List α} : ∀ (st : List α), Under X Y T st → ∀ i (h : i + 1 < st.length), ∀ t ∈ T, 0 ≤ area X Y st[i + 1] (st[i]'(by omega)) t
  | [], _, _, h => absurd h (by simp)
  | [_], _, _, h => absurd h (by simp)
  | x :: y :: r, hb, 0, h => hb.1
  | x :: y :: r, hb, i + 1, h => under_at (y :: r) hb.2 i (by simpa using h)

theorem Way.bow {α : Type} {X Y : α → Int} {T st : List α} (h : Way X Y T st) : Bow X Y T st.reverse := by
  have hn : 0 < st.length := List.length_pos_iff.2 h.some
  refine ⟨by simpa using hn, fun i hi t ht => ?_, fun i hi => ?_, fun i j hij hj => ?_, fun i hi => ?_, fun t ht => ?_, fun t ht => ?_⟩
  · simp at hi
    have := under_at st h.under (st.length - 1 - (i + 1)) (by omega) t ht
    simp only [List.getElem_reverse]
    have e : st.length - 1 - (i + 1) + 1 = st.length - 1 - i := by omega
    simpa only [e] using this
  · simp at hi
    have := bent_at st h.bent (st.length - 1 - (i + 2)) (by omega)
    simp only [List.getElem_reverse]
    have e : st.length - 1 - (i + 2) + 2 = st.length - 1 - i := by omega
    have e' : st.length - 1 - (i + 2) + 1 = st.length - 1 - (i + 1) := by omega
    simpa only [e, e'] using this
  · simp at hj
    simp only [List.getElem_reverse]
    exact fall_at st h.fall _ _ (by omega) (by omega)
  · simp at hi
    simp only [List.getElem_reverse]
    exact h.sub _ (List.getElem_mem _)
  · simp only [List.getElem_reverse]
    exact h.bot _ (by rw [List.getLast?_eq_getElem?]; simp) t ht
  · simp only [List.getElem_reverse, List.length_reverse]
    have e : st.length - 1 - (st.length - 1) = 0 := by omega
    simp only [e]
    exact h.top _ (by rw [List.head?_eq_getElem?]; simp) t ht

/-- The two ways, each without its last point. -/
def ring {α : Type} (a b : List α) : List α := a.take (a.length - 1) ++ b.take (b.length - 1)

theorem ring_len {α : Type} (a b : List α) : (ring a b).length = (a.length - 1) + (b.length - 1) := by unfold ring; simp
theorem ring_at {α : Type} (a b : List α) (k : Nat) (h : k < (ring a b).length) : (∀ h' : k < a.length - 1, (ring a b)[k] = a[k]'(by omega)) ∧ (∀ h' : a.length - 1 ≤ k, (ring a b)[k] = b[k - (a.length - 1)]'(by rw [ring_len] at h; omega)) := by
  rw [ring_len] at h
  refine ⟨fun h' => ?_, fun h' => ?_⟩
  · exact (List.getElem_append_left (as := a.take (a.length - 1)) (bs := b.take (b.length - 1)) (by simp; omega)).trans (by simp)
  · exact (List.getElem_append_right (as := a.take (a.length - 1)) (bs := b.take (b.length - 1)) (by simp; omega)).trans (by simp [Nat.min_eq_left (Nat.sub_le _ _)])

theorem next_mod {k n : Nat} (h : k < n) : (k + 1) % n = if k + 1 < n then k + 1 else 0 := by
  by_cases h' : k + 1 < n
  · rw [if_pos h', Nat.mod_eq_of_lt h']
  · rw [if_neg h', (by omega : k + 1 = n), Nat.mod_self]
theorem next_mod2 {k n : Nat} : (k + 2) % n = ((k + 1) % n + 1) % n := by
  rw [Nat.mod_add_mod]

/-- What goes around points, in what the two ways have. -/
structure Rings {α : Type} (X Y : α → Int) (T a b : List α) : Prop where
  bowA : Bow X Y T a
  bowB : Bow (fun p => -X p) (fun p => -Y p) T b
  la : 2 ≤ a.length
  lb : 2 ≤ b.length
  top : b[0] = a[a.length - 1]
  bot : b[b.length - 1] = a[0]

theorem ring_next {α : Type} {X Y : α → Int} {T a b : List α} (R : Rings X Y T a b) (k : Nat) (h : k < (ring a b).length) (h2 : (k + 1) % (ring a b).length < (ring a b).length) :
    (∀ h' : k < a.length - 1, (ring a b)[(k + 1) % (ring a b).length] = a[k + 1]'(by omega)) ∧ (∀ h' : a.length - 1 ≤ k, (ring a b)[(k + 1) % (ring a b).length] = b[k - (a.length - 1) + 1]'(by rw [ring_len] at h; omega)) := by
  have hla := R.la
  have hlb := R.lb
  have hl := ring_len a b
  have e := next_mod h
  refine ⟨fun h' => ?_, fun h' => ?_⟩
  · have e' : (k + 1) % (ring a b).length = k + 1 := by rw [e, if_pos (by omega)]
    simp only [e']
    by_cases hk : k + 1 < a.length - 1
    · exact (ring_at a b (k + 1) (by omega)).1 hk
    · rw [(ring_at a b (k + 1) (by omega)).2 (by omega)]
      have e1 : k + 1 - (a.length - 1) = 0 := by omega
      have e2 : k + 1 = a.length - 1 := by omega
      simp only [e1]
      simp only [e2]
      exact R.top
  · by_cases hk : k + 1 < (ring a b).length
    · have e' : (k + 1) % (ring a b).length = k + 1 := by rw [e, if_pos hk]
      simp only [e']
      rw [(ring_at a b (k + 1) (by omega)).2 (by omega)]
      have e1 : k + 1 - (a.length - 1) = k - (a.length - 1) + 1 := by omega
      simp only [e1]
    · have e' : (k + 1) % (ring a b).length = 0 := by rw [e, if_neg hk]
      simp only [e']
      rw [(ring_at a b 0 (by omega)).1 (by omega)]
      have e1 : k - (a.length - 1) + 1 = b.length - 1 := by omega
      simp only [e1]
      exact R.bot.symm

theorem ring_edge {α : Type} {X Y : α → Int} {T a b : List α} (R : Rings X Y T a b) (k : Nat) (h : k < (ring a b).length) (h2 : (k + 1) % (ring a b).length < (ring a b).length) :
    ∀ t ∈ T, 0 ≤ area X Y (ring a b)[k] (ring a b)[(k + 1) % (ring a b).length] t := by
  intro t ht
  have hl := ring_len a b
  by_cases hk : k < a.length - 1
  · rw [(ring_next R k h h2).1 hk, (ring_at a b k h).1 hk]
    exact R.bowA.edge k (by omega) t ht
  · rw [(ring_next R k h h2).2 (by omega), (ring_at a b k h).2 (by omega)]
    have := R.bowB.edge (k - (a.length - 1)) (by omega) t ht
    rw [area_neg] at this
    exact this

theorem ring_turn {α : Type} {X Y : α → Int} {T a b : List α} (R : Rings X Y T a b) (hn : 2 < (ring a b).length) (k : Nat) (h : k < (ring a b).length) (h2 : (k + 1) % (ring a b).length < (ring a b).length) (h3 : ((k + 1) % (ring a b).length + 1) % (ring a b).length < (ring a b).length) :
    0 < area X Y (ring a b)[k] (ring a b)[(k + 1) % (ring a b).length] (ring a b)[((k + 1) % (ring a b).length + 1) % (ring a b).length] := by
  have hl := ring_len a b
  have hla := R.la
  have hlb := R.lb
  have e := next_mod h
  have N2 := ring_next R ((k + 1) % (ring a b).length) h2 h3
  by_cases hk : k < a.length - 1
  · rw [(ring_next R k h h2).1 hk, (ring_at a b k h).1 hk]
    rw [if_pos (by omega)] at e
    by_cases hk2 : k + 1 < a.length - 1
    · rw [N2.1 (by omega)]
      simp only [e]
      exact R.bowA.bend k (by omega)
    · rw [N2.2 (by omega)]
      have ek : k = a.length - 2 := by omega
      have e0 : (k + 1) % (ring a b).length - (a.length - 1) + 1 = 1 := by omega
      have e1 : k + 1 = a.length - 1 := by omega
      simp only [e0]
      simp only [e1]
      -- the greatest point
      have hE : ∀ t ∈ T, (0 : Int) ≤ area X Y (a[k]'(by omega)) (a[a.length - 1]'(by omega)) t := fun t ht => by have := R.bowA.edge k (by omega) t ht; simpa only [e1] using this
      have hF : ∀ t ∈ T, (0 : Int) ≤ area X Y (a[a.length - 1]'(by omega)) (b[1]'(by omega)) t := fun t ht => by have := R.bowB.edge 0 (by omega) t ht; rw [area_neg] at this; simpa only [R.top, Nat.zero_add] using this
      have hu : lt2 X Y (a[k]'(by omega)) (a[a.length - 1]'(by omega)) := R.bowA.rise k (a.length - 1) (by omega) (by omega)
      have hc : lt2 X Y (b[1]'(by omega)) (a[a.length - 1]'(by omega)) := by have := (lt2_neg X Y _ _).1 (R.bowB.rise 0 1 (by omega) (by omega)); simpa only [R.top] using this
      have h3 := hE _ (R.bowB.sub 1 (by omega))
      by_cases hp : 2 ≤ k + 1
      · have ht := R.bowA.sub (k - 1) (by omega)
        have hb := R.bowA.bend (k - 1) (by omega)
        have e3 : k - 1 + 1 = k := by omega
        have e4 : k - 1 + 2 = a.length - 1 := by omega
        simp only [e3, e4] at hb
        rw [← area_rot] at hb
        exact joint hu hc (R.bowA.last _ ht) (hE _ ht) (hF _ ht) h3 (.inl hb)
      · have hb := R.bowB.bend 0 (by omega)
        have ht := R.bowB.sub 2 (by omega)
        rw [area_neg] at hb
        simp only [R.top, Nat.zero_add] at hb
        exact joint hu hc (R.bowA.last _ ht) (hE _ ht) (hF _ ht) h3 (.inr hb)
  · rw [(ring_next R k h h2).2 (by omega), (ring_at a b k h).2 (by omega)]
    by_cases hk2 : k + 1 < (ring a b).length
    · rw [if_pos hk2] at e
      rw [N2.2 (by omega)]
      have := R.bowB.bend (k - (a.length - 1)) (by omega)
      rw [area_neg] at this
      have e1 : (k + 1) % (ring a b).length - (a.length - 1) + 1 = k - (a.length - 1) + 2 := by omega
      simp only [e1]
      exact this
    · rw [if_neg hk2] at e
      rw [N2.1 (by omega)]
      have e0 : (k + 1) % (ring a b).length + 1 = 1 := by omega
      have e1 : k - (a.length - 1) + 1 = b.length - 1 := by omega
      have ek : k - (a.length - 1) = b.length - 2 := by omega
      simp only [e0]
      simp only [e1]
      simp only [ek]
      simp only [R.bot]
      have e2 : b.length - 2 + 1 = b.length - 1 := by omega
      -- the least point
      have hE : ∀ t ∈ T, (0 : Int) ≤ area X Y (b[b.length - 2]'(by omega)) (a[0]'(by omega)) t := fun t ht => by have := R.bowB.edge (b.length - 2) (by omega) t ht; rw [area_neg] at this; simpa only [e2, R.bot] using this
      have hF : ∀ t ∈ T, (0 : Int) ≤ area X Y (a[0]'(by omega)) (a[1]'(by omega)) t := fun t ht => R.bowA.edge 0 (by omega) t ht
      have hu : lt2 (fun p => -X p) (fun p => -Y p) (b[b.length - 2]'(by omega)) (a[0]'(by omega)) := by have := R.bowB.rise (b.length - 2) (b.length - 1) (by omega) (by omega); simpa only [R.bot] using this
      have hc : lt2 (fun p => -X p) (fun p => -Y p) (a[1]'(by omega)) (a[0]'(by omega)) := (lt2_neg X Y _ _).2 (R.bowA.rise 0 1 (by omega) (by omega))
      have h3 := hE _ (R.bowA.sub 1 (by omega))
      rw [← area_neg]
      have hJ : ∀ t ∈ T, (0 < area X Y (b[b.length - 2]'(by omega)) (a[0]'(by omega)) t ∨ 0 < area X Y (a[0]'(by omega)) (a[1]'(by omega)) t) → 0 < area (fun p => -X p) (fun p => -Y p) (b[b.length - 2]'(by omega)) (a[0]'(by omega)) (a[1]'(by omega)) := fun t ht h4 =>
        joint hu hc (by have := R.bowB.last t ht; simpa only [R.bot] using this) (by rw [area_neg]; exact hE t ht) (by rw [area_neg]; exact hF t ht) (by rw [area_neg]; exact h3) (by rw [area_neg, area_neg]; exact h4)
      by_cases hp : 3 ≤ b.length
      · have ht := R.bowB.sub (b.length - 3) (by omega)
        have hb := R.bowB.bend (b.length - 3) (by omega)
        have e3 : b.length - 3 + 1 = b.length - 2 := by omega
        have e4 : b.length - 3 + 2 = b.length - 1 := by omega
        rw [area_neg] at hb
        simp only [e3, e4, R.bot] at hb
        rw [← area_rot] at hb
        exact hJ _ ht (.inl hb)
      · have hb := R.bowA.bend 0 (by omega)
        exact hJ _ (R.bowA.sub 2 (by omega)) (.inr hb)

theorem ring_sub {α : Type} {X Y : α → Int} {T a b : List α} (R : Rings X Y T a b) (k : Nat) (h : k < (ring a b).length) : (ring a b)[k] ∈ T := by
  by_cases hk : k < a.length - 1
  · rw [(ring_at a b k h).1 hk]; exact R.bowA.sub k (by omega)
  · have hl := ring_len a b
    rw [(ring_at a b k h).2 (by omega)]; exact R.bowB.sub _ (by omega)

theorem ring_least {α : Type} {X Y : α → Int} {T a b : List α} (R : Rings X Y T a b) (k : Nat) (h : k < (ring a b).length) (h0 : 0 < k) : lt2 X Y ((ring a b)[0]'(by omega)) (ring a b)[k] := by
  have hla := R.la
  have hl := ring_len a b
  rw [(ring_at a b 0 (by omega)).1 (by omega)]
  by_cases hk : k < a.length - 1
  · rw [(ring_at a b k h).1 hk]; exact R.bowA.rise 0 k h0 (by omega)
  · rw [(ring_at a b k h).2 (by omega)]
    have := (lt2_neg X Y _ _).1 (R.bowB.rise (k - (a.length - 1)) (b.length - 1) (by omega) (by omega))
    simpa only [R.bot] using this

theorem ring_two {α : Type} {X Y : α → Int} {T a b : List α} (R : Rings X Y T a b) (h : (ring a b).length = 2) : ∀ t ∈ T,
    area X Y ((ring a b)[0]'(by omega)) ((ring a b)[1]'(by omega)) t = 0 ∧ (t = ((ring a b)[0]'(by omega)) ∨ lt2 X Y ((ring a b)[0]'(by omega)) t) ∧ (t = ((ring a b)[1]'(by omega)) ∨ lt2 X Y t ((ring a b)[1]'(by omega))) := by
  intro t ht
  have hla := R.la
  have hlb := R.lb
  have hl := ring_len a b
  have e0 : (ring a b)[0]'(by omega) = a[0]'(by omega) := (ring_at a b 0 (by omega)).1 (by omega)
  have e1 : (ring a b)[1]'(by omega) = a[a.length - 1]'(by omega) := by
    rw [(ring_at a b 1 (by omega)).2 (by omega)]
    have e : 1 - (a.length - 1) = 0 := by omega
    simp only [e]; exact R.top
  rw [e0, e1]
  refine ⟨?_, R.bowA.first t ht, R.bowA.last t ht⟩
  have h1 := R.bowA.edge 0 (by omega) t ht
  have h2 := R.bowB.edge 0 (by omega) t ht
  have e2 : 0 + 1 = a.length - 1 := by omega
  have e3 : 0 + 1 = b.length - 1 := by omega
  rw [area_neg, area_swap] at h2
  simp only [e2] at h1
  simp only [e3, R.bot, R.top] at h2
  omega

theorem bow_mem {α : Type} {X Y : α → Int} {T U a : List α} (h : Bow X Y T a) (hm : ∀ t, t ∈ U ↔ t ∈ T) : Bow X Y U a :=
  ⟨h.some, fun i hi t ht => h.edge i hi t ((hm t).1 ht), h.bend, h.rise, fun i hi => (hm _).2 (h.sub i hi), fun t ht => h.first t ((hm t).1 ht), fun t ht => h.last t ((hm t).1 ht)⟩

/-- What Hull makes of sorted points that are all different. -/
def hullL {α : Type} (X Y : α → Int) (s : List α) : List α := if s.length = 1 then s else ring (wayW X Y [] s).reverse (wayW X Y [] s.reverse).reverse

theorem rise_back {α : Type} {X Y : α → Int} {s : List α} (h : Rise X Y s) : Rise (fun p => -X p) (fun p => -Y p) s.reverse := by
  unfold Rise; rw [List.pairwise_reverse]
  exact List.Pairwise.imp (fun {a b} hab => (lt2_neg X Y b a).2 hab) h

theorem len_two {α : Type} {X Y : α → Int} {T a : List α} (h : Bow X Y T a) {u v : α} (hu : u ∈ T) (hv : v ∈ T) (huv : lt2 X Y u v) : 2 ≤ a.length := by
  have hs := h.some
  refine Classical.byContradiction fun hn => ?_
  have e : a.length - 1 = 0 := by omega
  have f := h.last v hv
  simp only [e] at f
  rcases h.first u hu with rfl | h1
  · rcases f with rfl | f
    · exact lt2_irrefl huv
    · exact lt2_asymm huv f
  · rcases f with rfl | f
    · exact lt2_asymm huv h1
    · exact lt2_irrefl (lt2_trans (lt2_trans h1 huv) f)

theorem rings_of {α : Type} {X Y : α → Int} {s : List α} (h : Rise X Y s) (h2 : 2 ≤ s.length) : Rings X Y s (wayW X Y [] s).reverse (wayW X Y [] s.reverse).reverse := by
  have hs : s ≠ [] := by intro e; rw [e] at h2; simp at h2
  have A := (way_rise h hs).bow
  have B0 := (way_rise (rise_back h) (by simpa using hs)).bow
  rw [wayW_neg] at B0
  have B := bow_mem B0 (U := s) (fun t => by simp)
  have huv : lt2 X Y s[0] s[1] := List.pairwise_iff_getElem.1 h 0 1 (by omega) (by omega) (by omega)
  have la := len_two A (List.getElem_mem (by omega)) (List.getElem_mem (by omega)) huv
  have lb := len_two B (List.getElem_mem (by omega : 1 < s.length)) (List.getElem_mem (by omega : 0 < s.length)) ((lt2_neg X Y _ _).2 huv)
  generalize (wayW X Y [] s).reverse = a at A la ⊢
  generalize (wayW X Y [] s.reverse).reverse = b at B lb ⊢
  refine ⟨A, B, la, lb, ?_, ?_⟩
  · rcases A.last _ (B.sub 0 (by omega)) with e | e
    · exact e
    · rcases B.first _ (A.sub (a.length - 1) (by omega)) with e' | e'
      · exact e'.symm
      · exact absurd ((lt2_neg X Y _ _).1 e') (fun h' => lt2_asymm e h')
  · rcases A.first _ (B.sub (b.length - 1) (by omega)) with e | e
    · exact e
    · rcases B.last _ (A.sub 0 (by omega)) with e' | e'
      · exact e'.symm
      · exact absurd ((lt2_neg X Y _ _).1 e') (fun h' => lt2_asymm e h')

/-- All that the law asks of what goes around. -/
structure HullOf {α : Type} (X Y : α → Int) (T h : List α) : Prop where
  some : 0 < h.length
  one : h.length = 1 → ∀ t ∈ T, t = h[0]
  two : (e : h.length = 2) → ∀ t ∈ T, area X Y (h[0]'(by omega)) (h[1]'(by omega)) t = 0 ∧ (t = (h[0]'(by omega)) ∨ lt2 X Y (h[0]'(by omega)) t) ∧ (t = (h[1]'(by omega)) ∨ lt2 X Y t (h[1]'(by omega)))
  edge : 2 < h.length → ∀ k (hk : k < h.length) (h2 : (k + 1) % h.length < h.length), ∀ t ∈ T, 0 ≤ area X Y h[k] h[(k + 1) % h.length] t
  turn : 2 < h.length → ∀ k (hk : k < h.length) (h2 : (k + 1) % h.length < h.length) (h3 : (k + 2) % h.length < h.length), 0 < area X Y h[k] h[(k + 1) % h.length] h[(k + 2) % h.length]
  sub : ∀ k (hk : k < h.length), h[k] ∈ T
  least : ∀ k (hk : k < h.length), 0 < k → lt2 X Y (h[0]'(by omega)) h[k]

theorem hull_of {α : Type} {X Y : α → Int} {s : List α} (h : Rise X Y s) (h0 : 0 < s.length) : HullOf X Y s (hullL X Y s) := by
  by_cases h1 : s.length = 1
  · have e : hullL X Y s = s := by unfold hullL; rw [if_pos h1]
    rw [e]
    refine ⟨by omega, fun _ t ht => ?_, fun e => by omega, fun e => by omega, fun e => by omega, fun k hk => List.getElem_mem hk, fun k hk _ => by omega⟩
    obtain ⟨x, rfl⟩ := List.length_eq_one_iff.1 h1
    simpa using ht
  · have e : hullL X Y s = ring (wayW X Y [] s).reverse (wayW X Y [] s.reverse).reverse := by unfold hullL; rw [if_neg h1]
    rw [e]
    have R := rings_of h (by omega)
    generalize (wayW X Y [] s).reverse = a at R
    generalize (wayW X Y [] s.reverse).reverse = b at R
    have hl := ring_len a b
    have hla := R.la
    have hlb := R.lb
    refine ⟨by omega, fun e => by omega, fun e => ring_two R e, fun hn k hk h2 => ring_edge R k hk h2, fun hn k hk h2 h3 => ?_, fun k hk => ring_sub R k hk, fun k hk h0 => ring_least R k hk h0⟩
    have e2 := next_mod2 (k := k) (n := (ring a b).length)
    have := ring_turn R hn k hk h2 (by rw [← e2]; exact h3)
    simpa only [e2] using this

theorem mem_ring {α : Type} {X Y : α → Int} {T a b : List α} (R : Rings X Y T a b) (x : α) : x ∈ ring a b ↔ x ∈ a ∨ x ∈ b := by
  have hla := R.la
  have hlb := R.lb
  have spl : ∀ (c : List α) (hc : 2 ≤ c.length), ∀ y ∈ c, y ∈ c.take (c.length - 1) ∨ y = c[c.length - 1] := fun c hc y hy => by
    obtain ⟨i, hi, rfl⟩ := List.mem_iff_getElem.1 hy
    by_cases h : i < c.length - 1
    · exact .inl (List.mem_iff_getElem.2 ⟨i, by simp; omega, by simp⟩)
    · have : i = c.length - 1 := by omega
      subst this; exact .inr rfl
  have fst : ∀ (c : List α) (hc : 2 ≤ c.length), c[0] ∈ c.take (c.length - 1) := fun c hc => List.mem_iff_getElem.2 ⟨0, by simp; omega, by simp⟩
  unfold ring
  rw [List.mem_append]
  refine ⟨fun h => h.imp List.mem_of_mem_take List.mem_of_mem_take, fun h => ?_⟩
  rcases h with h | h
  · rcases spl a hla x h with h | rfl
    · exact .inl h
    · exact .inr (by rw [← R.top]; exact fst b hlb)
  · rcases spl b hlb x h with h | rfl
    · exact .inr h
    · exact .inl (by rw [R.bot]; exact fst a hla)

/-- Around what goes around goes the same. -/
theorem hull_again {α : Type} {X Y : α → Int} {s u : List α} (h : Rise X Y s) (h0 : 0 < s.length) (hu : Rise X Y u) (hm : ∀ x, x ∈ u ↔ x ∈ hullL X Y s) : hullL X Y u = hullL X Y s := by
  by_cases h1 : s.length = 1
  · have e : hullL X Y s = s := by unfold hullL; rw [if_pos h1]
    rw [e] at hm ⊢
    obtain ⟨x, rfl⟩ := List.length_eq_one_iff.1 h1
    have : u = [x] := by
      cases u with
      | nil => exact absurd ((hm x).2 (by simp)) (by simp)
      | cons y r =>
        have e1 : y = x := by simpa using (hm y).1 (by simp)
        subst e1
        cases r with
        | nil => rfl
        | cons v r =>
          have e2 : v = y := by simpa using (hm v).1 (by simp)
          subst e2
          exact absurd ((List.pairwise_cons.1 hu).1 v (by simp)) lt2_irrefl
    rw [this]; rfl
  · have e : hullL X Y s = ring (wayW X Y [] s).reverse (wayW X Y [] s.reverse).reverse := by unfold hullL; rw [if_neg h1]
    have R := rings_of h (by omega)
    have hs : s ≠ [] := by intro e; rw [e] at h0; simp at h0
    rw [e] at hm
    have hm' : ∀ x, x ∈ u ↔ x ∈ wayW X Y [] s ∨ x ∈ wayW X Y [] s.reverse := fun x => by rw [hm x, mem_ring R x]; simp
    have A := way_rise h hs
    have B := way_rise (rise_back h) (by simpa using hs)
    rw [wayW_neg] at B
    have hus : ∀ x ∈ u, x ∈ s := fun x hx => by
      rcases (hm' x).1 hx with h | h
      · exact A.sub x h
      · simpa using B.sub x h
    have hu0 : u ≠ [] := by
      intro e; subst e
      obtain ⟨y, hy⟩ := List.exists_mem_of_ne_nil _ A.some
      exact absurd ((hm' y).2 (.inl hy)) (by simp)
    have hA := way_rise hu hu0
    have hB := way_rise (rise_back hu) (by simpa using hu0)
    rw [wayW_neg] at hB
    have eA := way_same A hA hus (fun x hx => (hm' x).2 (.inl hx)) (Rise.tri h)
    have eB := way_same B hB (fun x hx => by simpa using hus x (by simpa using hx)) (fun x hx => by simpa using (hm' x).2 (.inr hx)) (Rise.tri (rise_back h))
    have hul : u.length ≠ 1 := by
      intro e1
      obtain ⟨x, rfl⟩ := List.length_eq_one_iff.1 e1
      have R1 := R.bowA.rise 0 1 (by omega) (by have := R.la; omega)
      have q1 : (wayW X Y [] s).reverse[0]'(by have := R.la; omega) = x := by
        have := (hm' _).2 (.inl (List.mem_reverse.1 (List.getElem_mem (l := (wayW X Y [] s).reverse) (n := 0) (by have := R.la; omega))))
        simpa using this
      have q2 : (wayW X Y [] s).reverse[1]'(by have := R.la; omega) = x := by
        have := (hm' _).2 (.inl (List.mem_reverse.1 (List.getElem_mem (l := (wayW X Y [] s).reverse) (n := 1) (by have := R.la; omega))))
        simpa using this
      rw [q1, q2] at R1
      exact lt2_irrefl R1
    rw [e]
    unfold hullL
    rw [if_neg hul, eA, eB]
end Go.Proofs.Ytnlkalbkjocoaaa
