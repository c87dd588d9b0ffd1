/-
  The plain mathematics of areas and windings: told from another corner on, told backwards, cut in two.
-/
import Derived.Test.YtnlkalbkjocoaaaFace
namespace Go.Proofs.Ytnlkalbkjocoaaa

/-- The edges of a way, one by one. -/
def ps {M : Type} (op : M → M → M) (e : M) (f : C → C → M) : List C → M
  | [] => e
  | [_] => e
  | a :: b :: r => op (f a b) (ps op e f (b :: r))
/-- .. of a closed one. -/
def cyc {M : Type} (op : M → M → M) (e : M) (f : C → C → M) (l : List C) : M :=
  match l.getLast? with
  | none => e
  | some z => ps op e f (z :: l)
theorem cyc_snoc {M : Type} (op : M → M → M) (e : M) (f : C → C → M) (l : List C) (a : C) : cyc op e f (l ++ [a]) = ps op e f (a :: (l ++ [a])) := by
  unfold cyc; rw [List.getLast?_append]; rfl

theorem ps_append {M : Type} (op : M → M → M) (e : M) (f : C → C → M) (assoc : ∀ x y z, op (op x y) z = op x (op y z)) (one : ∀ x, op e x = x) (l : List C) (a : C) (m : List C) :
    ps op e f (l ++ a :: m) = op (ps op e f (l ++ [a])) (ps op e f (a :: m)) := by
  induction l with
  | nil => simp [ps, one]
  | cons b r ih =>
    cases r with
    | nil => simp [ps, assoc, one]
    | cons c r => simp only [List.cons_append] at ih ⊢; simp only [ps]; rw [ih, assoc]

theorem cyc_two {M : Type} (op : M → M → M) (e : M) (f : C → C → M) (assoc : ∀ x y z, op (op x y) z = op x (op y z)) (one : ∀ x, op e x = x) (l m : List C) (a b : C) :
    cyc op e f ((l ++ [a]) ++ (m ++ [b])) = op (ps op e f (b :: (l ++ [a]))) (ps op e f (a :: (m ++ [b]))) := by
  have e1 : (l ++ [a]) ++ (m ++ [b]) = (l ++ a :: m) ++ [b] := by simp
  have e2 : b :: ((l ++ a :: m) ++ [b]) = (b :: l) ++ a :: (m ++ [b]) := by simp
  rw [e1, cyc_snoc, e2, ps_append op e f assoc one]; rfl

theorem ps_reverse {M : Type} (op : M → M → M) (e : M) (f : C → C → M) (assoc : ∀ x y z, op (op x y) z = op x (op y z)) (comm : ∀ x y, op x y = op y x) (one : ∀ x, op e x = x)
    (inv : M → M) (hf : ∀ a b, f b a = inv (f a b)) (hop : ∀ x y, inv (op x y) = op (inv x) (inv y)) (he : inv e = e) : ∀ l : List C, ps op e f l.reverse = inv (ps op e f l)
  | [] => by simp [ps, he]
  | [a] => by simp [ps, he]
  | a :: b :: r => by
    have ih := ps_reverse op e f assoc comm one inv hf hop he (b :: r)
    have h1 : (a :: b :: r).reverse = r.reverse ++ b :: [a] := by simp
    rw [h1, ps_append op e f assoc one]
    have h2 : r.reverse ++ [b] = (b :: r).reverse := by simp
    rw [h2, ih]
    simp only [ps]
    rw [hop, hf a b, comm (inv (f a b)) e, one, comm]

/-- Told from another corner on. -/
theorem cyc_rotate {M : Type} (op : M → M → M) (e : M) (f : C → C → M) (assoc : ∀ x y z, op (op x y) z = op x (op y z)) (comm : ∀ x y, op x y = op y x) (one : ∀ x, op e x = x) (l m : List C) :
    cyc op e f (l ++ m) = cyc op e f (m ++ l) := by
  rcases List.eq_nil_or_concat l with rfl | ⟨l', a, rfl⟩
  · simp
  · rcases List.eq_nil_or_concat m with rfl | ⟨m', b, rfl⟩
    · simp
    · rw [List.concat_eq_append, List.concat_eq_append, cyc_two op e f assoc one, cyc_two op e f assoc one, comm]

/-- Told backwards. -/
theorem cyc_reverse {M : Type} (op : M → M → M) (e : M) (f : C → C → M) (assoc : ∀ x y z, op (op x y) z = op x (op y z)) (comm : ∀ x y, op x y = op y x) (one : ∀ x, op e x = x)
    (inv : M → M) (hf : ∀ a b, f b a = inv (f a b)) (hop : ∀ x y, inv (op x y) = op (inv x) (inv y)) (he : inv e = e) (l : List C) : cyc op e f l.reverse = inv (cyc op e f l) := by
  cases l with
  | nil => simp [cyc, he]
  | cons a r =>
    have h1 : (a :: r).reverse = r.reverse ++ [a] := by simp
    rw [h1, cyc_snoc]
    have h2 : a :: (r.reverse ++ [a]) = (a :: (r ++ [a])).reverse := by simp
    rw [h2, ps_reverse op e f assoc comm one inv hf hop he]
    congr 1
    rcases List.eq_nil_or_concat r with rfl | ⟨r', b, rfl⟩
    · rfl
    · rw [List.concat_eq_append]
      have h3 : a :: (r' ++ [b]) = (a :: r') ++ [b] := rfl
      have h4 : a :: ((r' ++ [b]) ++ [a]) = (a :: r') ++ b :: [a] := by simp
      have h5 : b :: ((a :: r') ++ [b]) = [b] ++ a :: (r' ++ [b]) := rfl
      rw [h3, cyc_snoc, h4, ps_append op e f assoc one, h5, ps_append op e f assoc one [b] a, comm]; rfl

/-- Cut in two between the corners x and y: the new edge is gone through there and back. -/
theorem cyc_cut {M : Type} (op : M → M → M) (e : M) (f : C → C → M) (assoc : ∀ x y z, op (op x y) z = op x (op y z)) (comm : ∀ x y, op x y = op y x) (one : ∀ x, op e x = x)
    (inv : M → M) (hf : ∀ a b, f b a = inv (f a b)) (hinv : ∀ x, op x (inv x) = e) (A B D : List C) (x y : C) :
    op (cyc op e f (x :: (B ++ [y]))) (cyc op e f ((A ++ [x]) ++ (y :: D))) = cyc op e f ((A ++ [x]) ++ B ++ (y :: D)) := by
  have h1 : cyc op e f (x :: (B ++ [y])) = op (f y x) (ps op e f (x :: (B ++ [y]))) := by
    rw [show x :: (B ++ [y]) = (x :: B) ++ [y] from rfl, cyc_snoc]; rfl
  obtain ⟨E, z, hz⟩ : ∃ E z, y :: D = E ++ [z] := by
    rcases List.eq_nil_or_concat (y :: D) with h | ⟨E, z, h⟩
    · cases h
    · exact ⟨E, z, by rw [h, List.concat_eq_append]⟩
  have h2 : cyc op e f ((A ++ [x]) ++ (y :: D)) = op (ps op e f (z :: (A ++ [x]))) (op (f x y) (ps op e f (y :: D))) := by
    rw [hz, cyc_two op e f assoc one, ← hz]; rfl
  have h3 : cyc op e f ((A ++ [x]) ++ B ++ (y :: D)) = op (ps op e f (z :: (A ++ [x]))) (op (ps op e f (x :: (B ++ [y]))) (ps op e f (y :: D))) := by
    rw [hz, show A ++ [x] ++ B ++ (E ++ [z]) = (A ++ [x]) ++ ((B ++ E) ++ [z]) by simp, cyc_two op e f assoc one]
    rw [show x :: ((B ++ E) ++ [z]) = (x :: B) ++ (E ++ [z]) by simp, ← hz, ps_append op e f assoc one]; rfl
  rw [h1, h2, h3, hf x y]
  generalize ps op e f (x :: (B ++ [y])) = p
  generalize ps op e f (z :: (A ++ [x])) = q
  generalize ps op e f (y :: D) = r
  generalize f x y = t
  have a1 : op q (op t r) = op t (op q r) := by rw [← assoc, comm q t, assoc]
  rw [a1, comm (inv t) p, assoc, ← assoc (inv t) t, comm (inv t) t, hinv, one]
  rw [← assoc, comm p q, assoc]

/-- A sum, and whether any. -/
abbrev cycS (f : C → C → Int) : List C → Int := cyc (· + ·) 0 f
abbrev cycB (g : C → C → Bool) : List C → Bool := cyc (· || ·) false g

theorem cycS_rotate (f : C → C → Int) (l m : List C) : cycS f (l ++ m) = cycS f (m ++ l) := cyc_rotate _ _ _ Int.add_assoc Int.add_comm Int.zero_add l m
theorem cycB_rotate (g : C → C → Bool) (l m : List C) : cycB g (l ++ m) = cycB g (m ++ l) := cyc_rotate _ _ _ Bool.or_assoc Bool.or_comm Bool.false_or l m
theorem cycS_reverse (f : C → C → Int) (hf : ∀ a b, f b a = -f a b) (l : List C) : cycS f l.reverse = -cycS f l :=
  cyc_reverse _ _ _ Int.add_assoc Int.add_comm Int.zero_add (fun x => -x) hf (fun x y => by omega) rfl l
theorem cycB_reverse (g : C → C → Bool) (hg : ∀ a b, g b a = g a b) (l : List C) : cycB g l.reverse = cycB g l :=
  cyc_reverse _ _ _ Bool.or_assoc Bool.or_comm Bool.false_or (fun x => x) hg (fun _ _ => rfl) rfl l
theorem cycS_cut (f : C → C → Int) (hf : ∀ a b, f b a = -f a b) (A B D : List C) (x y : C) : cycS f (x :: (B ++ [y])) + cycS f ((A ++ [x]) ++ (y :: D)) = cycS f ((A ++ [x]) ++ B ++ (y :: D)) :=
  cyc_cut _ _ _ Int.add_assoc Int.add_comm Int.zero_add (fun x => -x) hf (fun x => by omega) A B D x y

/-! What Twice and Winds answer, in these words. -/
theorem sumZ_val (s : Z) (p : C) (l : List C) : (sumZ s p l).val = s.val + ps (· + ·) 0 C.cr (p :: l) := by
  induction l generalizing s p with
  | nil => simp [sumZ, ps]
  | cons c r ih =>
    simp only [sumZ, ps]
    rw [ih, Z.val_add]
    have : (p.conj.mul c).im.val = C.cr p c := C.Y_conj_mul p c
    rw [this]; omega

theorem getLast_idx (l : List C) (h0 : 0 < l.length) : l.getLast? = some l[l.length - 1] := by
  rw [List.getLast?_eq_getElem?]; simp

theorem twiceL_eq (l : List C) (h0 : 0 < l.length) : twiceL l h0 = cycS C.cr l := by
  unfold twiceL cycS cyc
  rw [sumZ_val, getLast_idx l h0]
  show Z0.val + _ = _
  rw [show Z0.val = 0 from rfl, Int.zero_add]

theorem windsZ_eq (t : Int) (p : C) (l : List C) : windsZ t p l = if ps (· || ·) false C.touchB (p :: l) then (0, true) else (t + ps (· + ·) 0 C.rayI (p :: l), false) := by
  induction l generalizing t p with
  | nil => simp [windsZ, ps]
  | cons c r ih =>
    have e1 : ps (· || ·) false C.touchB (p :: c :: r) = (C.touchB p c || ps (· || ·) false C.touchB (c :: r)) := rfl
    have e2 : ps (· + ·) 0 C.rayI (p :: c :: r) = C.rayI p c + ps (· + ·) 0 C.rayI (c :: r) := rfl
    by_cases h : C.touchB p c = true
    · have e3 : ps (· || ·) false C.touchB (p :: c :: r) = true := by rw [e1, h, Bool.true_or]
      rw [if_pos e3, windsZ, if_pos h]
    · have h' : C.touchB p c = false := by simpa using h
      have e3 : ps (· || ·) false C.touchB (p :: c :: r) = ps (· || ·) false C.touchB (c :: r) := by rw [e1, h', Bool.false_or]
      rw [windsZ, if_neg h, ih, e2]
      by_cases g : ps (· || ·) false C.touchB (c :: r) = true
      · rw [if_pos g, if_pos (e3.trans g)]
      · rw [if_neg g, if_neg (fun k => g (e3.symm.trans k)), Int.add_assoc]

theorem windsL_eq (q : C) (l : List C) (h0 : 0 < l.length) : windsL q l h0 = if cycB C.touchB (l.map (C.sub · q)) then (0, true) else (cycS C.rayI (l.map (C.sub · q)), false) := by
  have hl : (l.map (C.sub · q)).getLast? = some (l[l.length - 1].sub q) := by rw [List.getLast?_map, getLast_idx l h0]; rfl
  unfold windsL cycB cycS cyc
  rw [windsZ_eq, hl, Int.zero_add]

theorem cr_flip (a b : C) : C.cr b a = -C.cr a b := by unfold C.cr; rw [Int.mul_comm b.X, Int.mul_comm b.Y]; omega
theorem dt_flip (a b : C) : C.dt b a = C.dt a b := by unfold C.dt; rw [Int.mul_comm b.X, Int.mul_comm b.Y]
theorem touch_flip (a b : C) : C.touchB b a = C.touchB a b := by
  unfold C.touchB; rw [cr_flip a b, dt_flip a b]
  have : (-C.cr a b = 0) ↔ (C.cr a b = 0) := by omega
  simp only [this]
theorem ray_flip (a b : C) : C.rayI b a = -C.rayI a b := by
  have h := cr_flip a b
  unfold C.rayI
  split <;> split <;> (try split) <;> (try split) <;> omega

/-! Bounds. -/
theorem cr_bd {a b : C} (ha : a.lim 1048576) (hb : b.lim 1048576) : -2199023255552 ≤ C.cr a b ∧ C.cr a b ≤ 2199023255552 := by
  have h1 := mul_bound ha.1 hb.2
  have h2 := mul_bound ha.2 hb.1
  unfold C.cr; omega
theorem ps_cr_bd (p : C) (l : List C) (hp : p.lim 1048576) (h : ∀ c ∈ l, c.lim 1048576) : -(l.length * 2199023255552 : Int) ≤ ps (· + ·) 0 C.cr (p :: l) ∧ ps (· + ·) 0 C.cr (p :: l) ≤ l.length * 2199023255552 := by
  induction l generalizing p with
  | nil => simp [ps]
  | cons c r ih =>
    have hc := h c (by simp)
    have h1 := ih c hc (fun d hd => h d (by simp [hd]))
    have h2 := cr_bd hp hc
    simp only [ps, List.length_cons]
    omega
theorem twiceL_bd (l : List C) (h0 : 0 < l.length) (hn : l.length ≤ 32) (h : ∀ c ∈ l, c.lim 1048576) : -70368744177664 ≤ twiceL l h0 ∧ twiceL l h0 ≤ 70368744177664 := by
  have h1 := ps_cr_bd l[l.length - 1] l (h _ (List.getElem_mem _)) h
  unfold twiceL
  rw [sumZ_val]
  have : Z0.val = 0 := rfl
  omega
theorem ps_ray_bd (p : C) (l : List C) : -(l.length : Int) ≤ ps (· + ·) 0 C.rayI (p :: l) ∧ ps (· + ·) 0 C.rayI (p :: l) ≤ l.length := by
  induction l generalizing p with
  | nil => simp [ps]
  | cons c r ih =>
    have h1 := ih c
    have h2 := rayI_bd p c
    simp only [ps, List.length_cons]
    omega
theorem windsL_bd (q : C) (l : List C) (h0 : 0 < l.length) (hn : l.length ≤ 32) : -32 ≤ (windsL q l h0).1 ∧ (windsL q l h0).1 ≤ 32 := by
  unfold windsL
  rw [windsZ_eq]
  split
  · simp
  · have h := ps_ray_bd (l[l.length - 1].sub q) (l.map (C.sub · q))
    simp only [List.length_map] at h
    simp only
    omega

/-! What 'Around' looks at. -/
theorem around_rot (L : List C) (k : Nat) (h0 : 0 < L.length) (h1 : 0 < (L.drop k ++ L.take k).length) (q : C) : twiceL (L.drop k ++ L.take k) h1 = twiceL L h0 ∧ windsL q (L.drop k ++ L.take k) h1 = windsL q L h0 := by
  constructor
  · rw [twiceL_eq, twiceL_eq, cycS_rotate, List.take_append_drop]
  · rw [windsL_eq, windsL_eq, List.map_append, cycS_rotate, cycB_rotate, ← List.map_append, List.take_append_drop]
theorem around_rev (L : List C) (h0 : 0 < L.length) (h1 : 0 < L.reverse.length) (q : C) : twiceL L.reverse h1 = -twiceL L h0 ∧ windsL q L.reverse h1 = (-(windsL q L h0).1, (windsL q L h0).2) := by
  constructor
  · rw [twiceL_eq, twiceL_eq, cycS_reverse _ cr_flip]
  · rw [windsL_eq, windsL_eq, List.map_reverse, cycS_reverse _ ray_flip, cycB_reverse _ touch_flip]
    split <;> rfl

theorem cut_lists (L : List C) (fr to : Nat) (h1 : fr < to) (h2 : to < L.length) : ∃ A B D x y, L = (A ++ [x]) ++ B ++ (y :: D) ∧ (L.drop fr).take (to + 1 - fr) = x :: (B ++ [y]) ∧ L.take (fr + 1) ++ L.drop to = (A ++ [x]) ++ (y :: D) := by
  refine ⟨L.take fr, (L.drop (fr + 1)).take (to - fr - 1), L.drop (to + 1), L[fr], L[to], ?_, ?_, ?_⟩
  · have e1 : L.take fr ++ [L[fr]] = L.take (fr + 1) := (List.take_succ_eq_append_getElem (by omega)).symm
    have e2 : L[to] :: L.drop (to + 1) = L.drop to := (List.drop_eq_getElem_cons h2).symm
    have e3 : L.drop to = (L.drop (fr + 1)).drop (to - fr - 1) := by rw [List.drop_drop]; congr 1; omega
    rw [e1, e2, e3, List.append_assoc, List.take_append_drop, List.take_append_drop]
  · rw [List.drop_eq_getElem_cons (show fr < L.length by omega), show to + 1 - fr = (to - fr - 1) + 1 + 1 by omega, List.take_succ_cons]
    congr 1
    rw [List.take_succ_eq_append_getElem (by simp; omega)]
    congr 2
    simp only [List.getElem_drop]
    congr 1; omega
  · rw [List.take_succ_eq_append_getElem (show fr < L.length by omega), List.drop_eq_getElem_cons h2]

theorem around_cut (L : List C) (fr to : Nat) (h1 : fr < to) (h2 : to < L.length) (q : C) (h0 : 0 < L.length) (hl : 0 < ((L.drop fr).take (to + 1 - fr)).length) (hr : 0 < (L.take (fr + 1) ++ L.drop to).length) :
    twiceL ((L.drop fr).take (to + 1 - fr)) hl + twiceL (L.take (fr + 1) ++ L.drop to) hr = twiceL L h0 ∧
    ((windsL q ((L.drop fr).take (to + 1 - fr)) hl).2 = false → (windsL q (L.take (fr + 1) ++ L.drop to) hr).2 = false → (windsL q L h0).2 = false →
      (windsL q ((L.drop fr).take (to + 1 - fr)) hl).1 + (windsL q (L.take (fr + 1) ++ L.drop to) hr).1 = (windsL q L h0).1) := by
  obtain ⟨A, B, D, x, y, e1, e2, e3⟩ := cut_lists L fr to h1 h2
  constructor
  · rw [twiceL_eq, twiceL_eq, twiceL_eq, e2, e3]
    conv => rhs; rw [e1]
    exact cycS_cut _ cr_flip A B D x y
  · rw [windsL_eq, windsL_eq, windsL_eq, e2, e3]
    intro g1 g2 g3
    have k1 : ¬ cycB C.touchB ((x :: (B ++ [y])).map (C.sub · q)) = true := fun h => by rw [if_pos h] at g1; cases g1
    have k2 : ¬ cycB C.touchB (((A ++ [x]) ++ (y :: D)).map (C.sub · q)) = true := fun h => by rw [if_pos h] at g2; cases g2
    have k3 : ¬ cycB C.touchB (L.map (C.sub · q)) = true := fun h => by rw [if_pos h] at g3; cases g3
    rw [if_neg k1, if_neg k2, if_neg k3]
    have key := cycS_cut _ ray_flip (A.map (C.sub · q)) (B.map (C.sub · q)) (D.map (C.sub · q)) (x.sub q) (y.sub q)
    have f1 : (x :: (B ++ [y])).map (C.sub · q) = x.sub q :: (B.map (C.sub · q) ++ [y.sub q]) := by simp
    have f2 : ((A ++ [x]) ++ (y :: D)).map (C.sub · q) = (A.map (C.sub · q) ++ [x.sub q]) ++ (y.sub q :: D.map (C.sub · q)) := by simp
    have f3 : L.map (C.sub · q) = (A.map (C.sub · q) ++ [x.sub q]) ++ B.map (C.sub · q) ++ (y.sub q :: D.map (C.sub · q)) := by
      conv => lhs; rw [e1]
      simp
    rw [f1, f2, f3]
    exact key
end Go.Proofs.Ytnlkalbkjocoaaa
