/-
  Points as pairs of whole numbers (no zero with a sign), and what compare, bendsLeft and the law's 'left' answer on them.
-/
import Derived.Test.YtnlkalbkjocoaaaShape
import Derived.Shelf.Abstract
namespace Go.Proofs.Ytnlkalbkjocoaaa
open Go.Shelf Go.RowKit

/-- The points. -/
abbrev Q : Type := Fin 2097153 × Fin 2097153
def qx (q : Q) : Int := (q.1.val : Int) - 1048576
def qy (q : Q) : Int := (q.2.val : Int) - 1048576
def qc (q : Q) : C := C.of (qx q) (qy q)
def qe (q : Q) : Value := .complex .f64 (qc q).re.bits (qc q).im.bits

theorem qX (q : Q) : (qc q).X = qx q := C.X_of _ _
theorem qY (q : Q) : (qc q).Y = qy q := C.Y_of _ _
theorem qx_bd (q : Q) : -1048576 ≤ qx q ∧ qx q ≤ 1048576 := by have := q.1.isLt; unfold qx; omega
theorem qy_bd (q : Q) : -1048576 ≤ qy q ∧ qy q ≤ 1048576 := by have := q.2.isLt; unfold qy; omega
theorem qc_lim (q : Q) : (qc q).lim 1048576 := by
  have h1 := qx_bd q
  have h2 := qy_bd q
  unfold C.lim; rw [qX, qY]; exact ⟨h1, h2⟩
theorem q_ext {a b : Q} (h1 : qx a = qx b) (h2 : qy a = qy b) : a = b := by
  unfold qx at h1; unfold qy at h2
  exact Prod.ext (Fin.ext (by omega)) (Fin.ext (by omega))
theorem q_of (c : C) (h : c.lim 1048576) (hc : c = C.of c.X c.Y) : ∃ q, qc q = c := by
  obtain ⟨⟨h1, h2⟩, h3, h4⟩ := h
  refine ⟨(⟨(c.X + 1048576).toNat, by omega⟩, ⟨(c.Y + 1048576).toNat, by omega⟩), ?_⟩
  have e1 : qx (⟨(c.X + 1048576).toNat, by omega⟩, ⟨(c.Y + 1048576).toNat, by omega⟩) = c.X := by unfold qx; simp only; omega
  have e2 : qy (⟨(c.X + 1048576).toNat, by omega⟩, ⟨(c.Y + 1048576).toNat, by omega⟩) = c.Y := by unfold qy; simp only; omega
  unfold qc; rw [e1, e2]; exact hc.symm
theorem qs_of (L : List C) (h : ∀ c ∈ L, c.lim 1048576 ∧ c = C.of c.X c.Y) : ∃ l : List Q, l.map qc = L := by
  induction L with
  | nil => exact ⟨[], rfl⟩
  | cons c r ih =>
    obtain ⟨l, hl⟩ := ih fun d hd => h d (by simp [hd])
    obtain ⟨q, hq⟩ := q_of c (h c (by simp)).1 (h c (by simp)).2
    exact ⟨q :: l, by simp [hq, hl]⟩

theorem qre_small (q : Q) : (qc q).re.small := C.small_re (qc_lim q) (by decide)
theorem qim_small (q : Q) : (qc q).im.small := C.small_im (qc_lim q) (by decide)
theorem qs_lim (l : List Q) : ∀ c ∈ l.map qc, c.lim 1048576 := by
  intro c hc; obtain ⟨q, -, rfl⟩ := List.mem_map.1 hc; exact qc_lim q

/-- How compare orders numbers. -/
def cmpI (a b : Int) : Int := if a < b then -1 else if b < a then 1 else 0
def cmpQ (p q : Q) : Int := if cmpI (qx p) (qx q) = 0 then cmpI (qy p) (qy q) else cmpI (qx p) (qx q)

set_option maxHeartbeats 400000 in
theorem isNaN_any (x : Z) (h : x.small) (w : World) : Calls Try.prog 106 #[.float .f64 x.bits] w fun e w' => e = .returned (.bool false) ∧ w' = w := by
  have h5 := Z.eq_bits x x h h
  simp only [decide_true] at h5
  have h6 : (FloatKind.f64.format.order x.bits x.bits != some .eq) = false := by show (!(_ == _)) = false; rw [h5]; rfl
  clear h h5
  go_enter Try.func106, Try.ntmps106
  go_wp2
  go_ret
  exact ⟨rfl, rfl⟩

set_option maxHeartbeats 400000 in
theorem compareF_any (x y : Z) (hx : x.small) (hy : y.small) (w : World) : Calls Try.prog 87 #[.float .f64 x.bits, .float .f64 y.bits] w fun e w' => e = .returned (.int .i64 (cmpI x.val y.val)) ∧ w' = w := by
  have h1 := fun w => isNaN_any x hx w
  have h2 := fun w => isNaN_any y hy w
  have h3 := Z.lt_bits x y hx hy
  have h4 := Z.gt_bits x y hx hy
  clear hx hy
  by_cases g1 : x.val < y.val
  · have G : Hid (cmpI x.val y.val = -1) := by unfold cmpI; rw [if_pos g1]; exact rfl
    rw [decide_eq_true g1] at h3
    clear g1 h4
    go_enter Try.func87, Try.ntmps87
    go_wp2_with (first | (go_at_call_of 106 (Value.float .f64 x.bits); refine (h1 _).mono ?_; rintro e w' ⟨rfl, rfl⟩) | (go_at_call_of 106 (Value.float .f64 y.bits); refine (h2 _).mono ?_; rintro e w' ⟨rfl, rfl⟩))
    go_ret
    exact ⟨ret_int G.out.symm, rfl⟩
  · rw [decide_eq_false g1] at h3
    by_cases g2 : y.val < x.val
    · have G : Hid (cmpI x.val y.val = 1) := by unfold cmpI; rw [if_neg g1, if_pos g2]; exact rfl
      rw [decide_eq_true g2] at h4
      clear g1 g2
      go_enter Try.func87, Try.ntmps87
      go_wp2_with (first | (go_at_call_of 106 (Value.float .f64 x.bits); refine (h1 _).mono ?_; rintro e w' ⟨rfl, rfl⟩) | (go_at_call_of 106 (Value.float .f64 y.bits); refine (h2 _).mono ?_; rintro e w' ⟨rfl, rfl⟩))
      go_ret
      exact ⟨ret_int G.out.symm, rfl⟩
    · have G : Hid (cmpI x.val y.val = 0) := by unfold cmpI; rw [if_neg g1, if_neg g2]; exact rfl
      rw [decide_eq_false g2] at h4
      clear g1 g2
      go_enter Try.func87, Try.ntmps87
      go_wp2_with (first | (go_at_call_of 106 (Value.float .f64 x.bits); refine (h1 _).mono ?_; rintro e w' ⟨rfl, rfl⟩) | (go_at_call_of 106 (Value.float .f64 y.bits); refine (h2 _).mono ?_; rintro e w' ⟨rfl, rfl⟩))
      go_ret
      exact ⟨ret_int G.out.symm, rfl⟩

set_option maxHeartbeats 400000 in
theorem or_any (a b : Int) (g : Nat) (w : World) (h0 : w.cell? ⟨g, 0, none⟩ = some (.int .i64 a)) (h1 : w.cell? ⟨g, 1, none⟩ = some (.int .i64 b)) :
    Calls Try.prog 86 #[.slice (some ⟨g, 0, none⟩) 2 2] w fun e w' => e = .returned (.int .i64 (if a = 0 then b else a)) ∧ w' = w := by
  by_cases ga : a = 0
  · subst ga
    rw [if_pos rfl]
    by_cases gb : b = 0
    · subst gb
      go_enter Try.func86, Try.ntmps86
      go_wp2
      refine wp_loop_rounds 3 ?_
      rw [rounds_succ]
      go_wp2
      rw [rounds_succ]
      go_wp2
      rw [rounds_succ]
      go_wp2
      go_ret
      exact ⟨rfl, rfl⟩
    · go_enter Try.func86, Try.ntmps86
      go_wp2
      refine wp_loop_rounds 3 ?_
      rw [rounds_succ]
      go_wp2
      rw [rounds_succ]
      go_wp2
      go_ret
      exact ⟨rfl, rfl⟩
  · rw [if_neg ga]
    go_enter Try.func86, Try.ntmps86
    go_wp2
    refine wp_loop_rounds 3 ?_
    rw [rounds_succ]
    go_wp2
    go_ret
    exact ⟨rfl, rfl⟩

set_option maxHeartbeats 400000 in
theorem compare_any (p q : Q) (w : World) :
    Calls Try.prog 62 #[qe p, qe q] w fun e w' => e = .returned (.int .i64 (cmpQ p q)) ∧ ∃ o, w' = w.alloc o := by
  have h1 := fun w => compareF_any (qc p).re (qc q).re (qre_small p) (qre_small q) w
  have h2 := fun w => compareF_any (qc p).im (qc q).im (qim_small p) (qim_small q) w
  have e1 : cmpI (qc p).re.val (qc q).re.val = cmpI (qx p) (qx q) := by rw [← qX p, ← qX q]; rfl
  have e2 : cmpI (qc p).im.val (qc q).im.val = cmpI (qy p) (qy q) := by rw [← qY p, ← qY q]; rfl
  have G : Hid (cmpQ p q = if cmpI (qx p) (qx q) = 0 then cmpI (qy p) (qy q) else cmpI (qx p) (qx q)) := rfl
  rw [e1] at h1
  rw [e2] at h2
  generalize cmpI (qx p) (qx q) = a at h1 G
  generalize cmpI (qy p) (qy q) = b at h2 G
  have h3 := or_any a b
  generalize (if a = 0 then b else a) = r at h3 G
  clear e1 e2
  unfold qe
  generalize (qc p).re.bits = pr at h1 ⊢
  generalize (qc p).im.bits = pi at h2 ⊢
  generalize (qc q).re.bits = qr at h1 ⊢
  generalize (qc q).im.bits = qi at h2 ⊢
  go_enter Try.func62, Try.ntmps62
  go_wp2_with fail
  refine (h1 _).mono ?_
  rintro e w' ⟨rfl, rfl⟩
  go_wp2_with fail
  refine (h2 _).mono ?_
  rintro e w' ⟨rfl, rfl⟩
  go_wp2_with fail
  refine (h3 _ _ (by simp) (by simp)).mono ?_
  rintro e w' ⟨rfl, rfl⟩
  go_wp2_with fail
  go_ret
  exact ⟨ret_int G.out.symm, _, rfl⟩

/-- Twice the area of a triangle of points. -/
def qarea (a b c : Q) : Int := (qx b - qx a) * (qy c - qy a) - (qy b - qy a) * (qx c - qx a)

set_option maxHeartbeats 400000 in
theorem bendsLeft_any (a b c : Q) (w : World) : Calls Try.prog 88 #[qe a, qe b, qe c] w fun e w' => e = .returned (.bool (decide (0 < qarea a b c))) ∧ w' = w := by
  have s1 := C.lim_sub (qc_lim b) (qc_lim a)
  have s2 := C.lim_sub (qc_lim c) (qc_lim b)
  have o1 := fun t w => run_complex_sum (P := Try.prog) w .sub (Or.inr rfl) t .f64 _ _ _ _ _ _ (C.bits_sub (qc_lim b) (qc_lim a) (by decide) (by decide) (by decide))
  have o2 := fun t w => run_complex_sum (P := Try.prog) w .sub (Or.inr rfl) t .f64 _ _ _ _ _ _ (C.bits_sub (qc_lim c) (qc_lim b) (by decide) (by decide) (by decide))
  have h1 := fun w => cross_any ((qc b).sub (qc a)) ((qc c).sub (qc b)) _ _ s1 s2 (by decide) (by decide) (by decide) w
  have hl := C.lim_mul (C.lim_conj s1) s2
  have h2 := gt0 _ (C.small_im hl (by decide))
  have e1 : (((qc b).sub (qc a)).conj.mul ((qc c).sub (qc b))).im.val = qarea a b c := by
    have := C.Y_conj_mul ((qc b).sub (qc a)) ((qc c).sub (qc b))
    unfold C.cr at this
    rw [C.X_sub, C.X_sub, C.Y_sub, C.Y_sub, qX, qX, qX, qY, qY, qY] at this
    refine this.trans ?_
    unfold qarea; grind
  rw [e1] at h2
  clear hl e1 s1 s2
  unfold qe
  go_enter Try.func88, Try.ntmps88
  go_wp2_with (go_at_call 55; refine (h1 _).mono ?_; rintro e w' ⟨rfl, rfl⟩)
  go_ret
  exact ⟨rfl, rfl⟩

theorem qX_any (a : Q) (w : World) : Calls Try.prog 15 #[qe a] w fun e w' => e = .returned (.int .i64 (qx a)) ∧ w' = w := by
  have := X_any (qc a) (qre_small a) w; rwa [qX] at this
theorem qY_any (a : Q) (w : World) : Calls Try.prog 16 #[qe a] w fun e w' => e = .returned (.int .i64 (qy a)) ∧ w' = w := by
  have := Y_any (qc a) (qim_small a) w; rwa [qY] at this

theorem qarea_bd (a b c : Q) : (-4398046511104 ≤ (qx b - qx a) * (qy c - qy a) ∧ (qx b - qx a) * (qy c - qy a) ≤ 4398046511104) ∧ (-4398046511104 ≤ (qy b - qy a) * (qx c - qx a) ∧ (qy b - qy a) * (qx c - qx a) ≤ 4398046511104) := by
  have a1 := qx_bd a
  have a2 := qy_bd a
  have b1 := qx_bd b
  have b2 := qy_bd b
  have c1 := qx_bd c
  have c2 := qy_bd c
  exact ⟨mul_bound (m := 2097152) (n := 2097152) (by omega) (by omega), mul_bound (m := 2097152) (n := 2097152) (by omega) (by omega)⟩

set_option maxHeartbeats 800000 in
theorem left_any (a b c : Q) (w : World) : Calls Try.prog 20 #[qe a, qe b, qe c] w fun e w' => e = .returned (.int .i64 (qarea a b c)) ∧ w' = w := by
  have x1 := qX_any a
  have x2 := qX_any b
  have x3 := qX_any c
  have y1 := qY_any a
  have y2 := qY_any b
  have y3 := qY_any c
  have hb := qarea_bd a b c
  have a1 := qx_bd a
  have a2 := qy_bd a
  have b1 := qx_bd b
  have b2 := qy_bd b
  have c1 := qx_bd c
  have c2 := qy_bd c
  have G : Hid (qarea a b c = (qx b - qx a) * (qy c - qy a) - (qy b - qy a) * (qx c - qx a)) := rfl
  generalize qarea a b c = A at G ⊢
  unfold qe at *
  have w1 : IntKind.i64.wrap (qx b - qx a) = qx b - qx a := by rw [IntKind.wrap_i64]; omega
  have w2 : IntKind.i64.wrap (qy c - qy a) = qy c - qy a := by rw [IntKind.wrap_i64]; omega
  have w3 : IntKind.i64.wrap (qy b - qy a) = qy b - qy a := by rw [IntKind.wrap_i64]; omega
  have w4 : IntKind.i64.wrap (qx c - qx a) = qx c - qx a := by rw [IntKind.wrap_i64]; omega
  have w5 : IntKind.i64.wrap ((qx b - qx a) * (qy c - qy a)) = (qx b - qx a) * (qy c - qy a) := by rw [IntKind.wrap_i64]; omega
  have w6 : IntKind.i64.wrap ((qy b - qy a) * (qx c - qx a)) = (qy b - qy a) * (qx c - qx a) := by rw [IntKind.wrap_i64]; omega
  have w7 : IntKind.i64.wrap ((qx b - qx a) * (qy c - qy a) - (qy b - qy a) * (qx c - qx a)) = (qx b - qx a) * (qy c - qy a) - (qy b - qy a) * (qx c - qx a) := by rw [IntKind.wrap_i64]; omega
  clear hb a1 a2 b1 b2 c1 c2
  generalize (qc a).re.bits = ar at *
  generalize (qc a).im.bits = ai at *
  generalize (qc b).re.bits = br at *
  generalize (qc b).im.bits = bi at *
  generalize (qc c).re.bits = cr at *
  generalize (qc c).im.bits = ci at *
  go_enter Try.func20, Try.ntmps20
  go_wp2_with fail
  refine (x2 _).mono ?_
  rintro e w' ⟨rfl, rfl⟩
  go_wp2_with fail
  refine (x1 _).mono ?_
  rintro e w' ⟨rfl, rfl⟩
  go_wp2_with fail
  refine (y3 _).mono ?_
  rintro e w' ⟨rfl, rfl⟩
  go_wp2_with fail
  refine (y1 _).mono ?_
  rintro e w' ⟨rfl, rfl⟩
  go_wp2_with fail
  refine (y2 _).mono ?_
  rintro e w' ⟨rfl, rfl⟩
  go_wp2_with fail
  refine (y1 _).mono ?_
  rintro e w' ⟨rfl, rfl⟩
  go_wp2_with fail
  refine (x3 _).mono ?_
  rintro e w' ⟨rfl, rfl⟩
  go_wp2_with fail
  refine (x1 _).mono ?_
  rintro e w' ⟨rfl, rfl⟩
  go_wp2_with fail
  go_ret
  exact ⟨ret_int G.out.symm, rfl⟩
theorem eq_q (x y : Q) : (FloatKind.f64.format.order (qc x).re.bits (qc y).re.bits == some .eq && FloatKind.f64.format.order (qc x).im.bits (qc y).im.bits == some .eq) = decide (x = y) := by
  have h1 := Z.eq_bits (qc x).re (qc y).re (qre_small x) (qre_small y)
  have h2 := Z.eq_bits (qc x).im (qc y).im (qim_small x) (qim_small y)
  have e1 : (qc x).re.val = qx x := qX x
  have e2 : (qc x).im.val = qy x := qY x
  have e3 : (qc y).re.val = qx y := qX y
  have e4 : (qc y).im.val = qy y := qY y
  rw [e1, e3] at h1
  rw [e2, e4] at h2
  rw [h1, h2]
  by_cases h : x = y
  · subst h; simp
  · by_cases h' : qx x = qx y
    · have : qy x ≠ qy y := fun h'' => h (q_ext h' h'')
      simp [h, h', this]
    · simp [h, h']

/-- The point 0. -/
def q0 : Q := (⟨1048576, by omega⟩, ⟨1048576, by omega⟩)
theorem q0_bits : (Value.complex .f64 0 0) = qe q0 := by
  have e : qc q0 = C.of 0 0 := by unfold qc qx qy q0; rfl
  unfold qe; rw [e]
  have : (Z.of 0).bits = 0 := zero_bits.symm
  show _ = Value.complex .f64 (Z.of 0).bits (Z.of 0).bits
  rw [this]
end Go.Proofs.Ytnlkalbkjocoaaa
