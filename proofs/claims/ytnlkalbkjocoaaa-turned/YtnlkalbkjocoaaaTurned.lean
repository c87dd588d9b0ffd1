/-
  The walk of 'Turned': it answers true.
-/
import Derived.Test.YtnlkalbkjocoaaaShape
import Derived.Test.YtnlkalbkjocoaaaComp
import Derived.Test.YtnlkalbkjocoaaaMath2
import Derived.Deep.QuietTactic
import Derived.BigQuiet
import Derived.WalkSmall
namespace Go.Proofs.Ytnlkalbkjocoaaa
open Go.RowKit

/-- Apply, its answer somewhere. -/
theorem apply_some (s t : C) (hs : s.lim 64) (ht : t.lim 1048576) (l : List C) (b cap : Nat) (w : World) (hl : Lies w b 0 l) (hb : b < w.heap.size) (hls : ∀ c ∈ l, c.lim 1048576) (h3 : 3 ≤ l.length) (hn : l.length ≤ 32)
    (hA : areB (l.map (C.move s t)) = true) :
    Calls Try.prog 14 #[.agg #[.complex .f64 s.re.bits s.im.bits, .complex .f64 t.re.bits t.im.bits], .slice (some ⟨b, 0, none⟩) l.length cap] w fun e w' =>
      ∃ g, e = .returned (.tuple #[.slice (some ⟨g, 0, none⟩) l.length l.length, .int .i64 0]) ∧ Below w.heap.size w w' ∧ Lies w' g 0 (l.map (C.move s t)) ∧ g < w'.heap.size :=
  (apply_ok s t l b 0 cap w hs ht hl hb hls h3 hn hA).mono fun _ _ h => ⟨_, h.1, h.2.1, h.2.2.1, h.2.2.2⟩

theorem move_all_lim {s t : C} {l : List C} {m n k K : Int} (hs : s.lim m) (ht : t.lim n) (hl : ∀ c ∈ l, c.lim k) (hK : 2 * (m * k) + n ≤ K) : ∀ c ∈ l.map (C.move s t), c.lim K := by
  intro c hc
  obtain ⟨d, hd, rfl⟩ := List.mem_map.1 hc
  exact C.lim_mono (C.lim_add (C.lim_mul hs (hl d hd)) ht) hK

theorem turnB_lim {s t u v : C} (h : turnB s t u v = true) : (s.mul u).lim 64 ∧ (C.move s t v).lim 1048576 := by
  unfold turnB at h
  rw [Bool.and_eq_true] at h
  exact ⟨(C.within_iff _ _).1 h.1, (C.within_iff _ _).1 h.2⟩
/-- Two turns one after the other are the turn of both. -/
theorem both_turns (U V S T v : C) : (C.move U V (C.move S T v)).X = (C.move (U.mul S) (C.move U V T) v).X ∧ (C.move U V (C.move S T v)).Y = (C.move (U.mul S) (C.move U V T) v).Y := by
  simp only [X_move, Y_move, C.X_mul, C.Y_mul]
  simp only [Int.mul_add, Int.add_mul, Int.mul_sub, Int.sub_mul, Int.mul_assoc, Int.mul_left_comm, Int.mul_comm]
  omega
theorem areB_congr (U V S T : C) (L : List C) : areB (L.map (C.move (U.mul S) (C.move U V T))) = areB ((L.map (C.move S T)).map (C.move U V)) := by
  rw [List.map_map]
  unfold areB
  rw [List.all_map, List.all_map]
  congr 1
  funext v
  obtain ⟨e1, e2⟩ := both_turns U V S T v
  show C.within 1048576 _ = C.within 1048576 (C.move U V (C.move S T v))
  unfold C.within
  rw [e1, e2]
theorem same_bits {a b : C} (ha : a.re.small ∧ a.im.small) (hX : a.X = b.X) (hY : a.Y = b.Y) :
    (FloatKind.f64.format.order a.re.bits b.re.bits == some .eq) = true ∧ (FloatKind.f64.format.order a.im.bits b.im.bits == some .eq) = true := by
  have e1 : a.re.val = b.re.val := hX
  have e2 : a.im.val = b.im.val := hY
  have s1 : b.re.small := by have := ha.1; unfold Z.small at *; rw [Z.mag_eq] at *; omega
  have s2 : b.im.small := by have := ha.2; unfold Z.small at *; rw [Z.mag_eq] at *; omega
  rw [Z.eq_bits _ _ ha.1 s1, Z.eq_bits _ _ ha.2 s2]
  exact ⟨decide_eq_true e1, decide_eq_true e2⟩
theorem zero_lim0 : (C.of 0 0).lim 0 := by unfold C.lim; rw [C.X_of, C.Y_of]; omega
theorem zero_lim : (C.of 0 0).lim 64 := by unfold C.lim; rw [C.X_of, C.Y_of]; omega

set_option maxRecDepth 100000 in
set_option maxHeartbeats 3200000 in
theorem turned_any (zs : List Int) (A : Option Addr) (bb off cp : Nat) (p q a b c d : Int) (w : World) (hb : bb < w.heap.size ∨ zs.length = 0)
    (hcell : ∀ k (h : k < zs.length), A = some ⟨bb, off, none⟩ ∧ w.cell? ⟨bb, off + k, none⟩ = some (.int .i64 zs[k])) (hz : ∀ z ∈ zs, -9223372036854775808 ≤ z ∧ z ≤ 9223372036854775807)
    (hn : zs.length ≤ 9223372036854775807) (rp : -9223372036854775808 ≤ p ∧ p ≤ 9223372036854775807) (rq : -9223372036854775808 ≤ q ∧ q ≤ 9223372036854775807) (ra : -9223372036854775808 ≤ a ∧ a ≤ 9223372036854775807)
    (rb : -9223372036854775808 ≤ b ∧ b ≤ 9223372036854775807) (rc : -9223372036854775808 ≤ c ∧ c ≤ 9223372036854775807) (rd : -9223372036854775808 ≤ d ∧ d ≤ 9223372036854775807) :
    Calls Try.prog 4 #[.slice A zs.length cp, .int .i64 p, .int .i64 q, .int .i64 a, .int .i64 b, .int .i64 c, .int .i64 d] w fun e w' => e = .returned (.bool true) ∧ Below w.heap.size w w' := by
  have c1 := begin_any w
  have c2 : ∀ w1, Below w.heap.size w w1 → _ := fun w1 (hB : Below w.heap.size w w1) => shape_any zs 5000 A bb off cp w1 (by decide) (by decide) (by have := hB.size; omega)
    (fun k h => ⟨(hcell k h).1, by rw [hB.cell (p := ⟨bb, off + k, none⟩) (by rcases hb with hb | hb; exact hb; omega)]; exact (hcell k h).2⟩) hz hn
  have a1 := fun w => at_any p q 5000 (by decide) (by decide) rp.1 rp.2 rq.1 rq.2 w
  have a2 := fun w => at_any a b 8 (by decide) (by decide) ra.1 ra.2 rb.1 rb.2 w
  have a3 := fun w => at_any c d 100000 (by decide) (by decide) rc.1 rc.2 rd.1 rd.2 w
  have a4 := fun w => at_any b c 8 (by decide) (by decide) rb.1 rb.2 rc.1 rc.2 w
  have a5 := fun w => at_any d a 50000 (by decide) (by decide) rd.1 rd.2 ra.1 ra.2 w
  have lQ := atC_lim p q 5000 (by decide)
  have lS := atC_lim a b 8 (by decide)
  have lT := atC_lim c d 100000 (by decide)
  have lU := atC_lim b c 8 (by decide)
  have lV := atC_lim d a 50000 (by decide)
  generalize atC p q 5000 = Q at a1 lQ
  generalize atC a b 8 = S at a2 lS
  generalize atC c d 100000 = T at a3 lT
  generalize atC b c 8 = U at a4 lU
  generalize atC d a 50000 = V at a5 lV
  clear hcell hz hb rp rq ra rb rc rd
  have lS' : S.lim 64 := C.lim_mono lS (by decide)
  have lT' : T.lim 1048576 := C.lim_mono lT (by decide)
  have lU' : U.lim 64 := C.lim_mono lU (by decide)
  have lV' : V.lim 1048576 := C.lim_mono lV (by decide)
  have lQ' : Q.lim 1048576 := C.lim_mono lQ (by decide)
  have lO : (C.move S T Q).lim 1048576 := C.lim_mono (C.lim_add (C.lim_mul lS lQ) lT) (by decide)
  have m1 := fun ty w => run_complex_mul (P := Try.prog) w ty _ _ _ _ _ _ (C.bits_mul lS' lQ' (by decide) (by decide) (by decide))
  have m2 : ∀ (ty : TypeId) (w : World), (binOp .add ty (.complex .f64 (S.mul Q).re.bits (S.mul Q).im.bits) (.complex .f64 T.re.bits T.im.bits)).run Try.prog w = .ok (.complex .f64 (C.move S T Q).re.bits (C.move S T Q).im.bits) w :=
    fun ty w => run_complex_sum (P := Try.prog) w .add (Or.inl rfl) ty .f64 _ _ _ _ _ _ (C.bits_add (C.lim_mul lS' lQ') lT' (by decide) (by decide) (by decide))
  have x1 := fun w => X_any S (C.small_re lS (by decide)) w
  have x2 := fun w => Y_any S (C.small_im lS (by decide)) w
  have ap1 := fun l b cap w hl hb hls h3 hn hA => apply_some S T lS' lT' l b cap w hl hb hls h3 hn hA
  have ap2 := fun l b cap w hl hb hls h3 hn hA => apply_some U V lU' lV' l b cap w hl hb hls h3 hn hA
  have ap3 := fun l b cap w hl hb hls h3 hn hA => apply_far U V l b 0 cap w lU' lV' hl hb hls h3 hn hA
  have wq := fun l b cap w hl hls h3 hn h0 => winds_ok l Q b 0 cap w hl hls lQ' h3 hn h0
  have wo := fun l b cap w hl hls h3 hn h0 => winds_ok l (C.move S T Q) b 0 cap w hl hls lO h3 hn h0
  have co := fun w => compose_any U V S T lU' lV' lS' lT' w
  have ap4 := fun (h : turnB U V S T = true) l b cap w hl hb hls h3 hn hA => apply_some (U.mul S) (C.move U V T) (turnB_lim h).1 (turnB_lim h).2 l b cap w hl hb hls h3 hn hA
  have ap6 := fun (h : turnB U V S T = true) l b cap w hl hb hls h3 hn hA => apply_far (U.mul S) (C.move U V T) l b 0 cap w (turnB_lim h).1 (turnB_lim h).2 hl hb hls h3 hn hA
  have ap5 := fun l b cap w hl hb hls h3 hn hA => apply_some (C.of 0 0) (C.of 0 0) zero_lim (C.lim_mono zero_lim (by decide)) l b cap w hl hb hls h3 hn hA
  have e00 : (C.of 0 0).re.bits = 0 := b0
  have e00' : (C.of 0 0).im.bits = 0 := b0
  simp only [e00, e00'] at ap5
  clear e00 e00'
  generalize S.re.bits = s1 at a2 m1 x1 x2 ap1 co
  generalize S.im.bits = s2 at a2 m1 x1 x2 ap1 co
  generalize T.re.bits = t1 at a3 m2 ap1 co
  generalize T.im.bits = t2 at a3 m2 ap1 co
  generalize U.re.bits = u1 at a4 ap2 ap3 co
  generalize U.im.bits = u2 at a4 ap2 ap3 co
  generalize V.re.bits = v1 at a5 ap2 ap3 co
  generalize V.im.bits = v2 at a5 ap2 ap3 co
  generalize Q.re.bits = z1 at a1 m1 wq
  generalize Q.im.bits = z2 at a1 m1 wq
  generalize (S.mul Q).re.bits = n1 at m1 m2
  generalize (S.mul Q).im.bits = n2 at m1 m2
  generalize (C.move S T Q).re.bits = o1 at m2 wo
  generalize (C.move S T Q).im.bits = o2 at m2 wo
  generalize (U.mul S).re.bits = p1 at co ap4 ap6
  generalize (U.mul S).im.bits = p2 at co ap4 ap6
  generalize (C.move U V T).re.bits = q1 at co ap4 ap6
  generalize (C.move U V T).im.bits = q2 at co ap4 ap6
  -- the scale's parts
  have bx : -8 ≤ S.X ∧ S.X ≤ 8 := lS.1
  have by' : -8 ≤ S.Y ∧ S.Y ≤ 8 := lS.2
  have bxx := mul_bound bx bx
  have byy := mul_bound by' by'
  have nxx : 0 ≤ S.X * S.X := by rcases Int.le_total 0 S.X with h | h; exact Int.mul_nonneg h h; exact nn h h
  have nyy : 0 ≤ S.Y * S.Y := by rcases Int.le_total 0 S.Y with h | h; exact Int.mul_nonneg h h; exact nn h h
  have wxx : IntKind.i64.wrap (S.X * S.X) = S.X * S.X := by rw [IntKind.wrap_i64]; omega
  have wyy : IntKind.i64.wrap (S.Y * S.Y) = S.Y * S.Y := by rw [IntKind.wrap_i64]; omega
  have hst := store_complex
  go_enter Try.func4, Try.ntmps4
  go_wp2_with fail
  refine c1.mono ?_
  rintro e w1 ⟨rfl, hB1⟩
  clear c1
  go_wp2_with fail
  refine (c2 _ hB1).mono ?_
  rintro e w2 ⟨L, g, cap, rfl, hL3, hL32, hlim, hlies, hg, hcap, hB2⟩
  clear c2
  go_wp2_with fail
  refine (a1 _).mono ?_
  rintro e w2 ⟨rfl, rfl⟩
  go_wp2_with fail
  refine (a2 _).mono ?_
  rintro e w2 ⟨rfl, rfl⟩
  go_wp2_with fail
  refine (a3 _).mono ?_
  rintro e w2 ⟨rfl, rfl⟩
  go_wp2_with fail
  refine (a4 _).mono ?_
  rintro e w2 ⟨rfl, rfl⟩
  go_wp2_with fail
  refine (a5 _).mono ?_
  rintro e w2 ⟨rfl, rfl⟩
  clear a1 a2 a3 a4 a5
  have hlim' : ∀ c ∈ L, c.lim 1048576 := fun c hc => C.lim_mono (hlim c hc) (by decide)
  have hMl0 : ∀ c ∈ L.map (C.move S T), c.lim 180000 := move_all_lim lS lT hlim (by decide)
  have hMl : ∀ c ∈ L.map (C.move S T), c.lim 1048576 := fun c hc => C.lim_mono (hMl0 c hc) (by decide)
  have hL0 : 0 < L.length := Nat.lt_of_lt_of_le (by decide) hL3
  have hM0 : 0 < (L.map (C.move S T)).length := by simpa using hL0
  go_wp2_with fail
  refine (ap1 L g cap _ (lies_below hlies (((Below.refl _ _).alloc (Nat.le_refl _) _).alloc (by simp) _) hg) (by simp; omega) hlim' hL3 hL32 (areB_true hMl)).mono ?_
  rintro e w3 ⟨gm, rfl, hB3, hliesM, hgm⟩
  have hz3 : w2.heap.size + 1 < w3.heap.size := by have := hB3.size; simp at this; omega
  have d1 : w3.cell? ⟨w2.heap.size, 0, none⟩ = some (.complex .f64 s1 s2) := by rw [hB3.cell (p := ⟨w2.heap.size, 0, none⟩) (by simp; omega)]; simp [go_sem]
  have d2 : w3.cell? ⟨w2.heap.size, 1, none⟩ = some (.complex .f64 t1 t2) := by rw [hB3.cell (p := ⟨w2.heap.size, 1, none⟩) (by simp; omega)]; simp [go_sem]
  have d3 : w3.cell? ⟨w2.heap.size + 1, 0, none⟩ = some (.complex .f64 u1 u2) := by rw [hB3.cell (p := ⟨w2.heap.size + 1, 0, none⟩) (by simp)]; simp [go_sem]
  have d4 : w3.cell? ⟨w2.heap.size + 1, 1, none⟩ = some (.complex .f64 v1 v2) := by rw [hB3.cell (p := ⟨w2.heap.size + 1, 1, none⟩) (by simp)]; simp [go_sem]
  have hB23 : Below w2.heap.size w2 w3 := (((Below.refl _ _).alloc (Nat.le_refl _) _).alloc (by simp) _).trans (hB3.mono (by simp; omega))
  have hli3 := lies_below hlies hB23 hg
  have hg3 : g < w3.heap.size := by omega
  have hB13 : Below w.heap.size w w3 := (hB1.trans (hB2.mono hB1.size)).trans (hB23.mono (Nat.le_trans hB1.size hB2.size))
  clear hB3 hB23 hlies ap1 hB1 hB2
  have k1 := twice_ok L g 0 cap w3 hli3 hlim' hL3 hL32 hL0
  have k2 := twice_ok (L.map (C.move S T)) gm 0 L.length w3 hliesM hMl (by simpa using hL3) (by simpa using hL32) hM0
  rw [turned_twice S T L hL0 hM0, show sizeI S = S.X * S.X + S.Y * S.Y from rfl] at k2
  rw [List.length_map] at k2
  have bT := twiceL_bd L hL0 hL32 hlim'
  generalize twiceL L hL0 = TT at k1 k2 bT
  go_wp2_with fail
  refine k1.mono ?_
  rintro e w3 ⟨rfl, rfl⟩
  go_wp2_with fail
  refine k2.mono ?_
  rintro e w3 ⟨rfl, rfl⟩
  clear k1 k2
  have bsz := mul_bound (show -128 ≤ S.X * S.X + S.Y * S.Y ∧ S.X * S.X + S.Y * S.Y ≤ 128 by omega) bT
  have wsz : IntKind.i64.wrap ((S.X * S.X + S.Y * S.Y) * TT) = (S.X * S.X + S.Y * S.Y) * TT := by rw [IntKind.wrap_i64]; omega
  go_wp2_with fail
  go_quiet ((first | (go_at_call 15; exact Calls.quiet_of_same (x1 _)) | (go_at_call 16; exact Calls.quiet_of_same (x2 _))))
  obtain ⟨w4, e4, d1', d2', d3', d4', hB4, hli4, hliM4, hz4, hg4, hgm4⟩ : ∃ w4, w4 = w3.drewN nq ∧ w4.cell? ⟨w2.heap.size, 0, none⟩ = some (.complex .f64 s1 s2) ∧ w4.cell? ⟨w2.heap.size, 1, none⟩ = some (.complex .f64 t1 t2) ∧
      w4.cell? ⟨w2.heap.size + 1, 0, none⟩ = some (.complex .f64 u1 u2) ∧ w4.cell? ⟨w2.heap.size + 1, 1, none⟩ = some (.complex .f64 v1 v2) ∧ Below w.heap.size w w4 ∧ Lies w4 g 0 L ∧ Lies w4 gm 0 (L.map (C.move S T)) ∧ w2.heap.size + 1 < w4.heap.size ∧ g < w4.heap.size ∧ gm < w4.heap.size :=
    ⟨_, rfl, d1, d2, d3, d4, below_drewN hB13 nq, hli3, hliesM, hz3, hg3, hgm⟩
  rw [← e4]
  clear e4 d1 d2 d3 d4 hB13 hli3 hliesM hz3 hg3 hgm x1 x2
  have y1 := wq L g cap w4 hli4 hlim' hL3 hL32 hL0
  have y2 := wo (L.map (C.move S T)) gm L.length w4 hliM4 hMl (by simpa using hL3) (by simpa using hL32) hM0
  have hwin : (S.X * S.X + S.Y * S.Y = 0 ∧ windsL (C.move S T Q) (L.map (C.move S T)) hM0 = (0, true)) ∨ (0 < S.X * S.X + S.Y * S.Y ∧ windsL (C.move S T Q) (L.map (C.move S T)) hM0 = windsL Q L hL0) := by
    rcases (by omega : S.X * S.X + S.Y * S.Y = 0 ∨ 0 < S.X * S.X + S.Y * S.Y) with h | h
    · exact Or.inl ⟨h, turned_zero S T Q h L hM0⟩
    · exact Or.inr ⟨h, turned_winds S T Q h L hL0 hM0⟩
  generalize windsL (C.move S T Q) (L.map (C.move S T)) hM0 = W2 at y2 hwin
  generalize windsL Q L hL0 = W1 at y1 hwin
  rw [List.length_map] at y2
  obtain ⟨W1, on1⟩ := W1
  obtain ⟨W2, on2⟩ := W2
  simp only at y1 y2
  simp only [Prod.mk.injEq] at hwin
  clear wq wo
  go_wp2_with fail
  refine y1.mono ?_
  rintro e w4 ⟨rfl, rfl⟩
  go_wp2_with fail
  refine y2.mono ?_
  rintro e w4 ⟨rfl, rfl⟩
  clear y1 y2 m1 m2
  have HO : Hid (∀ v : C, (C.move U V (C.move S T v)).X = (C.move (U.mul S) (C.move U V T) v).X ∧ (C.move U V (C.move S T v)).Y = (C.move (U.mul S) (C.move U V T) v).Y) := fun v => both_turns U V S T v
  have hxl : ∀ c ∈ (L.map (C.move S T)).map (C.move U V), c.re.small ∧ c.im.small := move_smalls lU' lV' hMl
  rcases hwin with ⟨h0, rfl, rfl⟩ | ⟨h0, rfl, rfl⟩
  all_goals
    first
      | (have g0 : (S.X * S.X + S.Y * S.Y == 0) = true := by simpa using h0
         have g1 : ¬ 0 < S.X * S.X + S.Y * S.Y := by omega)
      | (have g0 : (S.X * S.X + S.Y * S.Y == 0) = false := by simp; omega)
    go_wp2_with fail
    clear g0
    cases hok : turnB U V S T with
    | false =>
      simp only [hok, Bool.false_eq_true, if_false] at co
      refine (co _).mono ?_
      rintro e w5 ⟨rfl, hB5⟩
      have d3 : w5.cell? ⟨w2.heap.size + 1, 0, none⟩ = some (.complex .f64 u1 u2) := by rw [hB5.cell (p := ⟨w2.heap.size + 1, 0, none⟩) hz4]; exact d3'
      have d4 : w5.cell? ⟨w2.heap.size + 1, 1, none⟩ = some (.complex .f64 v1 v2) := by rw [hB5.cell (p := ⟨w2.heap.size + 1, 1, none⟩) hz4]; exact d4'
      have hz5 : w2.heap.size + 1 < w5.heap.size := Nat.lt_of_lt_of_le hz4 hB5.size
      have hli5 := lies_below hli4 hB5 hg4
      have hliM5 := lies_below hliM4 hB5 hgm4
      have hg5 : g < w5.heap.size := Nat.lt_of_lt_of_le hg4 hB5.size
      have hgm5 : gm < w5.heap.size := Nat.lt_of_lt_of_le hgm4 hB5.size
      have hB05 : Below w.heap.size w w5 := hB4.trans (hB5.mono hB4.size)
      clear d1' d2' d3' d4' hz4 hli4 hliM4 hg4 hgm4 hB4 hB5 co hok ap4 ap6
      have hal : ∀ o, Below w5.heap.size w5 (w5.alloc o) := fun o => (Below.refl _ _).alloc (Nat.le_refl _) _
      have ax := fun o hA => ap2 (L.map (C.move S T)) gm L.length (w5.alloc o) (lies_below hliM5 (hal o) hgm5) (by simp; omega) hMl (by simpa using hL3) (by simpa using hL32) hA
      have ay := fun o hA => ap3 (L.map (C.move S T)) gm L.length (w5.alloc o) (lies_below hliM5 (hal o) hgm5) (by simp; omega) hMl (by simpa using hL3) (by simpa using hL32) hA
      simp only [List.length_map] at ax ay
      have hzero : areB (L.map (C.move (C.of 0 0) (C.of 0 0))) = true := areB_true (move_all_lim (k := 5000) zero_lim0 zero_lim0 hlim (by decide))
      clear ap2 ap3 HO
      cases hfar : areB ((L.map (C.move S T)).map (C.move U V)) with
      | true =>
        go_wp2_with fail
        refine (ax _ hfar).mono ?_
        rintro e w6 ⟨gx, rfl, hB6, hlix, hgx⟩
        have i1 : w6.cell? ⟨w5.heap.size, 0, none⟩ = some (.complex .f64 0 0) := by rw [hB6.cell (p := ⟨w5.heap.size, 0, none⟩) (by simp)]; simp [go_sem]
        have i2 : w6.cell? ⟨w5.heap.size, 1, none⟩ = some (.complex .f64 0 0) := by rw [hB6.cell (p := ⟨w5.heap.size, 1, none⟩) (by simp)]; simp [go_sem]
        have hB56 : Below w5.heap.size w5 w6 := (hal _).trans (hB6.mono (by simp))
        have az := ap5 L g cap w6 (lies_below hli5 hB56 hg5) (Nat.lt_of_lt_of_le hg5 hB56.size) hlim' hL3 hL32 hzero
        have hB06 : Below w.heap.size w w6 := hB05.trans (hB56.mono hB05.size)
        clear ax ay ap5 hlix hB6 hfar hzero
        go_wp2_with fail
        refine az.mono ?_
        rintro e w7 ⟨gy, rfl, hB7, hliy, hgy⟩
        have hB07 : Below w.heap.size w w7 := hB06.trans (hB7.mono hB06.size)
        clear az hliy hB7
        go_wp2
        go_ret
        exact ⟨rfl, hB07⟩
      | false =>
        go_wp2_with fail
        refine (ay _ hfar).mono ?_
        rintro e w6 ⟨rfl, hB6⟩
        have i1 : w6.cell? ⟨w5.heap.size, 0, none⟩ = some (.complex .f64 0 0) := by rw [hB6.cell (p := ⟨w5.heap.size, 0, none⟩) (by simp)]; simp [go_sem]
        have i2 : w6.cell? ⟨w5.heap.size, 1, none⟩ = some (.complex .f64 0 0) := by rw [hB6.cell (p := ⟨w5.heap.size, 1, none⟩) (by simp)]; simp [go_sem]
        have hB56 : Below w5.heap.size w5 w6 := (hal _).trans (hB6.mono (by simp))
        have az := ap5 L g cap w6 (lies_below hli5 hB56 hg5) (Nat.lt_of_lt_of_le hg5 hB56.size) hlim' hL3 hL32 hzero
        have hB06 : Below w.heap.size w w6 := hB05.trans (hB56.mono hB05.size)
        clear ax ay ap5 hB6 hfar hzero
        go_wp2_with fail
        refine az.mono ?_
        rintro e w7 ⟨gy, rfl, hB7, hliy, hgy⟩
        have hB07 : Below w.heap.size w w7 := hB06.trans (hB7.mono hB06.size)
        clear az hliy hB7
        go_wp2
        go_ret
        exact ⟨rfl, hB07⟩
    | true =>
      simp only [hok, if_true] at co
      refine (co _).mono ?_
      rintro e w5 ⟨rfl, hB5⟩
      have d3 : w5.cell? ⟨w2.heap.size + 1, 0, none⟩ = some (.complex .f64 u1 u2) := by rw [hB5.cell (p := ⟨w2.heap.size + 1, 0, none⟩) hz4]; exact d3'
      have d4 : w5.cell? ⟨w2.heap.size + 1, 1, none⟩ = some (.complex .f64 v1 v2) := by rw [hB5.cell (p := ⟨w2.heap.size + 1, 1, none⟩) hz4]; exact d4'
      have hz5 : w2.heap.size + 1 < w5.heap.size := Nat.lt_of_lt_of_le hz4 hB5.size
      have hli5 := lies_below hli4 hB5 hg4
      have hliM5 := lies_below hliM4 hB5 hgm4
      have hg5 : g < w5.heap.size := Nat.lt_of_lt_of_le hg4 hB5.size
      have hgm5 : gm < w5.heap.size := Nat.lt_of_lt_of_le hgm4 hB5.size
      have hB05 : Below w.heap.size w w5 := hB4.trans (hB5.mono hB4.size)
      clear d1' d2' d3' d4' hz4 hli4 hliM4 hg4 hgm4 hB4 hB5 co ap5
      have hal : ∀ o, Below w5.heap.size w5 (w5.alloc o) := fun o => (Below.refl _ _).alloc (Nat.le_refl _) _
      have ax := fun o hA => ap2 (L.map (C.move S T)) gm L.length (w5.alloc o) (lies_below hliM5 (hal o) hgm5) (by simp; omega) hMl (by simpa using hL3) (by simpa using hL32) hA
      have ay := fun o hA => ap3 (L.map (C.move S T)) gm L.length (w5.alloc o) (lies_below hliM5 (hal o) hgm5) (by simp; omega) hMl (by simpa using hL3) (by simpa using hL32) hA
      simp only [List.length_map] at ax ay
      have ap4' := ap4 hok
      have ap6' := ap6 hok
      have hcong := areB_congr U V S T L
      clear ap2 ap3 ap4 ap6 hok
      cases hfar : areB ((L.map (C.move S T)).map (C.move U V)) with
      | true =>
        rw [hfar] at hcong
        go_wp2_with fail
        refine (ax _ hfar).mono ?_
        rintro e w6 ⟨gx, rfl, hB6, hlix, hgx⟩
        have i1 : w6.cell? ⟨w5.heap.size, 0, none⟩ = some (.complex .f64 p1 p2) := by rw [hB6.cell (p := ⟨w5.heap.size, 0, none⟩) (by simp)]; simp [go_sem]
        have i2 : w6.cell? ⟨w5.heap.size, 1, none⟩ = some (.complex .f64 q1 q2) := by rw [hB6.cell (p := ⟨w5.heap.size, 1, none⟩) (by simp)]; simp [go_sem]
        have hB56 : Below w5.heap.size w5 w6 := (hal _).trans (hB6.mono (by simp))
        have az := ap4' L g cap w6 (lies_below hli5 hB56 hg5) (Nat.lt_of_lt_of_le hg5 hB56.size) hlim' hL3 hL32 hcong
        have hB06 : Below w.heap.size w w6 := hB05.trans (hB56.mono hB05.size)
        clear ax ay ap4' ap6' hB6 hfar hcong
        go_wp2_with fail
        refine az.mono ?_
        rintro e w7 ⟨gy, rfl, hB7, hliy, hgy⟩
        have hB07 : Below w.heap.size w w7 := hB06.trans (hB7.mono hB06.size)
        have hlix7 := lies_below hlix hB7 hgx
        clear az hB7 hlix
        go_wp2
        go_loopw [38] (fun i wr => ∃ k : Nat, k ≤ L.length ∧ i = .int .i64 k ∧ Lies wr gx 0 ((L.map (C.move S T)).map (C.move U V)) ∧ Lies wr gy 0 (L.map (C.move (U.mul S) (C.move U V T))) ∧ Below w.heap.size w wr) (fun i _ => L.length - (intOf i).toNat)
        case atStart => exact ⟨0, Nat.zero_le _, rfl, hlix7, hliy, hB07⟩
        case round =>
          obtain ⟨k, hk, rfl, lx, ly, bw⟩ := hrel
          clear hlix7 hliy hB07
          by_cases hlt : k < L.length
          · have j1 := lx k (by simpa using hlt)
            have j2 := ly k (by simpa using hlt)
            have j3 := hxl _ (List.getElem_mem (show k < ((L.map (C.move S T)).map (C.move U V)).length by simpa using hlt))
            simp only [List.getElem_map, Nat.zero_add] at j1 j2 j3
            obtain ⟨j4, j5⟩ := same_bits j3 (HO.out L[k]).1 (HO.out L[k]).2
            generalize (C.move U V (C.move S T L[k])).re.bits = x1 at j1 j4
            generalize (C.move U V (C.move S T L[k])).im.bits = x2 at j1 j5
            generalize (C.move (U.mul S) (C.move U V T) L[k]).re.bits = y1 at j2 j4
            generalize (C.move (U.mul S) (C.move U V T) L[k]).im.bits = y2 at j2 j5
            have hk0 : (0 : Int) ≤ (k : Int) := by omega
            have hk1 : (k : Int) < (L.length : Int) := by omega
            have LX : Hid (Lies wr gx 0 ((L.map (C.move S T)).map (C.move U V))) := lx
            have LY : Hid (Lies wr gy 0 (L.map (C.move (U.mul S) (C.move U V T)))) := ly
            clear j3 lx ly HO
            go_wp2_with fail
            go_quiet (fail)
            go_wp2
            go_roundw
            case rel => exact ⟨k + 1, by omega, by go_num, LX, LY, below_drewN bw nq⟩
            case measure => simp [intOf]; omega
          · go_wp2
            go_ret
            exact ⟨rfl, bw⟩
      | false =>
        rw [hfar] at hcong
        go_wp2_with fail
        refine (ay _ hfar).mono ?_
        rintro e w6 ⟨rfl, hB6⟩
        have i1 : w6.cell? ⟨w5.heap.size, 0, none⟩ = some (.complex .f64 p1 p2) := by rw [hB6.cell (p := ⟨w5.heap.size, 0, none⟩) (by simp)]; simp [go_sem]
        have i2 : w6.cell? ⟨w5.heap.size, 1, none⟩ = some (.complex .f64 q1 q2) := by rw [hB6.cell (p := ⟨w5.heap.size, 1, none⟩) (by simp)]; simp [go_sem]
        have hB56 : Below w5.heap.size w5 w6 := (hal _).trans (hB6.mono (by simp))
        have az := ap6' L g cap w6 (lies_below hli5 hB56 hg5) (Nat.lt_of_lt_of_le hg5 hB56.size) hlim' hL3 hL32 hcong
        have hB06 : Below w.heap.size w w6 := hB05.trans (hB56.mono hB05.size)
        clear ax ay ap4' ap6' hB6 hfar hcong
        go_wp2_with fail
        refine az.mono ?_
        rintro e w7 ⟨rfl, hB7⟩
        have hB07 : Below w.heap.size w w7 := hB06.trans (hB7.mono hB06.size)
        clear az hB7
        go_wp2
        go_loop [38] (fun i => i = .int .i64 0) (fun _ => 0)
        case atStart => rfl
        case round =>
          subst hrel
          go_wp2
          go_ret
          exact ⟨rfl, hB07⟩
end Go.Proofs.Ytnlkalbkjocoaaa
