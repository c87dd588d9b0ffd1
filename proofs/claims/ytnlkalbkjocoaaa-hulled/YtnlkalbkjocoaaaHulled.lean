/-
  The walk of 'Hulled': it answers true.
-/
import Derived.Test.YtnlkalbkjocoaaaBox
import Derived.Test.YtnlkalbkjocoaaaHull
import Derived.Deep.DeepCutAuto
namespace Go.Proofs.Ytnlkalbkjocoaaa
open Go.Shelf Go.RowKit

theorem HullOf.mem {α : Type} {X Y : α → Int} {T U h : List α} (H : HullOf X Y T h) (hm : ∀ x, x ∈ T ↔ x ∈ U) : HullOf X Y U h :=
  ⟨H.some, fun e t ht => H.one e t ((hm t).2 ht), fun e t ht => H.two e t ((hm t).2 ht), fun e k hk h2 t ht => H.edge e k hk h2 t ((hm t).2 ht), H.turn, fun k hk => (hm _).1 (H.sub k hk), H.least⟩

theorem hullL_len (s : List Q) (h : s.length ≤ 32) : (hullL qx qy s).length ≤ 62 := by
  unfold hullL
  by_cases h1 : s.length = 1
  · rw [if_pos h1]; omega
  · rw [if_neg h1, ring_len, List.length_reverse, List.length_reverse]
    have a := wayW_len s []
    have b := wayW_len s.reverse []
    simp at a b
    omega

theorem at_drewN {w : World} {b off : Nat} {l : List Q} (h : At w b off l) (n : Nat) : At (w.drewN n) b off l := h

/-- What the law's loops look at: the points, what goes around them, the same again, the box. -/
structure Sees (w wr : World) (g gh gg gb : Nat) (l H : List Q) (v1 v2 : Value) : Prop where
  below : Below w.heap.size w wr
  atL : At wr g 0 l
  atH : At wr gh 0 H
  atG : At wr gg 0 H
  b0 : wr.cell? ⟨gb, 0, none⟩ = some v1
  b1 : wr.cell? ⟨gb, 1, none⟩ = some v2
  lt : g < wr.heap.size ∧ gh < wr.heap.size ∧ gg < wr.heap.size ∧ gb < wr.heap.size

theorem Sees.drewN {w wr : World} {g gh gg gb : Nat} {l H : List Q} {v1 v2 : Value} (h : Sees w wr g gh gg gb l H v1 v2) (n : Nat) : Sees w (wr.drewN n) g gh gg gb l H v1 v2 :=
  ⟨⟨h.below.os, h.below.tape, h.below.output, h.below.size, h.below.block⟩, h.atL, h.atH, h.atG, h.b0, h.b1, h.lt⟩

theorem at_cell {w : World} {b : Nat} {l : List Q} (h : At w b 0 l) (k : Nat) (hk : k < l.length) : w.cell? ⟨b, k, none⟩ = some (qe l[k]) := by have := h k hk; rwa [Nat.zero_add] at this

/-- How two points compare, part by part. -/
theorem eq_parts (x y : Q) {xr xi yr yi : Nat} (hx : qe x = .complex .f64 xr xi) (hy : qe y = .complex .f64 yr yi) :
    ∃ o1 o2 : Bool, (FloatKind.f64.format.order xr yr == some .eq) = o1 ∧ (FloatKind.f64.format.order xi yi == some .eq) = o2 ∧ (o1 && o2) = decide (x = y) := by
  have h := eq_q x y
  injection hx with _ e1 e2
  injection hy with _ e3 e4
  rw [e1, e2, e3, e4] at h
  exact ⟨_, _, rfl, rfl, h⟩
theorem eq_same (x y : Q) {xr xi yr yi : Nat} (hx : qe x = .complex .f64 xr xi) (hy : qe y = .complex .f64 yr yi) (h : x = y) :
    (FloatKind.f64.format.order xr yr == some .eq) = true ∧ (FloatKind.f64.format.order xi yi == some .eq) = true := by
  obtain ⟨o1, o2, h1, h2, h3⟩ := eq_parts x y hx hy
  rw [decide_eq_true h, Bool.and_eq_true] at h3
  exact ⟨h1.trans h3.1, h2.trans h3.2⟩

/-- A callee that draws nothing, behind a region that drew. -/
theorem quiet_again {P : Program} {f : FuncId} {args : Array Value} {w : World} {m n : Nat} {v : Value} (h : Calls P f args (w.drewN (m + n)) fun e w' => e = .returned v ∧ w' = w.drewN (m + n)) :
    Calls P f args (w.drewN (m + n)) fun e w'' => e = .returned v ∧ ∃ k, w'' = w.drewN (m + k) := h.mono fun _ _ ⟨he, hm⟩ => ⟨he, n, hm⟩

theorem take_mem (l : List Q) (x : Q) (j : Nat) (hj : j < l.length) : (decide (x ∈ l.take j) || decide (l[j] = x)) = decide (x ∈ l.take (j + 1)) := by
  have hm : x ∈ l.take (j + 1) ↔ x ∈ l.take j ∨ l[j] = x := by
    rw [List.take_succ_eq_append_getElem hj, List.mem_append, List.mem_singleton]
    exact or_congr Iff.rfl eq_comm
  rw [Bool.eq_iff_iff]
  simp only [Bool.or_eq_true, decide_eq_true_eq, hm]

theorem tmod_nat (k n : Nat) : ((k : Int) + 1).tmod (n : Int) = (((k + 1) % n : Nat) : Int) := by
  have : ((k : Int) + 1) = ((k + 1 : Nat) : Int) := by omega
  rw [this]; rfl
theorem tmod_nat2 (k n : Nat) : ((k : Int) + 2).tmod (n : Int) = (((k + 2) % n : Nat) : Int) := by
  have : ((k : Int) + 2) = ((k + 2 : Nat) : Int) := by omega
  rw [this]; rfl

/-- The law's loops, with the four sides' marks. -/
structure Seen (w wr : World) (g gh gg gb gs : Nat) (l H : List Q) (v1 v2 : Value) (s0 s1 s2 s3 : Bool) : Prop where
  sees : Sees w wr g gh gg gb l H v1 v2
  c0 : wr.cell? ⟨gs, 0, none⟩ = some (.bool s0)
  c1 : wr.cell? ⟨gs, 1, none⟩ = some (.bool s1)
  c2 : wr.cell? ⟨gs, 2, none⟩ = some (.bool s2)
  c3 : wr.cell? ⟨gs, 3, none⟩ = some (.bool s3)
  fz : ∀ i, wr.frozen? ⟨gs, i, none⟩ = false
  ne : w.heap.size ≤ gs ∧ g < gs ∧ gh < gs ∧ gg < gs ∧ gb < gs

theorem Sees.put {w wr : World} {g gh gg gb gs : Nat} {l H : List Q} {v1 v2 : Value} (h : Sees w wr g gh gg gb l H v1 v2) (ne : w.heap.size ≤ gs ∧ g < gs ∧ gh < gs ∧ gg < gs ∧ gb < gs) (i : Nat) (v : Value) : Sees w (wr.setCell ⟨gs, i, none⟩ v) g gh gg gb l H v1 v2 := by
  obtain ⟨n1, n2, n3, n4, n5⟩ := ne
  have oth : ∀ (b o : Nat), b ≠ gs → (wr.setCell ⟨gs, i, none⟩ v).cell? ⟨b, o, none⟩ = wr.cell? ⟨b, o, none⟩ := fun b o hb => World.cell?_setCell_other _ _ _ _ (by intro e; simp only [Addr.mk.injEq] at e; omega)
  refine ⟨h.below.setCell n1 _, fun k hk => (oth _ _ (by omega)).trans (h.atL k hk), fun k hk => (oth _ _ (by omega)).trans (h.atH k hk), fun k hk => (oth _ _ (by omega)).trans (h.atG k hk), (oth _ _ (by omega)).trans h.b0, (oth _ _ (by omega)).trans h.b1, ?_⟩
  have := h.lt
  simp [World.setCell]; omega

theorem Seen.put0 {w wr : World} {g gh gg gb gs : Nat} {l H : List Q} {v1 v2 : Value} {s0 s1 s2 s3 : Bool} (h : Seen w wr g gh gg gb gs l H v1 v2 s0 s1 s2 s3) (b : Bool) : Seen w (wr.setCell ⟨gs, 0, none⟩ (.bool b)) g gh gg gb gs l H v1 v2 b s1 s2 s3 :=
  ⟨h.sees.put h.ne 0 _, World.cell?_setCell_same _ _ _ h.c0, (World.cell?_setCell_other _ _ _ _ (by intro e; simp only [Addr.mk.injEq] at e; omega)).trans h.c1, (World.cell?_setCell_other _ _ _ _ (by intro e; simp only [Addr.mk.injEq] at e; omega)).trans h.c2, (World.cell?_setCell_other _ _ _ _ (by intro e; simp only [Addr.mk.injEq] at e; omega)).trans h.c3, fun i => (World.frozen?_setCell _ _ _ _).trans (h.fz i), h.ne⟩
theorem Seen.put1 {w wr : World} {g gh gg gb gs : Nat} {l H : List Q} {v1 v2 : Value} {s0 s1 s2 s3 : Bool} (h : Seen w wr g gh gg gb gs l H v1 v2 s0 s1 s2 s3) (b : Bool) : Seen w (wr.setCell ⟨gs, 1, none⟩ (.bool b)) g gh gg gb gs l H v1 v2 s0 b s2 s3 :=
  ⟨h.sees.put h.ne 1 _, (World.cell?_setCell_other _ _ _ _ (by intro e; simp only [Addr.mk.injEq] at e; omega)).trans h.c0, World.cell?_setCell_same _ _ _ h.c1, (World.cell?_setCell_other _ _ _ _ (by intro e; simp only [Addr.mk.injEq] at e; omega)).trans h.c2, (World.cell?_setCell_other _ _ _ _ (by intro e; simp only [Addr.mk.injEq] at e; omega)).trans h.c3, fun i => (World.frozen?_setCell _ _ _ _).trans (h.fz i), h.ne⟩
theorem Seen.put2 {w wr : World} {g gh gg gb gs : Nat} {l H : List Q} {v1 v2 : Value} {s0 s1 s2 s3 : Bool} (h : Seen w wr g gh gg gb gs l H v1 v2 s0 s1 s2 s3) (b : Bool) : Seen w (wr.setCell ⟨gs, 2, none⟩ (.bool b)) g gh gg gb gs l H v1 v2 s0 s1 b s3 :=
  ⟨h.sees.put h.ne 2 _, (World.cell?_setCell_other _ _ _ _ (by intro e; simp only [Addr.mk.injEq] at e; omega)).trans h.c0, (World.cell?_setCell_other _ _ _ _ (by intro e; simp only [Addr.mk.injEq] at e; omega)).trans h.c1, World.cell?_setCell_same _ _ _ h.c2, (World.cell?_setCell_other _ _ _ _ (by intro e; simp only [Addr.mk.injEq] at e; omega)).trans h.c3, fun i => (World.frozen?_setCell _ _ _ _).trans (h.fz i), h.ne⟩
theorem Seen.put3 {w wr : World} {g gh gg gb gs : Nat} {l H : List Q} {v1 v2 : Value} {s0 s1 s2 s3 : Bool} (h : Seen w wr g gh gg gb gs l H v1 v2 s0 s1 s2 s3) (b : Bool) : Seen w (wr.setCell ⟨gs, 3, none⟩ (.bool b)) g gh gg gb gs l H v1 v2 s0 s1 s2 b :=
  ⟨h.sees.put h.ne 3 _, (World.cell?_setCell_other _ _ _ _ (by intro e; simp only [Addr.mk.injEq] at e; omega)).trans h.c0, (World.cell?_setCell_other _ _ _ _ (by intro e; simp only [Addr.mk.injEq] at e; omega)).trans h.c1, (World.cell?_setCell_other _ _ _ _ (by intro e; simp only [Addr.mk.injEq] at e; omega)).trans h.c2, World.cell?_setCell_same _ _ _ h.c3, fun i => (World.frozen?_setCell _ _ _ _).trans (h.fz i), h.ne⟩

theorem Seen.drewN {w wr : World} {g gh gg gb gs : Nat} {l H : List Q} {v1 v2 : Value} {s0 s1 s2 s3 : Bool} (h : Seen w wr g gh gg gb gs l H v1 v2 s0 s1 s2 s3) (n : Nat) : Seen w (wr.drewN n) g gh gg gb gs l H v1 v2 s0 s1 s2 s3 :=
  ⟨h.sees.drewN n, h.c0, h.c1, h.c2, h.c3, h.fz, h.ne⟩

theorem any_step (l : List Q) (p : Q → Bool) (j : Nat) (hj : j < l.length) : (l.take (j + 1)).any p = ((l.take j).any p || p l[j]) := by
  rw [List.take_succ_eq_append_getElem hj, List.any_append]; simp

set_option maxRecDepth 100000 in
set_option maxHeartbeats 16000000 in
theorem hulled_any (zs : List Int) (A : Option Addr) (b off cp : Nat) (w : World) (hb : b < w.heap.size ∨ zs.length = 0)
    (hcell : ∀ k (h : k < zs.length), A = some ⟨b, off, none⟩ ∧ w.cell? ⟨b, off + k, none⟩ = some (.int .i64 zs[k])) (hz : ∀ z ∈ zs, -9223372036854775808 ≤ z ∧ z ≤ 9223372036854775807)
    (hn : zs.length ≤ 9223372036854775807) :
    Calls Try.prog 5 #[.slice A zs.length cp] w fun e w' => e = .returned (.bool true) ∧ Below w.heap.size w w' := by
  have c1 := begin_any w
  have c2 : ∀ w1, Below w.heap.size w w1 → _ := fun w1 (hB : Below w.heap.size w w1) => shapeC_any zs 20 A b off cp w1 (by decide) (by decide) (by have := hB.size; omega)
    (fun k h => ⟨(hcell k h).1, by rw [hB.cell (p := ⟨b, off + k, none⟩) (by rcases hb with hb | hb; exact hb; omega)]; exact (hcell k h).2⟩) hz hn
  clear hcell hz hb
  have hst := store_complex
  go_enter Try.func5, Try.ntmps5
  go_wp2_with fail
  refine c1.mono ?_
  rintro e w1 ⟨rfl, hB1⟩
  clear c1
  go_wp2_with fail
  refine (c2 _ hB1).mono ?_
  rintro e w2 ⟨L, g, cap, rfl, hL3, hL32, hlim, hlies, hg, hcap, hB2, hcan⟩
  clear c2
  obtain ⟨l, rfl⟩ := qs_of L (fun c hc => ⟨C.lim_mono (hlim c hc) (by decide), hcan c hc⟩)
  rw [List.length_map] at hL3 hL32 hcap ⊢
  clear hlim hcan
  have hBw2 : Below w.heap.size w w2 := hB1.trans (hB2.mono hB1.size)
  clear hB1 hB2
  have c3 := hull_any l g 0 cap w2 hlies (by omega) (by omega)
  go_wp2_with fail
  refine c3.mono ?_
  rintro e w3 ⟨s, gh, caph, rfl, hr, hm, hsl, hch, hAh, hgh, hB3⟩
  clear c3
  have hs0 : 0 < s.length := by
    refine Nat.pos_of_ne_zero fun e => ?_
    have : s = [] := List.length_eq_zero_iff.1 e
    have h := (hm (l[0]'(by omega))).2 (List.getElem_mem (by omega))
    rw [this] at h; cases h
  have hHO := (hull_of hr hs0).mem hm
  have hHl := hullL_len s (by omega)
  have hag := fun u (hu : Rise qx qy u) hmu => hull_again hr hs0 hu hmu
  generalize hullL qx qy s = H at *
  have c4 := hull_any H gh 0 caph w3 (at_lies hAh) hHO.some (by omega)
  clear hr hm hsl hs0
  go_wp2_with fail
  refine c4.mono ?_
  rintro e w4 ⟨u, gg, capg, rfl, hru, hmu, -, hcg, hAg, hgg, hB4⟩
  clear c4
  have hGH := hag u hru hmu
  rw [hGH] at hcg hAg ⊢
  clear hag hGH hru hmu u s
  have c5 := bounds_any l g 0 cap w4 (((lies_at hlies).below hB3 hg).below hB4 (Nat.lt_of_lt_of_le hg hB3.size)) (Nat.lt_of_lt_of_le hg (Nat.le_trans hB3.size hB4.size)) hL3 hL32 hcap
  go_wp2_with fail
  refine c5.mono ?_
  rintro e w5 ⟨⟨lo, hi, rfl, hX⟩, hB5⟩
  clear c5
  obtain ⟨a1, a2, ha⟩ : ∃ a1 a2, qe lo = .complex .f64 a1 a2 := ⟨_, _, rfl⟩
  obtain ⟨b1, b2, hbb⟩ : ∃ b1 b2, qe hi = .complex .f64 b1 b2 := ⟨_, _, rfl⟩
  have HA : Hid (qe lo = .complex .f64 a1 a2 ∧ qe hi = .complex .f64 b1 b2) := ⟨ha, hbb⟩
  rw [ha, hbb]
  clear ha hbb
  have hH0 := hHO.some
  have e1 : ¬ (H.length : Int) = 0 := by omega
  have e2 : ¬ H.length = 0 := by omega
  have e3 : ((H.length : Int) == 0) = false := by rw [beq_eq_false_iff_ne]; omega
  -- all that is left of the worlds
  have hB45 : Below w4.heap.size w4 w5 := hB5
  have l5 : At w5 g 0 l := (((lies_at hlies).below hB3 hg).below hB4 (Nat.lt_of_lt_of_le hg hB3.size)).below hB5 (Nat.lt_of_lt_of_le hg (Nat.le_trans hB3.size hB4.size))
  have h5 : At w5 gh 0 H := (hAh.below hB4 hgh).below hB5 (Nat.lt_of_lt_of_le hgh hB4.size)
  have g5 : At w5 gg 0 H := hAg.below hB5 hgg
  have z2 := hB3.size
  have z3 := hB4.size
  have z4 := hB5.size
  have hBw : Below w.heap.size w w5 := ((hBw2.trans (hB3.mono hBw2.size)).trans (hB4.mono (by have := hBw2.size; omega))).trans (hB5.mono (by have := hBw2.size; omega))
  have q1 : g < w5.heap.size := by omega
  have q2 : gh < w5.heap.size := by omega
  have q3 : gg < w5.heap.size := by omega
  clear hlies hg hB3 hB4 hB5 hB45 hAh hgh hAg hgg z2 z3 z4 hBw2
  obtain ⟨gb, hgb⟩ : ∃ gb, gb = w5.heap.size := ⟨_, rfl⟩
  have hS0 : Sees w (w5.alloc (.cells #[.complex .f64 a1 a2, .complex .f64 b1 b2] 45)) g gh gg gb l H (.complex .f64 a1 a2) (.complex .f64 b1 b2) := by
    have hbl : Below w5.heap.size w5 (w5.alloc (.cells #[.complex .f64 a1 a2, .complex .f64 b1 b2] 45)) := (Below.refl _ _).alloc (Nat.le_refl _) _
    refine ⟨hBw.alloc hBw.size _, l5.below hbl q1, h5.below hbl q2, g5.below hbl q3, ?_, ?_, ?_⟩
    · rw [hgb]; simp [go_sem]
    · rw [hgb]; simp [go_sem]
    · simp; omega
  clear hBw l5 h5 g5 q1 q2 q3
  go_wp2_with fail
  rw [← hgb]
  go_loopw [12] (fun i wr => ∃ k : Nat, k ≤ H.length ∧ i = .int .i64 k ∧ Sees w wr g gh gg gb l H (.complex .f64 a1 a2) (.complex .f64 b1 b2)) (fun i _ => H.length - (intOf i).toNat)
  case atStart => exact ⟨0, Nat.zero_le _, rfl, hS0⟩
  case round =>
    clear hS0 hgb w5 w4 w3 w2 w1
    obtain ⟨k, hk, rfl, hS⟩ := hrel
    by_cases hlt : k < H.length
    · have hlt' : (k : Int) < (H.length : Int) := by omega
      have HX : Hid (BoxOf l lo hi) := hX
      have HH : Hid (HullOf qx qy l H) := hHO
      clear hX hHO
      go_wp2_with fail
      go_loopw [13, 14] (fun f v wr => ∃ (j : Nat) (fb : Bool), j ≤ l.length ∧ v = .int .i64 j ∧ f = .bool fb ∧ Hid (fb = decide (H[k] ∈ l.take j)) ∧ Sees w wr g gh gg gb l H (.complex .f64 a1 a2) (.complex .f64 b1 b2)) (fun _ v _ => l.length - (intOf v).toNat)
      case atStart => exact ⟨0, false, Nat.zero_le _, rfl, rfl, by simp [Hid], hS⟩
      case round =>
        clear hS
        obtain ⟨j, fb, hj, rfl, rfl, HF, hS⟩ := hrel
        by_cases hjl : j < l.length
        · have hjl' : (j : Int) < (l.length : Int) := by omega
          have kl := at_cell hS.atL j hjl
          have kh := at_cell hS.atH k hlt
          have htm := take_mem l H[k] j hjl
          obtain ⟨tr, ti, ht⟩ : ∃ tr ti, qe l[j] = .complex .f64 tr ti := ⟨_, _, rfl⟩
          obtain ⟨xr, xi, hx⟩ : ∃ xr xi, qe H[k] = .complex .f64 xr xi := ⟨_, _, rfl⟩
          have HT : Hid (qe l[j] = .complex .f64 tr ti) := ht
          have HXX : Hid (qe H[k] = .complex .f64 xr xi) := hx
          rw [ht] at kl
          rw [hx] at kh
          obtain ⟨o1, o2, ho1, ho2, ho⟩ := eq_parts l[j] H[k] ht hx
          rw [← HF.out, ← ho] at htm
          have HTM : Hid ((fb || (o1 && o2)) = decide (H[k] ∈ l.take (j + 1))) := htm
          have HS : Hid (Sees w wr g gh gg gb l H (.complex .f64 a1 a2) (.complex .f64 b1 b2)) := hS
          clear ht hx htm hS HF ho
          cases fb with
          | true => as_aux_lemma =>
            have HF2 : Hid (true = decide (H[k] ∈ l.take (j + 1))) := by have := HTM.out; rw [Bool.true_or] at this; exact this
            clear HTM ho1 ho2 o1 o2
            go_wp2_with fail
            go_big_quiet (fail)
            rcases (by omega : H.length = 1 ∨ H.length = 2 ∨ 2 < H.length) with hN | hN | hN
            · have p1 : decide ((2 : Int) < (H.length : Int)) = false := by rw [decide_eq_false_iff_not]; omega
              have p1' : decide ((H.length : Int) > 2) = false := by rw [decide_eq_false_iff_not]; omega
              have p2 : ((H.length : Int) == 2) = false := by rw [beq_eq_false_iff_ne]; omega
              have p3 : ((H.length : Int) == 1) = true := by rw [beq_iff_eq]; omega
              have p4 : (0 : Int) < (H.length : Int) := by omega
              have kh0 := at_cell HS.out.atH 0 (by omega)
              have hone := HH.out.one hN l[j] (List.getElem_mem hjl)
              obtain ⟨yr, yi, hy⟩ : ∃ yr yi, qe (H[0]'(by omega)) = .complex .f64 yr yi := ⟨_, _, rfl⟩
              rw [hy] at kh0
              obtain ⟨hn1, hn2⟩ := eq_same _ _ HT.out hy hone
              clear hone hy hN
              go_wp2_with fail
              go_big_quiet (fail)
              go_wp2
              go_roundw
              case rel => exact ⟨j + 1, true, by omega, by go_num, rfl, HF2, HS.out.drewN _⟩
              case measure => simp [intOf]; omega
            · have p1 : decide ((2 : Int) < (H.length : Int)) = false := by rw [decide_eq_false_iff_not]; omega
              have p1' : decide ((H.length : Int) > 2) = false := by rw [decide_eq_false_iff_not]; omega
              have p2 : ((H.length : Int) == 2) = true := by rw [beq_iff_eq]; omega
              have p3 : ((H.length : Int) == 1) = false := by rw [beq_eq_false_iff_ne]; omega
              have p4 : (0 : Int) < (H.length : Int) := by omega
              have p5 : (1 : Int) < (H.length : Int) := by omega
              have kh0 := at_cell HS.out.atH 0 (by omega)
              have kh1 := at_cell HS.out.atH 1 (by omega)
              have htwo := (HH.out.two hN l[j] (List.getElem_mem hjl)).1
              have hla := fun w => left_any (H[0]'(by omega)) (H[1]'(by omega)) l[j] w
              rw [qarea_eq, htwo] at hla
              obtain ⟨yr, yi, hy⟩ : ∃ yr yi, qe (H[0]'(by omega)) = .complex .f64 yr yi := ⟨_, _, rfl⟩
              obtain ⟨vr, vi, hv⟩ : ∃ vr vi, qe (H[1]'(by omega)) = .complex .f64 vr vi := ⟨_, _, rfl⟩
              rw [hy] at kh0 hla
              rw [hv] at kh1 hla
              rw [HT.out] at hla
              clear htwo hy hv hN
              go_wp2_with fail
              go_big_quiet ((go_at_call 20; first | exact quiet_again (hla _) | exact Calls.quiet_of_same (hla _)))
              go_wp2
              go_roundw
              case rel => exact ⟨j + 1, true, by omega, by go_num, rfl, HF2, HS.out.drewN _⟩
              case measure => simp [intOf]; omega
            · have p1 : decide ((2 : Int) < (H.length : Int)) = true := by rw [decide_eq_true_iff]; omega
              have p1' : decide ((H.length : Int) > 2) = true := by rw [decide_eq_true_iff]; omega
              have p2 : ((H.length : Int) == 2) = false := by rw [beq_eq_false_iff_ne]; omega
              have p3 : ((H.length : Int) == 1) = false := by rw [beq_eq_false_iff_ne]; omega
              have p4 : (2 : Int) < (H.length : Int) := by omega
              have hk1 : (k + 1) % H.length < H.length := Nat.mod_lt _ (by omega)
              have hed := HH.out.edge hN k hlt hk1 l[j] (List.getElem_mem hjl)
              have kh1 := at_cell HS.out.atH _ hk1
              have hla := fun w => left_any H[k] H[(k + 1) % H.length] l[j] w
              have hr := tmod_nat k H.length
              rw [← qarea_eq] at hed
              generalize H[(k + 1) % H.length] = x1 at kh1 hla hed
              generalize (k + 1) % H.length = k1 at kh1 hk1 hr
              obtain ⟨yr, yi, hy⟩ : ∃ yr yi, qe x1 = .complex .f64 yr yi := ⟨_, _, rfl⟩
              rw [hy] at kh1 hla
              rw [HT.out, HXX.out] at hla
              generalize qarea H[k] x1 l[j] = A1 at hla hed
              have hA1 : decide (A1 < 0) = false := by rw [decide_eq_false_iff_not]; omega
              have hwk : IntKind.i64.wrap ((k : Int) + 1) = (k : Int) + 1 := by rw [IntKind.wrap_i64]; omega
              have hk1' : (k1 : Int) < (H.length : Int) := by omega
              have hk1'' : (0 : Int) ≤ (k1 : Int) := by omega
              clear hy hN hed
              go_wp2_with fail
              go_big_quiet ((go_at_call 20; first | exact quiet_again (hla _) | exact Calls.quiet_of_same (hla _)))
              go_wp2
              go_roundw
              case rel => exact ⟨j + 1, true, by omega, by go_num, rfl, HF2, HS.out.drewN _⟩
              case measure => simp [intOf]; omega
          | false => as_aux_lemma =>
            have HF2 : Hid ((o1 && o2) = decide (H[k] ∈ l.take (j + 1))) := by have := HTM.out; rw [Bool.false_or] at this; exact this
            clear HTM
            go_wp2_with fail
            go_big_quiet (fail)
            rcases (by omega : H.length = 1 ∨ H.length = 2 ∨ 2 < H.length) with hN | hN | hN
            · have p1 : decide ((2 : Int) < (H.length : Int)) = false := by rw [decide_eq_false_iff_not]; omega
              have p1' : decide ((H.length : Int) > 2) = false := by rw [decide_eq_false_iff_not]; omega
              have p2 : ((H.length : Int) == 2) = false := by rw [beq_eq_false_iff_ne]; omega
              have p3 : ((H.length : Int) == 1) = true := by rw [beq_iff_eq]; omega
              have p4 : (0 : Int) < (H.length : Int) := by omega
              have kh0 := at_cell HS.out.atH 0 (by omega)
              have hone := HH.out.one hN l[j] (List.getElem_mem hjl)
              obtain ⟨yr, yi, hy⟩ : ∃ yr yi, qe (H[0]'(by omega)) = .complex .f64 yr yi := ⟨_, _, rfl⟩
              rw [hy] at kh0
              obtain ⟨hn1, hn2⟩ := eq_same _ _ HT.out hy hone
              clear hone hy hN
              go_wp2_with fail
              go_big_quiet (fail)
              go_wp2
              go_roundw
              case rel => exact ⟨j + 1, (o1 && o2), by omega, by go_num, rfl, HF2, HS.out.drewN _⟩
              case measure => simp [intOf]; omega
            · have p1 : decide ((2 : Int) < (H.length : Int)) = false := by rw [decide_eq_false_iff_not]; omega
              have p1' : decide ((H.length : Int) > 2) = false := by rw [decide_eq_false_iff_not]; omega
              have p2 : ((H.length : Int) == 2) = true := by rw [beq_iff_eq]; omega
              have p3 : ((H.length : Int) == 1) = false := by rw [beq_eq_false_iff_ne]; omega
              have p4 : (0 : Int) < (H.length : Int) := by omega
              have p5 : (1 : Int) < (H.length : Int) := by omega
              have kh0 := at_cell HS.out.atH 0 (by omega)
              have kh1 := at_cell HS.out.atH 1 (by omega)
              have htwo := (HH.out.two hN l[j] (List.getElem_mem hjl)).1
              have hla := fun w => left_any (H[0]'(by omega)) (H[1]'(by omega)) l[j] w
              rw [qarea_eq, htwo] at hla
              obtain ⟨yr, yi, hy⟩ : ∃ yr yi, qe (H[0]'(by omega)) = .complex .f64 yr yi := ⟨_, _, rfl⟩
              obtain ⟨vr, vi, hv⟩ : ∃ vr vi, qe (H[1]'(by omega)) = .complex .f64 vr vi := ⟨_, _, rfl⟩
              rw [hy] at kh0 hla
              rw [hv] at kh1 hla
              rw [HT.out] at hla
              clear htwo hy hv hN
              go_wp2_with fail
              go_big_quiet ((go_at_call 20; first | exact quiet_again (hla _) | exact Calls.quiet_of_same (hla _)))
              go_wp2
              go_roundw
              case rel => exact ⟨j + 1, (o1 && o2), by omega, by go_num, rfl, HF2, HS.out.drewN _⟩
              case measure => simp [intOf]; omega
            · have p1 : decide ((2 : Int) < (H.length : Int)) = true := by rw [decide_eq_true_iff]; omega
              have p1' : decide ((H.length : Int) > 2) = true := by rw [decide_eq_true_iff]; omega
              have p2 : ((H.length : Int) == 2) = false := by rw [beq_eq_false_iff_ne]; omega
              have p3 : ((H.length : Int) == 1) = false := by rw [beq_eq_false_iff_ne]; omega
              have p4 : (2 : Int) < (H.length : Int) := by omega
              have hk1 : (k + 1) % H.length < H.length := Nat.mod_lt _ (by omega)
              have hed := HH.out.edge hN k hlt hk1 l[j] (List.getElem_mem hjl)
              have kh1 := at_cell HS.out.atH _ hk1
              have hla := fun w => left_any H[k] H[(k + 1) % H.length] l[j] w
              have hr := tmod_nat k H.length
              rw [← qarea_eq] at hed
              generalize H[(k + 1) % H.length] = x1 at kh1 hla hed
              generalize (k + 1) % H.length = k1 at kh1 hk1 hr
              obtain ⟨yr, yi, hy⟩ : ∃ yr yi, qe x1 = .complex .f64 yr yi := ⟨_, _, rfl⟩
              rw [hy] at kh1 hla
              rw [HT.out, HXX.out] at hla
              generalize qarea H[k] x1 l[j] = A1 at hla hed
              have hA1 : decide (A1 < 0) = false := by rw [decide_eq_false_iff_not]; omega
              have hwk : IntKind.i64.wrap ((k : Int) + 1) = (k : Int) + 1 := by rw [IntKind.wrap_i64]; omega
              have hk1' : (k1 : Int) < (H.length : Int) := by omega
              have hk1'' : (0 : Int) ≤ (k1 : Int) := by omega
              clear hy hN hed
              go_wp2_with fail
              go_big_quiet ((go_at_call 20; first | exact quiet_again (hla _) | exact Calls.quiet_of_same (hla _)))
              go_wp2
              go_roundw
              case rel => exact ⟨j + 1, (o1 && o2), by omega, by go_num, rfl, HF2, HS.out.drewN _⟩
              case measure => simp [intOf]; omega
        · have hjl' : ¬ (j : Int) < (l.length : Int) := by omega
          have hF : fb = true := by
            rw [HF.out, List.take_of_length_le (by omega)]
            exact decide_eq_true (HH.out.sub k hlt)
          subst hF
          clear HF
          have HS : Hid (Sees w wr g gh gg gb l H (.complex .f64 a1 a2) (.complex .f64 b1 b2)) := hS
          have kh := at_cell hS.atH k hlt
          have kg := at_cell hS.atG k hlt
          obtain ⟨xr, xi, hx⟩ : ∃ xr xi, qe H[k] = .complex .f64 xr xi := ⟨_, _, rfl⟩
          have HXX : Hid (qe H[k] = .complex .f64 xr xi) := hx
          obtain ⟨hn1, hn2⟩ := eq_same _ _ hx hx rfl
          rw [hx] at kh kg
          clear hS hx
          by_cases hN : H.length < 3
          · as_aux_lemma =>
            have p1 : decide ((H.length : Int) < 3) = true := by rw [decide_eq_true_iff]; omega
            clear hN
            go_wp2_with fail
            go_big_quiet (fail)
            rcases (by omega : k = 0 ∨ 0 < k) with hk0 | hk0
            · have m1 : ((k : Int) == 0) = true := by rw [beq_iff_eq]; omega
              clear hk0
              go_wp2_with fail
              go_big_quiet (fail)
              go_wp2_with fail
              go_big_quiet (fail)
              go_wp2
              go_roundw
              case rel => exact ⟨k + 1, by omega, by go_num, HS.out.drewN _⟩
              case measure => simp [intOf]; omega
            · have m1 : ((k : Int) == 0) = false := by rw [beq_eq_false_iff_ne]; omega
              have hls := HH.out.least k hlt hk0
              have kh0 := at_cell HS.out.atH 0 (by omega)
              have hx0 := fun w => qX_any (H[0]'(by omega)) w
              have hy0 := fun w => qY_any (H[0]'(by omega)) w
              have hxk := fun w => qX_any H[k] w
              have hyk := fun w => qY_any H[k] w
              unfold lt2 at hls
              obtain ⟨zr, zi, hz⟩ : ∃ zr zi, qe (H[0]'(by omega)) = .complex .f64 zr zi := ⟨_, _, rfl⟩
              rw [hz] at kh0 hx0 hy0
              rw [HXX.out] at hxk hyk
              generalize qx (H[0]'(by omega)) = X0 at hls hx0
              generalize qy (H[0]'(by omega)) = Y0 at hls hy0
              generalize qx H[k] = Xk at hls hxk
              generalize qy H[k] = Yk at hls hyk
              have p9 : (0 : Int) < (H.length : Int) := by omega
              clear hz hk0
              rcases hls with hls | ⟨hls, hls'⟩
              · have m2 : decide (X0 < Xk) = true := decide_eq_true hls
                clear hls
                go_wp2_with fail
                go_big_quiet ((first  | (go_at_call_of 15 (Value.complex .f64 zr zi); first | exact quiet_again (hx0 _) | exact Calls.quiet_of_same (hx0 _))  | (go_at_call_of 15 (Value.complex .f64 xr xi); first | exact quiet_again (hxk _) | exact Calls.quiet_of_same (hxk _))  | (go_at_call_of 16 (Value.complex .f64 zr zi); first | exact quiet_again (hy0 _) | exact Calls.quiet_of_same (hy0 _))  | (go_at_call_of 16 (Value.complex .f64 xr xi); first | exact quiet_again (hyk _) | exact Calls.quiet_of_same (hyk _))))
                go_wp2_with fail
                go_big_quiet (fail)
                go_wp2
                go_roundw
                case rel => exact ⟨k + 1, by omega, by go_num, HS.out.drewN _⟩
                case measure => simp [intOf]; omega
              · have m2 : decide (X0 < Xk) = false := by rw [decide_eq_false_iff_not]; omega
                have m3 : (X0 == Xk) = true := by rw [beq_iff_eq]; exact hls
                have m4 : decide (Y0 < Yk) = true := decide_eq_true hls'
                clear hls hls'
                go_wp2_with fail
                go_big_quiet ((first  | (go_at_call_of 15 (Value.complex .f64 zr zi); first | exact quiet_again (hx0 _) | exact Calls.quiet_of_same (hx0 _))  | (go_at_call_of 15 (Value.complex .f64 xr xi); first | exact quiet_again (hxk _) | exact Calls.quiet_of_same (hxk _))  | (go_at_call_of 16 (Value.complex .f64 zr zi); first | exact quiet_again (hy0 _) | exact Calls.quiet_of_same (hy0 _))  | (go_at_call_of 16 (Value.complex .f64 xr xi); first | exact quiet_again (hyk _) | exact Calls.quiet_of_same (hyk _))))
                go_wp2_with fail
                go_big_quiet (fail)
                go_wp2
                go_roundw
                case rel => exact ⟨k + 1, by omega, by go_num, HS.out.drewN _⟩
                case measure => simp [intOf]; omega
          · as_aux_lemma =>
            have p1 : decide ((H.length : Int) < 3) = false := by rw [decide_eq_false_iff_not]; omega
            have p4 : (2 : Int) < (H.length : Int) := by omega
            have hk1 : (k + 1) % H.length < H.length := Nat.mod_lt _ (by omega)
            have hk2 : (k + 2) % H.length < H.length := Nat.mod_lt _ (by omega)
            have hed := HH.out.turn (by omega) k hlt hk1 hk2
            have kh1 := at_cell HS.out.atH _ hk1
            have kh2 := at_cell HS.out.atH _ hk2
            have hla := fun w => left_any H[k] H[(k + 1) % H.length] H[(k + 2) % H.length] w
            have hr := tmod_nat k H.length
            have hr2 := tmod_nat2 k H.length
            rw [← qarea_eq] at hed
            generalize H[(k + 1) % H.length] = x1 at kh1 hla hed
            generalize H[(k + 2) % H.length] = x2 at kh2 hla hed
            generalize (k + 1) % H.length = k1 at kh1 hk1 hr
            generalize (k + 2) % H.length = k2 at kh2 hk2 hr2
            obtain ⟨yr, yi, hy⟩ : ∃ yr yi, qe x1 = .complex .f64 yr yi := ⟨_, _, rfl⟩
            obtain ⟨vr, vi, hv⟩ : ∃ vr vi, qe x2 = .complex .f64 vr vi := ⟨_, _, rfl⟩
            rw [hy] at kh1 hla
            rw [hv] at kh2 hla
            rw [HXX.out] at hla
            generalize qarea H[k] x1 x2 = A1 at hla hed
            have hA1 : decide (0 < A1) = true := by rw [decide_eq_true_iff]; omega
            have hA1' : decide (A1 > 0) = true := by rw [decide_eq_true_iff]; omega
            have hwk : IntKind.i64.wrap ((k : Int) + 1) = (k : Int) + 1 := by rw [IntKind.wrap_i64]; omega
            have hwk2 : IntKind.i64.wrap ((k : Int) + 2) = (k : Int) + 2 := by rw [IntKind.wrap_i64]; omega
            have hk1' : (k1 : Int) < (H.length : Int) := by omega
            have hk1'' : (0 : Int) ≤ (k1 : Int) := by omega
            have hk2' : (k2 : Int) < (H.length : Int) := by omega
            have hk2'' : (0 : Int) ≤ (k2 : Int) := by omega
            clear hy hv hN hed
            go_wp2_with fail
            go_big_quiet ((go_at_call 20; first | exact quiet_again (hla _) | exact Calls.quiet_of_same (hla _)))
            clear hla hr hr2 kh1 kh2 hwk hwk2 hk1 hk1' hk1'' hk2 hk2' hk2'' hA1 hA1'
            rcases (by omega : k = 0 ∨ 0 < k) with hk0 | hk0
            · have m1 : ((k : Int) == 0) = true := by rw [beq_iff_eq]; omega
              clear hk0
              go_wp2_with fail
              go_big_quiet (fail)
              go_wp2_with fail
              go_big_quiet (fail)
              go_wp2
              go_roundw
              case rel => exact ⟨k + 1, by omega, by go_num, HS.out.drewN _⟩
              case measure => simp [intOf]; omega
            · have m1 : ((k : Int) == 0) = false := by rw [beq_eq_false_iff_ne]; omega
              have hls := HH.out.least k hlt hk0
              have kh0 := at_cell HS.out.atH 0 (by omega)
              have hx0 := fun w => qX_any (H[0]'(by omega)) w
              have hy0 := fun w => qY_any (H[0]'(by omega)) w
              have hxk := fun w => qX_any H[k] w
              have hyk := fun w => qY_any H[k] w
              unfold lt2 at hls
              obtain ⟨zr, zi, hz⟩ : ∃ zr zi, qe (H[0]'(by omega)) = .complex .f64 zr zi := ⟨_, _, rfl⟩
              rw [hz] at kh0 hx0 hy0
              rw [HXX.out] at hxk hyk
              generalize qx (H[0]'(by omega)) = X0 at hls hx0
              generalize qy (H[0]'(by omega)) = Y0 at hls hy0
              generalize qx H[k] = Xk at hls hxk
              generalize qy H[k] = Yk at hls hyk
              have p9 : (0 : Int) < (H.length : Int) := by omega
              clear hz hk0
              rcases hls with hls | ⟨hls, hls'⟩
              · have m2 : decide (X0 < Xk) = true := decide_eq_true hls
                clear hls
                go_wp2_with fail
                go_big_quiet ((first  | (go_at_call_of 15 (Value.complex .f64 zr zi); first | exact quiet_again (hx0 _) | exact Calls.quiet_of_same (hx0 _))  | (go_at_call_of 15 (Value.complex .f64 xr xi); first | exact quiet_again (hxk _) | exact Calls.quiet_of_same (hxk _))  | (go_at_call_of 16 (Value.complex .f64 zr zi); first | exact quiet_again (hy0 _) | exact Calls.quiet_of_same (hy0 _))  | (go_at_call_of 16 (Value.complex .f64 xr xi); first | exact quiet_again (hyk _) | exact Calls.quiet_of_same (hyk _))))
                go_wp2_with fail
                go_big_quiet (fail)
                go_wp2
                go_roundw
                case rel => exact ⟨k + 1, by omega, by go_num, HS.out.drewN _⟩
                case measure => simp [intOf]; omega
              · have m2 : decide (X0 < Xk) = false := by rw [decide_eq_false_iff_not]; omega
                have m3 : (X0 == Xk) = true := by rw [beq_iff_eq]; exact hls
                have m4 : decide (Y0 < Yk) = true := decide_eq_true hls'
                clear hls hls'
                go_wp2_with fail
                go_big_quiet ((first  | (go_at_call_of 15 (Value.complex .f64 zr zi); first | exact quiet_again (hx0 _) | exact Calls.quiet_of_same (hx0 _))  | (go_at_call_of 15 (Value.complex .f64 xr xi); first | exact quiet_again (hxk _) | exact Calls.quiet_of_same (hxk _))  | (go_at_call_of 16 (Value.complex .f64 zr zi); first | exact quiet_again (hy0 _) | exact Calls.quiet_of_same (hy0 _))  | (go_at_call_of 16 (Value.complex .f64 xr xi); first | exact quiet_again (hyk _) | exact Calls.quiet_of_same (hyk _))))
                go_wp2_with fail
                go_big_quiet (fail)
                go_wp2
                go_roundw
                case rel => exact ⟨k + 1, by omega, by go_num, HS.out.drewN _⟩
                case measure => simp [intOf]; omega
    · have hlt' : ¬ (k : Int) < (H.length : Int) := by omega
      have HX : Hid (BoxOf l lo hi) := hX
      have HH : Hid (HullOf qx qy l H) := hHO
      clear hX hHO
      obtain ⟨gs, hgs⟩ : ∃ gs, gs = wr.heap.size := ⟨_, rfl⟩
      have hD : Seen w (wr.alloc (.cells #[.bool false, .bool false, .bool false, .bool false] 49)) g gh gg gb gs l H (.complex .f64 a1 a2) (.complex .f64 b1 b2) false false false false := by
        have hbl : Below wr.heap.size wr (wr.alloc (.cells #[.bool false, .bool false, .bool false, .bool false] 49)) := (Below.refl _ _).alloc (Nat.le_refl _) _
        obtain ⟨t1, t2, t3, t4⟩ := hS.lt
        refine ⟨⟨hS.below.alloc hS.below.size _, hS.atL.below hbl t1, hS.atH.below hbl t2, hS.atG.below hbl t3, (hbl.cell (p := ⟨gb, 0, none⟩) t4).trans hS.b0, (hbl.cell (p := ⟨gb, 1, none⟩) t4).trans hS.b1, by simp; omega⟩, ?_, ?_, ?_, ?_, ?_, ?_⟩
        · rw [hgs]; simp [go_sem]
        · rw [hgs]; simp [go_sem]
        · rw [hgs]; simp [go_sem]
        · rw [hgs]; simp [go_sem]
        · intro i; rw [hgs]; simp [go_sem]
        · have := hS.below.size; omega
      clear hS
      go_wp2_with fail
      rw [← hgs]
      go_loopw [18] (fun i wr => ∃ (j : Nat) (s0 s1 s2 s3 : Bool), j ≤ l.length ∧ i = .int .i64 j ∧ Seen w wr g gh gg gb gs l H (.complex .f64 a1 a2) (.complex .f64 b1 b2) s0 s1 s2 s3 ∧ Hid (s0 = (l.take j).any (fun t => qx t == qx lo) ∧ s1 = (l.take j).any (fun t => qx t == qx hi) ∧ s2 = (l.take j).any (fun t => qy t == qy lo) ∧ s3 = (l.take j).any (fun t => qy t == qy hi))) (fun i _ => l.length - (intOf i).toNat)
      case atStart => exact ⟨0, false, false, false, false, Nat.zero_le _, rfl, hD, by simp [Hid]⟩
      case round =>
        clear hD hgs
        obtain ⟨j, s0, s1, s2, s3, hj, rfl, hD, HM⟩ := hrel
        by_cases hjl : j < l.length
        · as_aux_lemma =>
          have hjl' : (j : Int) < (l.length : Int) := by omega
          have HM2 : Hid ((s0 || (qx l[j] == qx lo)) = (l.take (j + 1)).any (fun t => qx t == qx lo) ∧ (s1 || (qx l[j] == qx hi)) = (l.take (j + 1)).any (fun t => qx t == qx hi) ∧ (s2 || (qy l[j] == qy lo)) = (l.take (j + 1)).any (fun t => qy t == qy lo) ∧ (s3 || (qy l[j] == qy hi)) = (l.take (j + 1)).any (fun t => qy t == qy hi)) := by
            rw [any_step _ _ _ hjl, any_step _ _ _ hjl, any_step _ _ _ hjl, any_step _ _ _ hjl, ← HM.out.1, ← HM.out.2.1, ← HM.out.2.2.1, ← HM.out.2.2.2]; exact ⟨rfl, rfl, rfl, rfl⟩
          have hin := HX.out.has l[j] (List.getElem_mem hjl)
          have kl := at_cell hD.sees.atL j hjl
          have hxt := fun w => qX_any l[j] w
          have hyt := fun w => qY_any l[j] w
          have hx0 := fun w => qX_any lo w
          have hy0 := fun w => qY_any lo w
          have hx1 := fun w => qX_any hi w
          have hy1 := fun w => qY_any hi w
          rw [HA.out.1] at hx0 hy0
          rw [HA.out.2] at hx1 hy1
          obtain ⟨tr, ti, ht⟩ : ∃ tr ti, qe l[j] = .complex .f64 tr ti := ⟨_, _, rfl⟩
          rw [ht] at kl hxt hyt
          clear ht HM
          have k0 := hD.sees.b0
          have k1 := hD.sees.b1
          have d0 := hD.c0
          have d1 := hD.c1
          have d2 := hD.c2
          have d3 := hD.c3
          have z0 := hD.fz 0
          have z1 := hD.fz 1
          have z2 := hD.fz 2
          have z3 := hD.fz 3
          have nb : gb ≠ gs := by have := hD.ne; omega
          have nb' : gs ≠ gb := by omega
          have HD : Hid (Seen w wr g gh gg gb gs l H (.complex .f64 a1 a2) (.complex .f64 b1 b2) s0 s1 s2 s3) := hD
          generalize qx l[j] = Xt at hin hxt HM2
          generalize qy l[j] = Yt at hin hyt HM2
          obtain ⟨X0, hX0⟩ : ∃ X0, X0 = qx lo := ⟨_, rfl⟩
          obtain ⟨X1, hX1⟩ : ∃ X1, X1 = qx hi := ⟨_, rfl⟩
          obtain ⟨Y0, hY0⟩ : ∃ Y0, Y0 = qy lo := ⟨_, rfl⟩
          obtain ⟨Y1, hY1⟩ : ∃ Y1, Y1 = qy hi := ⟨_, rfl⟩
          rw [← hX0] at hin hx0
          rw [← hX1] at hin hx1
          rw [← hY0] at hin hy0
          rw [← hY1] at hin hy1
          have HM3 : Hid ((s0 || (Xt == X0)) = (l.take (j + 1)).any (fun t => qx t == qx lo) ∧ (s1 || (Xt == X1)) = (l.take (j + 1)).any (fun t => qx t == qx hi) ∧ (s2 || (Yt == Y0)) = (l.take (j + 1)).any (fun t => qy t == qy lo) ∧ (s3 || (Yt == Y1)) = (l.take (j + 1)).any (fun t => qy t == qy hi)) := by rw [hX0, hX1, hY0, hY1]; exact HM2.out
          clear HM2 hX0 hX1 hY0 hY1 hD
          have m1 : decide (Xt < X0) = false := by rw [decide_eq_false_iff_not]; omega
          have m2 : decide (Xt > X1) = false := by rw [decide_eq_false_iff_not]; omega
          have m2' : decide (X1 < Xt) = false := by rw [decide_eq_false_iff_not]; omega
          have m3 : decide (Yt < Y0) = false := by rw [decide_eq_false_iff_not]; omega
          have m4 : decide (Yt > Y1) = false := by rw [decide_eq_false_iff_not]; omega
          have m4' : decide (Y1 < Yt) = false := by rw [decide_eq_false_iff_not]; omega
          clear hin
          go_upto_region 33 with ((first | (go_at_call_of 15 (Value.complex .f64 tr ti); refine (hxt _).mono ?_; rintro e w' ⟨rfl, rfl⟩) | (go_at_call_of 16 (Value.complex .f64 tr ti); refine (hyt _).mono ?_; rintro e w' ⟨rfl, rfl⟩) | (go_at_call_of 15 (Value.complex .f64 a1 a2); refine (hx0 _).mono ?_; rintro e w' ⟨rfl, rfl⟩) | (go_at_call_of 15 (Value.complex .f64 b1 b2); refine (hx1 _).mono ?_; rintro e w' ⟨rfl, rfl⟩) | (go_at_call_of 16 (Value.complex .f64 a1 a2); refine (hy0 _).mono ?_; rintro e w' ⟨rfl, rfl⟩) | (go_at_call_of 16 (Value.complex .f64 b1 b2); refine (hy1 _).mono ?_; rintro e w' ⟨rfl, rfl⟩)))
          clear m1 m2 m2' m3 m4 m4' kl hxt hyt
          go_cut [] (fun wx => Seen w wx g gh gg gb gs l H (.complex .f64 a1 a2) (.complex .f64 b1 b2) (s0 || (Xt == X0)) s1 s2 s3)
          case first =>
            cases s0
            all_goals (go_wp2_with ((first | (go_at_call_of 15 (Value.complex .f64 tr ti); refine (hxt _).mono ?_; rintro e w' ⟨rfl, rfl⟩) | (go_at_call_of 16 (Value.complex .f64 tr ti); refine (hyt _).mono ?_; rintro e w' ⟨rfl, rfl⟩) | (go_at_call_of 15 (Value.complex .f64 a1 a2); refine (hx0 _).mono ?_; rintro e w' ⟨rfl, rfl⟩) | (go_at_call_of 15 (Value.complex .f64 b1 b2); refine (hx1 _).mono ?_; rintro e w' ⟨rfl, rfl⟩) | (go_at_call_of 16 (Value.complex .f64 a1 a2); refine (hy0 _).mono ?_; rintro e w' ⟨rfl, rfl⟩) | (go_at_call_of 16 (Value.complex .f64 b1 b2); refine (hy1 _).mono ?_; rintro e w' ⟨rfl, rfl⟩))); go_meet; exact HD.out.put0 _)
          case rest =>
            clear d0 d1 d2 d3 k0 k1 z0 z1 z2 z3 HD
            obtain ⟨S0, hS0⟩ : ∃ S0, S0 = (s0 || (Xt == X0)) := ⟨_, rfl⟩
            rw [← hS0] at hcut
            have HM0 : Hid (S0 = (s0 || (Xt == X0))) := hS0
            clear hS0
            have k0 := hcut.sees.b0
            have k1 := hcut.sees.b1
            have d0 := hcut.c0
            have d1 := hcut.c1
            have d2 := hcut.c2
            have d3 := hcut.c3
            have z0 := hcut.fz 0
            have z1 := hcut.fz 1
            have z2 := hcut.fz 2
            have z3 := hcut.fz 3
            have HD : Hid (Seen w wc g gh gg gb gs l H (.complex .f64 a1 a2) (.complex .f64 b1 b2) S0 s1 s2 s3) := hcut
            clear hcut
            go_upto_region 34 with ((first | (go_at_call_of 15 (Value.complex .f64 tr ti); refine (hxt _).mono ?_; rintro e w' ⟨rfl, rfl⟩) | (go_at_call_of 16 (Value.complex .f64 tr ti); refine (hyt _).mono ?_; rintro e w' ⟨rfl, rfl⟩) | (go_at_call_of 15 (Value.complex .f64 a1 a2); refine (hx0 _).mono ?_; rintro e w' ⟨rfl, rfl⟩) | (go_at_call_of 15 (Value.complex .f64 b1 b2); refine (hx1 _).mono ?_; rintro e w' ⟨rfl, rfl⟩) | (go_at_call_of 16 (Value.complex .f64 a1 a2); refine (hy0 _).mono ?_; rintro e w' ⟨rfl, rfl⟩) | (go_at_call_of 16 (Value.complex .f64 b1 b2); refine (hy1 _).mono ?_; rintro e w' ⟨rfl, rfl⟩)))
            go_cut [] (fun wx => Seen w wx g gh gg gb gs l H (.complex .f64 a1 a2) (.complex .f64 b1 b2) S0 (s1 || (Xt == X1)) s2 s3)
            case first =>
              cases s1
              all_goals (go_wp2_with ((first | (go_at_call_of 15 (Value.complex .f64 tr ti); refine (hxt _).mono ?_; rintro e w' ⟨rfl, rfl⟩) | (go_at_call_of 16 (Value.complex .f64 tr ti); refine (hyt _).mono ?_; rintro e w' ⟨rfl, rfl⟩) | (go_at_call_of 15 (Value.complex .f64 a1 a2); refine (hx0 _).mono ?_; rintro e w' ⟨rfl, rfl⟩) | (go_at_call_of 15 (Value.complex .f64 b1 b2); refine (hx1 _).mono ?_; rintro e w' ⟨rfl, rfl⟩) | (go_at_call_of 16 (Value.complex .f64 a1 a2); refine (hy0 _).mono ?_; rintro e w' ⟨rfl, rfl⟩) | (go_at_call_of 16 (Value.complex .f64 b1 b2); refine (hy1 _).mono ?_; rintro e w' ⟨rfl, rfl⟩))); go_meet; exact HD.out.put1 _)
            case rest =>
              clear d0 d1 d2 d3 k0 k1 z0 z1 z2 z3 HD
              obtain ⟨S1, hS1⟩ : ∃ S1, S1 = (s1 || (Xt == X1)) := ⟨_, rfl⟩
              rw [← hS1] at hcut
              have HM1 : Hid (S1 = (s1 || (Xt == X1))) := hS1
              clear hS1
              have k0 := hcut.sees.b0
              have k1 := hcut.sees.b1
              have d0 := hcut.c0
              have d1 := hcut.c1
              have d2 := hcut.c2
              have d3 := hcut.c3
              have z0 := hcut.fz 0
              have z1 := hcut.fz 1
              have z2 := hcut.fz 2
              have z3 := hcut.fz 3
              have HD : Hid (Seen w wc g gh gg gb gs l H (.complex .f64 a1 a2) (.complex .f64 b1 b2) S0 S1 s2 s3) := hcut
              clear hcut
              go_upto_region 35 with ((first | (go_at_call_of 15 (Value.complex .f64 tr ti); refine (hxt _).mono ?_; rintro e w' ⟨rfl, rfl⟩) | (go_at_call_of 16 (Value.complex .f64 tr ti); refine (hyt _).mono ?_; rintro e w' ⟨rfl, rfl⟩) | (go_at_call_of 15 (Value.complex .f64 a1 a2); refine (hx0 _).mono ?_; rintro e w' ⟨rfl, rfl⟩) | (go_at_call_of 15 (Value.complex .f64 b1 b2); refine (hx1 _).mono ?_; rintro e w' ⟨rfl, rfl⟩) | (go_at_call_of 16 (Value.complex .f64 a1 a2); refine (hy0 _).mono ?_; rintro e w' ⟨rfl, rfl⟩) | (go_at_call_of 16 (Value.complex .f64 b1 b2); refine (hy1 _).mono ?_; rintro e w' ⟨rfl, rfl⟩)))
              go_cut [] (fun wx => Seen w wx g gh gg gb gs l H (.complex .f64 a1 a2) (.complex .f64 b1 b2) S0 S1 (s2 || (Yt == Y0)) s3)
              case first =>
                cases s2
                all_goals (go_wp2_with ((first | (go_at_call_of 15 (Value.complex .f64 tr ti); refine (hxt _).mono ?_; rintro e w' ⟨rfl, rfl⟩) | (go_at_call_of 16 (Value.complex .f64 tr ti); refine (hyt _).mono ?_; rintro e w' ⟨rfl, rfl⟩) | (go_at_call_of 15 (Value.complex .f64 a1 a2); refine (hx0 _).mono ?_; rintro e w' ⟨rfl, rfl⟩) | (go_at_call_of 15 (Value.complex .f64 b1 b2); refine (hx1 _).mono ?_; rintro e w' ⟨rfl, rfl⟩) | (go_at_call_of 16 (Value.complex .f64 a1 a2); refine (hy0 _).mono ?_; rintro e w' ⟨rfl, rfl⟩) | (go_at_call_of 16 (Value.complex .f64 b1 b2); refine (hy1 _).mono ?_; rintro e w' ⟨rfl, rfl⟩))); go_meet; exact HD.out.put2 _)
              case rest =>
                clear d0 d1 d2 d3 k0 k1 z0 z1 z2 z3 HD
                obtain ⟨S2, hS2⟩ : ∃ S2, S2 = (s2 || (Yt == Y0)) := ⟨_, rfl⟩
                rw [← hS2] at hcut
                have HM2 : Hid (S2 = (s2 || (Yt == Y0))) := hS2
                clear hS2
                have k0 := hcut.sees.b0
                have k1 := hcut.sees.b1
                have d0 := hcut.c0
                have d1 := hcut.c1
                have d2 := hcut.c2
                have d3 := hcut.c3
                have z0 := hcut.fz 0
                have z1 := hcut.fz 1
                have z2 := hcut.fz 2
                have z3 := hcut.fz 3
                have HD : Hid (Seen w wc g gh gg gb gs l H (.complex .f64 a1 a2) (.complex .f64 b1 b2) S0 S1 S2 s3) := hcut
                clear hcut
                go_upto_region 36 with ((first | (go_at_call_of 15 (Value.complex .f64 tr ti); refine (hxt _).mono ?_; rintro e w' ⟨rfl, rfl⟩) | (go_at_call_of 16 (Value.complex .f64 tr ti); refine (hyt _).mono ?_; rintro e w' ⟨rfl, rfl⟩) | (go_at_call_of 15 (Value.complex .f64 a1 a2); refine (hx0 _).mono ?_; rintro e w' ⟨rfl, rfl⟩) | (go_at_call_of 15 (Value.complex .f64 b1 b2); refine (hx1 _).mono ?_; rintro e w' ⟨rfl, rfl⟩) | (go_at_call_of 16 (Value.complex .f64 a1 a2); refine (hy0 _).mono ?_; rintro e w' ⟨rfl, rfl⟩) | (go_at_call_of 16 (Value.complex .f64 b1 b2); refine (hy1 _).mono ?_; rintro e w' ⟨rfl, rfl⟩)))
                have HMM : Hid (S0 = (l.take (j + 1)).any (fun t => qx t == qx lo) ∧ S1 = (l.take (j + 1)).any (fun t => qx t == qx hi) ∧ S2 = (l.take (j + 1)).any (fun t => qy t == qy lo) ∧ (s3 || (Yt == Y1)) = (l.take (j + 1)).any (fun t => qy t == qy hi)) := by rw [HM0.out, HM1.out, HM2.out]; exact HM3
                clear HM0 HM1 HM2 HM3
                cases s3
                all_goals go_wp2_with ((first | (go_at_call_of 15 (Value.complex .f64 tr ti); refine (hxt _).mono ?_; rintro e w' ⟨rfl, rfl⟩) | (go_at_call_of 16 (Value.complex .f64 tr ti); refine (hyt _).mono ?_; rintro e w' ⟨rfl, rfl⟩) | (go_at_call_of 15 (Value.complex .f64 a1 a2); refine (hx0 _).mono ?_; rintro e w' ⟨rfl, rfl⟩) | (go_at_call_of 15 (Value.complex .f64 b1 b2); refine (hx1 _).mono ?_; rintro e w' ⟨rfl, rfl⟩) | (go_at_call_of 16 (Value.complex .f64 a1 a2); refine (hy0 _).mono ?_; rintro e w' ⟨rfl, rfl⟩) | (go_at_call_of 16 (Value.complex .f64 b1 b2); refine (hy1 _).mono ?_; rintro e w' ⟨rfl, rfl⟩)))
                all_goals go_roundw
                all_goals first
                  | (case measure => simp [intOf]; omega)
                  | (case rel => (repeat apply Exists.intro); exact ⟨⟨by omega, by go_num, HD.out.put3 _, HMM⟩, rfl⟩)
                  | (case rel => exact ⟨j + 1, S0, S1, S2, _, by omega, by go_num, HD.out.put3 _, HMM⟩)
        · have hjl' : ¬ (j : Int) < (l.length : Int) := by omega
          have hall : s0 = true ∧ s1 = true ∧ s2 = true ∧ s3 = true := by
            have e := HM.out
            rw [List.take_of_length_le (by omega)] at e
            obtain ⟨e0, e1, e2, e3⟩ := e
            obtain ⟨t0, q0, r0⟩ := HX.out.left
            obtain ⟨t1, q1, r1⟩ := HX.out.right
            obtain ⟨t2, q2, r2⟩ := HX.out.low
            obtain ⟨t3, q3, r3⟩ := HX.out.high
            exact ⟨e0.trans (List.any_eq_true.2 ⟨t0, q0, by rw [beq_iff_eq]; exact r0⟩), e1.trans (List.any_eq_true.2 ⟨t1, q1, by rw [beq_iff_eq]; exact r1⟩), e2.trans (List.any_eq_true.2 ⟨t2, q2, by rw [beq_iff_eq]; exact r2⟩), e3.trans (List.any_eq_true.2 ⟨t3, q3, by rw [beq_iff_eq]; exact r3⟩)⟩
          obtain ⟨rfl, rfl, rfl, rfl⟩ := hall
          clear HM HX
          by_cases hN : H.length = 2
          · have p1 : ((H.length : Int) == 2) = true := by rw [beq_iff_eq]; omega
            have HN : Hid (H.length = 2) := hN
            clear hN
            go_wp2_with fail
            go_loopw [21] (fun i wr => ∃ j : Nat, j ≤ l.length ∧ i = .int .i64 j ∧ Seen w wr g gh gg gb gs l H (.complex .f64 a1 a2) (.complex .f64 b1 b2) true true true true) (fun i _ => l.length - (intOf i).toNat)
            case atStart => exact ⟨0, Nat.zero_le _, rfl, hD⟩
            case round =>
              clear hD hjl hjl'
              obtain ⟨j4, hj4, rfl, hD⟩ := hrel
              by_cases hjl : j4 < l.length
              · have hjl' : (j4 : Int) < (l.length : Int) := by omega
                have htwo := (HH.out.two HN.out l[j4] (List.getElem_mem hjl)).2
                have q1 : 1 < H.length := by have := HN.out; omega
                have p2 : (1 : Int) < (H.length : Int) := by omega
                have p3 : (0 : Int) < (H.length : Int) := by omega
                have kl := at_cell hD.sees.atL j4 hjl
                have kh0 := at_cell hD.sees.atH 0 (by omega)
                have kh1 := at_cell hD.sees.atH 1 q1
                have hxt := fun w => qX_any l[j4] w
                have hyt := fun w => qY_any l[j4] w
                have hx0 := fun w => qX_any (H[0]'(by omega)) w
                have hy0 := fun w => qY_any (H[0]'(by omega)) w
                have hx1 := fun w => qX_any H[1] w
                have hy1 := fun w => qY_any H[1] w
                have hin : (qx (H[0]'(by omega)) ≤ qx l[j4] ∧ (qx l[j4] = qx (H[0]'(by omega)) → qy (H[0]'(by omega)) ≤ qy l[j4])) ∧ (qx l[j4] ≤ qx H[1] ∧ (qx l[j4] = qx H[1] → qy l[j4] ≤ qy H[1])) := by
                  obtain ⟨h1, h2⟩ := htwo
                  constructor
                  · rcases h1 with e | e
                    · rw [← e]; omega
                    · unfold lt2 at e; omega
                  · rcases h2 with e | e
                    · rw [← e]; omega
                    · unfold lt2 at e; omega
                obtain ⟨tr, ti, ht⟩ : ∃ tr ti, qe l[j4] = .complex .f64 tr ti := ⟨_, _, rfl⟩
                obtain ⟨yr, yi, hy⟩ : ∃ yr yi, qe (H[0]'(by omega)) = .complex .f64 yr yi := ⟨_, _, rfl⟩
                obtain ⟨vr, vi, hv⟩ : ∃ vr vi, qe H[1] = .complex .f64 vr vi := ⟨_, _, rfl⟩
                rw [ht] at kl hxt hyt
                rw [hy] at kh0 hx0 hy0
                rw [hv] at kh1 hx1 hy1
                generalize qx l[j4] = Xt at hin hxt
                generalize qy l[j4] = Yt at hin hyt
                generalize qx (H[0]'(by omega)) = X0 at hin hx0
                generalize qy (H[0]'(by omega)) = Y0 at hin hy0
                generalize qx H[1] = X1 at hin hx1
                generalize qy H[1] = Y1 at hin hy1
                have HD : Hid (Seen w wr g gh gg gb gs l H (.complex .f64 a1 a2) (.complex .f64 b1 b2) true true true true) := hD
                clear ht hy hv htwo hD
                have m1 : decide (Xt > X1) = false := by rw [decide_eq_false_iff_not]; omega
                have m1' : decide (X1 < Xt) = false := by rw [decide_eq_false_iff_not]; omega
                have m2 : decide (Xt < X0) = false := by rw [decide_eq_false_iff_not]; omega
                have m3 : ∃ c1, (Xt == X1) = c1 ∧ (c1 = true → decide (Yt > Y1) = false ∧ decide (Y1 < Yt) = false) := ⟨_, rfl, fun e => by rw [beq_iff_eq] at e; constructor <;> (rw [decide_eq_false_iff_not]; omega)⟩
                have m4 : ∃ c2, (Xt == X0) = c2 ∧ (c2 = true → decide (Yt < Y0) = false) := ⟨_, rfl, fun e => by rw [beq_iff_eq] at e; rw [decide_eq_false_iff_not]; omega⟩
                obtain ⟨c1, m3, m5⟩ := m3
                obtain ⟨c2, m4, m6⟩ := m4
                clear hin
                go_wp2_with fail
                cases c1 <;> cases c2
                all_goals as_aux_lemma =>
                  first
                    | (have m5' := (m5 rfl).1; have m5'' := (m5 rfl).2; have m6' := m6 rfl; clear m5 m6)
                    | (have m5' := (m5 rfl).1; have m5'' := (m5 rfl).2; clear m5 m6)
                    | (have m6' := m6 rfl; clear m5 m6)
                    | clear m5 m6
                  go_big_quiet ((first | (go_at_call_of 15 (Value.complex .f64 tr ti); first | exact quiet_again (hxt _) | exact Calls.quiet_of_same (hxt _)) | (go_at_call_of 16 (Value.complex .f64 tr ti); first | exact quiet_again (hyt _) | exact Calls.quiet_of_same (hyt _)) | (go_at_call_of 15 (Value.complex .f64 yr yi); first | exact quiet_again (hx0 _) | exact Calls.quiet_of_same (hx0 _)) | (go_at_call_of 15 (Value.complex .f64 vr vi); first | exact quiet_again (hx1 _) | exact Calls.quiet_of_same (hx1 _)) | (go_at_call_of 16 (Value.complex .f64 yr yi); first | exact quiet_again (hy0 _) | exact Calls.quiet_of_same (hy0 _)) | (go_at_call_of 16 (Value.complex .f64 vr vi); first | exact quiet_again (hy1 _) | exact Calls.quiet_of_same (hy1 _))))
                  go_wp2
                  go_roundw
                  case rel => exact ⟨j4 + 1, by omega, by go_num, HD.out.drewN _⟩
                  case measure => simp [intOf]; omega
              · have hjl' : ¬ (j4 : Int) < (l.length : Int) := by omega
                have d0 := hD.c0
                have d1 := hD.c1
                have d2 := hD.c2
                have d3 := hD.c3
                have HB : Hid (Below w.heap.size w wr) := hD.sees.below
                clear hD
                go_wp2
                go_ret
                exact ⟨rfl, HB.out⟩
          · have p1 : ((H.length : Int) == 2) = false := by rw [beq_eq_false_iff_ne]; omega
            have d0 := hD.c0
            have d1 := hD.c1
            have d2 := hD.c2
            have d3 := hD.c3
            have HB : Hid (Below w.heap.size w wr) := hD.sees.below
            clear hD hN
            go_wp2
            go_ret
            exact ⟨rfl, HB.out⟩
end Go.Proofs.Ytnlkalbkjocoaaa
