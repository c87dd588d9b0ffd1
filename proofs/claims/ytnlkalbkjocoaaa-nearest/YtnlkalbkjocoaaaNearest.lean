/-
  The law Nearest.
-/
import Derived.Test.YtnlkalbkjocoaaaTold2
import Derived.Test.YtnlkalbkjocoaaaEqT
import Derived.Deep.DeepCutAuto
namespace Go.Proofs.Ytnlkalbkjocoaaa
open Go.Shelf Go.RowKit

theorem tri_letters (x y z : Int) : ∃ u1 u2 v1 v2, qe (mkQ (triX x + triK z) (triX y)) = .complex .f64 u1 u2 ∧ qe (mkQ (triX x) (triX y + triK z)) = .complex .f64 v1 v2 ∧ qe (triHi x y z) = .complex .f64 u1 v2 := by
  have a1 := triX_bd x
  have a2 := triX_bd y
  have a3 := triK_bd z
  unfold triHi
  rw [qe_mk _ _ (by omega) (by omega), qe_mk _ _ (by omega) (by omega), qe_mk _ _ (by omega) (by omega)]
  exact ⟨_, _, _, _, rfl, rfl, rfl⟩

def LawRel (w : World) (p : Q) (bm bf bt : Nat) (wr : World) : Prop := ∃ bv r g V, LawAt w wr p bm bf bt bv r g V

/-- What the walk wants behind Put. -/
def NewFacts (w : World) (p : Q) (bm bf bt i bl : Nat) (x y z : Int) (w5 : World) : Prop :=
  w5.cell? ⟨bt, i, none⟩ = some (.bool false) ∧ w5.frozen? ⟨bt, i, none⟩ = false ∧
  (w5.setCell ⟨bt, i, none⟩ (.bool true)).cell? ⟨bl, 0, none⟩ = some (qe (mkQ (triX x) (triX y))) ∧ (w5.setCell ⟨bt, i, none⟩ (.bool true)).cell? ⟨bl, 1, none⟩ = some (qe (mkQ (triX x + triK z) (triX y))) ∧ (w5.setCell ⟨bt, i, none⟩ (.bool true)).cell? ⟨bl, 2, none⟩ = some (qe (mkQ (triX x) (triX y + triK z))) ∧
  ∀ w6, Below (w5.setCell ⟨bt, i, none⟩ (.bool true)).heap.size (w5.setCell ⟨bt, i, none⟩ (.bool true)).drew w6 →
    w6.cell? ⟨bf, i, none⟩ = some (.int .i64 0) ∧ w6.frozen? ⟨bf, i, none⟩ = false ∧
    w6.cell? ⟨bl, 0, none⟩ = some (qe (mkQ (triX x) (triX y))) ∧ w6.cell? ⟨bl, 1, none⟩ = some (qe (mkQ (triX x + triK z) (triX y))) ∧ w6.cell? ⟨bl, 2, none⟩ = some (qe (mkQ (triX x) (triX y + triK z))) ∧
    (∀ u, (w6.setCell ⟨bf, i, none⟩ u).cell? ⟨bl, 0, none⟩ = some (qe (mkQ (triX x) (triX y)))) ∧ (∀ u, (w6.setCell ⟨bf, i, none⟩ u).cell? ⟨bl, 1, none⟩ = some (qe (mkQ (triX x + triK z) (triX y)))) ∧ (∀ u, (w6.setCell ⟨bf, i, none⟩ u).cell? ⟨bl, 2, none⟩ = some (qe (mkQ (triX x) (triX y + triK z)))) ∧
    LawRel w p bm bf bt (w6.setCell ⟨bf, i, none⟩ (.int .i64 (lawD p (mkQ (triX x) (triX y)) (triHi x y z))))

theorem new_facts {w w4 w5 : World} {p : Q} {bm bf bt bv i bl : Nat} {r : Option Nat} {g : Nat → Option Nat} {V : Nat → Q × Q} {x y z : Int} (h : LawAt w w4 p bm bf bt bv r g V) (hi : i < 30) (hg : g i = none) (hP : PutAns (triL x y z) w4 w5 bm i g V)
    (hl : At w4 bl 0 (triL x y z)) (hbl : bl < w4.heap.size) (h1 : bl ≠ bm) (h2 : bl ≠ bt) (h3 : bl ≠ bf) : NewFacts w p bm bf bt i bl x y z w5 := by
  have hm := law_mid h hi hg hP hl hbl h1
  have hb5 : bl < w5.heap.size := by obtain ⟨s, bv', r', B, -, -, hK⟩ := hP; exact Nat.lt_of_lt_of_le hbl hK.size
  have key : ∀ (w : World) (b j o : Nat) (v : Value), bl ≠ b → (w.setCell ⟨b, j, none⟩ v).cell? ⟨bl, o, none⟩ = w.cell? ⟨bl, o, none⟩ := fun w b j o v hn => World.cell?_setCell_other _ _ _ _ (by intro e; simp only [Addr.mk.injEq] at e; omega)
  have k0 := hm.2.2.1 0 (by show 0 < 3; omega)
  have k1 := hm.2.2.1 1 (by show 1 < 3; omega)
  have k2 := hm.2.2.1 2 (by show 2 < 3; omega)
  refine ⟨hm.1, hm.2.1, (key _ _ _ _ _ h2).trans k0, (key _ _ _ _ _ h2).trans k1, (key _ _ _ _ _ h2).trans k2, fun w6 h6 => ?_⟩
  have hsz : (w5.setCell ⟨bt, i, none⟩ (.bool true)).heap.size = w5.heap.size := by simp [World.setCell]
  rw [hsz] at h6
  obtain ⟨hf, s, bv', r', V', hL⟩ := law_put h hi hP hg h6
  have q : ∀ o, w6.cell? ⟨bl, o, none⟩ = w5.cell? ⟨bl, o, none⟩ := fun o => (h6.cell (p := ⟨bl, o, none⟩) hb5).trans (key _ _ _ _ _ h2)
  exact ⟨hf.1, hf.2, (q 0).trans k0, (q 1).trans k1, (q 2).trans k2, fun u => (key _ _ _ _ _ h3).trans ((q 0).trans k0), fun u => (key _ _ _ _ _ h3).trans ((q 1).trans k1), fun u => (key _ _ _ _ _ h3).trans ((q 2).trans k2), bv', r', _, V', hL⟩

theorem law_start {w w1 w2 : World} {p : Q} (hb1 : Below w.heap.size w w1) (hM : MapHas w2 (w1.heap.size + 2) w1.heap.size none (fun _ => none) (fun _ => (q0, q0))) (hb2 : Below w1.heap.size w1 w2) :
    LawRel w p (w1.heap.size + 2) w2.heap.size (w2.heap.size + 1) ((w2.alloc (.cells (farC p (fun _ => none) (fun _ => (q0, q0))).toArray 54)).alloc (.cells (thereC (fun _ => none)).toArray 55)) := by
  have s1 := hb1.size
  have s2 := hb2.size
  have b2 : Below w.heap.size w w2 := hb1.trans (hb2.mono s1)
  refine ⟨w1.heap.size, none, fun _ => none, fun _ => (q0, q0), hM.below (((Below.refl _ _).alloc (Nat.le_refl _) _).alloc (by simp) _), heap_old _ _ (by simp) (heap_last _ _ _ rfl), heap_last _ _ _ (by simp), fun _ _ => rfl, (b2.alloc (by omega) _).alloc (by simp; omega) _, by omega, by omega, by omega⟩

theorem at_point (x y : Int) (hx : i64B x) (hy : i64B y) (w : World) :
    Calls Try.prog 10 #[.int .i64 x, .int .i64 y, .int .i64 400] w fun e w' => e = .returned (qe (mkQ (pickI x 801 - 400) (pickI y 801 - 400))) ∧ w' = w := by
  have h := at_any x y 400 (by omega) (by omega) hx.1 hx.2 hy.1 hy.2 w
  have a1 := pickI_bd x 801 (by omega)
  have a2 := pickI_bd y 801 (by omega)
  rw [qe_mk _ _ (by omega) (by omega)]
  exact h
theorem pick_nat (c n : Int) (hc : i64B c) (hn : 0 < n) (hn' : n < 1000) (w : World) :
    Calls Try.prog 11 #[.int .i64 c, .int .i64 n] w fun e w' => e = .returned (.int .i64 ((pickI c n).toNat : Int)) ∧ w' = w := by
  have h := pick_any c n (by omega) (by omega) hc.1 hc.2 w
  have := pickI_bd c n (by omega)
  rw [Int.toNat_of_nonneg this.1]; exact h

/-- What the law's second loop keeps. -/
structure Telling (wc : World) (al : List Nat) (j : Nat) (wr : World) : Prop where
  told : wr.heap[wc.heap.size]? = some (.cells (toldC (al.take j)).toArray 55)
  below : Below wc.heap.size wc wr

theorem tell_start (wc : World) (al : List Nat) : Telling wc al 0 (wc.alloc (.cells (toldC []).toArray 55)) :=
  ⟨by rw [List.take_zero]; exact heap_alloc_last _ _, (Below.refl _ _).alloc (Nat.le_refl _) _⟩

theorem tell_facts {w wc wr : World} {p : Q} {bm bf bt bv : Nat} {r : Option Nat} {g : Nat → Option Nat} {V : Nat → Q × Q} {al : List Nat} {j : Nat} (hN : AllOk p g V al) (hL : LawAt w wc p bm bf bt bv r g V) (hT : Telling wc al j wr) (hj : j < al.length) :
    al[j] < 30 ∧ wr.cell? ⟨bt, al[j], none⟩ = some (.bool true) ∧ wr.cell? ⟨wc.heap.size, al[j], none⟩ = some (.bool false) ∧ wr.frozen? ⟨wc.heap.size, al[j], none⟩ = false ∧ ∀ n, Telling wc al (j + 1) ((wr.setCell ⟨wc.heap.size, al[j], none⟩ (.bool true)).drewN n) := by
  have hm := (hN.mem al[j]).1 (List.getElem_mem _)
  have h30 : al[j] < 30 := by
    by_cases h : 30 ≤ al[j]
    · rw [hL.out _ h] at hm; cases hm
    · omega
  have ht := (there_cell ((hT.below.block _ hL.lt_t).trans hL.there) al[j] h30).1
  rw [hm] at ht
  have hd := told_cell hT.told al[j] h30
  have hn : al[j] ∉ al.take j := by
    intro h
    obtain ⟨i, hi, e⟩ := List.mem_take_iff_getElem.1 h
    have := (List.getElem_inj hN.nodup).1 e
    omega
  rw [decide_eq_false hn] at hd
  refine ⟨h30, ht, hd.1, hd.2, fun n => ⟨?_, below_drewN (hT.below.setCell (p := ⟨wc.heap.size, al[j], none⟩) (Nat.le_refl _) _) n⟩⟩
  have := told_step hT.told al[j]
  rw [← List.take_succ_eq_append_getElem hj] at this
  exact this

/-- What the walk wants of the one told before. -/
def PrevFacts (p : Q) (V : Nat → Q × Q) (bf g8 : Nat) (wr ws : World) (a jj : Nat) : Prop :=
  ∃ b : Nat, b < 30 ∧ ws.cell? ⟨g8, jj, none⟩ = some (.int .i64 (b : Int)) ∧ ws.cell? ⟨bf, b, none⟩ = some (.int .i64 (farF p V b)) ∧ ws.cell? ⟨bf, a, none⟩ = some (.int .i64 (farF p V a)) ∧ (farF p V b < farF p V a ∨ (farF p V b = farF p V a ∧ b < a)) ∧ wr.heap.size ≤ ws.heap.size

theorem prev_facts {w wc wr : World} {p : Q} {bm bf bt bv g8 a : Nat} {r : Option Nat} {g : Nat → Option Nat} {V : Nat → Q × Q} {al : List Nat} {j jj : Nat} (hN : AllOk p g V al) (hL : LawAt w wc p bm bf bt bv r g V) (hT : Telling wc al j wr) (hg8 : g8 < wc.heap.size) (hc : ∀ j (hj : j < al.length), wc.cell? ⟨g8, j, none⟩ = some (.int .i64 (al[j] : Int)))
    (hj : j < al.length) (ha : a = al[j]) (e : j = jj + 1) : PrevFacts p V bf g8 wr (wr.setCell ⟨wc.heap.size, a, none⟩ (.bool true)) a jj := by
  subst e
  subst ha
  have is : ∀ i (h : i < al.length), al[i] < 30 ∧ (g al[i]).isSome = true := fun i h => by
    have hm := (hN.mem al[i]).1 (List.getElem_mem _)
    refine ⟨?_, hm⟩
    by_cases h' : 30 ≤ al[i]
    · rw [hL.out _ h'] at hm; cases hm
    · omega
  have hf := (hT.below.block _ hL.lt_f).trans hL.far
  have key : ∀ b o, b < wc.heap.size → (wr.setCell ⟨wc.heap.size, al[jj + 1], none⟩ (.bool true)).cell? ⟨b, o, none⟩ = wr.cell? ⟨b, o, none⟩ := fun b o hb => World.cell?_setCell_other _ _ _ _ (by intro e; simp only [Addr.mk.injEq] at e; omega)
  have b1 := is jj (by omega)
  have b2 := is (jj + 1) hj
  have f1 := (far_cell hf al[jj] b1.1).1
  have f2 := (far_cell hf al[jj + 1] b2.1).1
  rw [b1.2, if_pos rfl] at f1
  rw [b2.2, if_pos rfl] at f2
  refine ⟨al[jj], b1.1, (key _ _ hg8).trans ((hT.below.cell (p := ⟨g8, jj, none⟩) hg8).trans (hc jj (by omega))), (key _ _ hL.lt_f).trans f1, ?_, ?_, by simp [World.setCell]⟩
  · exact (key _ _ hL.lt_f).trans f2
  · exact hN.rise jj hj

set_option maxRecDepth 100000 in
set_option maxHeartbeats 4000000 in
theorem law_any (st : List Stp) (A : Option Addr) (b off cp : Nat) (x y n : Int) (w : World) (hst : ∀ k (h : k < st.length), A = some ⟨b, off, none⟩ ∧ StpAt w b (off + k * 5) st[k]) (hx : i64B x) (hy : i64B y) (hn : i64B n) (hlen : st.length ≤ 9223372036854775807) :
    Calls Try.prog 6 #[.slice A st.length cp, .int .i64 x, .int .i64 y, .int .i64 n] w fun e w' => e = .returned (.bool true) ∧ Below w.heap.size w w' := by
  have h1 := begin_any w
  have h2 := fun w => new_any w
  have h3 := fun w => at_point x y hx hy w
  obtain ⟨p, hp⟩ : ∃ p, p = mkQ (pickI x 801 - 400) (pickI y 801 - 400) := ⟨_, rfl⟩
  rw [← hp] at h3
  clear hp hx hy
  obtain ⟨p1, p2, hpe⟩ : ∃ p1 p2, qe p = .complex .f64 p1 p2 := ⟨_, _, rfl⟩
  rw [hpe] at h3
  have HPE : Hid (qe p = .complex .f64 p1 p2) := hpe
  clear hpe
  go_enter Try.func6, Try.ntmps6
  go_wp2_with fail
  refine h1.mono ?_
  rintro e w1 ⟨rfl, hb1⟩
  go_wp2_with fail
  refine (h2 _).mono ?_
  rintro e w2 ⟨rfl, ⟨hM2, -⟩, hb2⟩
  go_wp2_with fail
  refine (h3 _).mono ?_
  rintro e w3 ⟨rfl, rfl⟩
  go_wp2_with fail
  have hL0 := law_start (p := p) hb1 hM2 hb2
  generalize hbm : w1.heap.size + 2 = bm at *
  clear hM2
  go_loopw [14] (fun i wr => ∃ k : Nat, k ≤ st.length ∧ i = .int .i64 k ∧ LawRel w p bm w2.heap.size (w2.heap.size + 1) wr) (fun i _ => st.length - (intOf i).toNat)
  case atStart => exact ⟨0, Nat.zero_le _, rfl, hL0⟩
  case round =>
    clear hL0
    obtain ⟨k, hk, rfl, bv, r, g, V, hL⟩ := hrel
    generalize w2.heap.size = bf at *
    generalize hbt : bf + 1 = bt at *
    by_cases hlt : k < st.length
    · have hlt' : (k : Int) < (st.length : Int) := by omega
      have hk64 : IntKind.i64.wrap ((k : Int) + 1) = (k : Int) + 1 := by rw [IntKind.wrap_i64]; omega
      obtain ⟨rfl, hS0⟩ := hst k hlt
      have hS := hS0.kept hL.below
      have c0 := hS.c0
      have c1 := hS.c1
      have c2 := hS.c2
      have c3 := hS.c3
      have c4 := hS.c4
      obtain ⟨i, hi⟩ : ∃ i, i = (pickI st[k].id 30).toNat := ⟨_, rfl⟩
      have hi0' : (0 : Int) ≤ (i : Int) := by omega
      have hi30 : i < 30 := by have := pickI_bd st[k].id 30 (by omega); omega
      have hi30' : (i : Int) < 30 := by omega
      have d1 := fun w => pick_nat st[k].id 30 hS.b1 (by omega) (by omega) w
      rw [← hi] at d1
      have d2 := fun w => small_any st[k].kd st[k].id st[k].x st[k].y st[k].z hS.b2 hS.b3 hS.b4 w
      generalize hkd : st[k].kd = kd at c0 d2
      generalize hid : st[k].id = id at c1 d1 d2
      generalize hxx : st[k].x = sx at c2 d2
      generalize hyy : st[k].y = sy at c3 d2
      generalize hzz : st[k].z = sz at c4 d2
      clear hkd hxx hyy hzz hS hS0 hi hid
      have hl3 : (triL sx sy sz).length = 3 := rfl
      cases hg : g i with
      | some s =>
        have d3 := fun (w' : World) (hb : Below wr.heap.size wr w') bl cap (hl : At w' bl 0 (triL sx sy sz)) => put_there (triL sx sy sz) bl 0 cap w' bm bv i s r g (hL.go hb).map.map (by omega) hg hl (by rw [hl3]; omega) (by rw [hl3]; omega)
        rw [hl3] at d3
        have HL : Hid (LawAt w wr p bm bf bt bv r g V) := hL
        clear hL hst
        go_wp2_with (first | (go_at_call 11; refine (d1 _).mono ?_; rintro e w' ⟨rfl, rfl⟩) | (go_at_call 22; refine (d2 _).mono ?_; rintro e w4 ⟨rfl, hA4, hbl4, hb4⟩) | (go_at_call 23; refine (d3 _ hb4 _ _ hA4).mono ?_; rintro e w5 ⟨rfl, hb5⟩; have hb45 := hb4.trans (hb5.mono hb4.size); have ht := (there_cell (HL.out.go hb45).there i hi30).1; rw [hg] at ht; simp only [Option.isSome_some] at ht))
        exact ⟨⟨k + 1, by omega, by go_num, _, _, _, _, HL.out.go hb45⟩, by simp [intOf]; omega⟩
      | none =>
        have d3 := fun (w' : World) (hb : Below wr.heap.size wr w') bl (hl : At w' bl 0 (triL sx sy sz)) (hbl : bl < w'.heap.size) => put_new (triL sx sy sz) bl 0 3 w' bm bv i r g V (hL.go hb).map (by omega) hg hl hbl (by rw [hl3]; omega) (by rw [hl3]; omega) (by rw [hl3]; omega)
        rw [hl3] at d3
        have d4 := fun w => distance_any p (mkQ (triX sx) (triX sy)) (triHi sx sy sz) w
        have hnf : ∀ w4 w5 : World, Below wr.heap.size wr w4 → At w4 (wr.heap.size + 1) 0 (triL sx sy sz) → wr.heap.size + 1 < w4.heap.size → PutAns (triL sx sy sz) w4 w5 bm i g V → NewFacts w p bm bf bt i (wr.heap.size + 1) sx sy sz w5 := fun w4 w5 q1 q2 q3 q4 => new_facts (hL.go q1) hi30 hg q4 q2 q3 (by have := hL.map.map.lt; omega) (by have := hL.lt_t; omega) (by have := hL.lt_f; omega)
        obtain ⟨a1, a2, ha⟩ : ∃ a1 a2, qe (mkQ (triX sx) (triX sy)) = .complex .f64 a1 a2 := ⟨_, _, rfl⟩
        obtain ⟨u1, u2, v1, v2, hu, hv, hh⟩ := tri_letters sx sy sz
        unfold NewFacts at hnf
        rw [ha, hu, hv] at hnf
        rw [HPE.out, ha, hh] at d4
        generalize lawD p (mkQ (triX sx) (triX sy)) (triHi sx sy sz) = dd at hnf d4
        clear ha hu hv hh hL hst
        go_wp2_with (first | (go_at_call 11; refine (d1 _).mono ?_; rintro e w' ⟨rfl, rfl⟩) | (go_at_call 22; refine (d2 _).mono ?_; rintro e w4 ⟨rfl, hA4, hbl4, hb4⟩) | (go_at_call 23; refine (d3 _ hb4 _ hA4 hbl4).mono ?_; rintro e w5 ⟨rfl, hP⟩; obtain ⟨ht, hft, k0, k1, k2, hN⟩ := hnf _ _ hb4 hA4 hbl4 hP))
        go_region_held3 (fun ws => ws.cell? ⟨w'.heap.size + 1, 0, none⟩ = some (.complex .f64 a1 a2) ∧ ws.cell? ⟨w'.heap.size + 1, 1, none⟩ = some (.complex .f64 u1 u2) ∧ ws.cell? ⟨w'.heap.size + 1, 2, none⟩ = some (.complex .f64 v1 v2)) (go_keep) (first | (go_at_call 24; refine (d4 _).mono ?_; rintro e w6 ⟨rfl, hb6⟩; obtain ⟨hq1, hq2, hq3, hq4, hq5, hq6, hq7, hq8, hq9⟩ := hN _ hb6))
        all_goals go_wp2
        all_goals exact ⟨⟨k + 1, by omega, by go_num, hq9⟩, by simp [intOf]; omega⟩
    · have hlt' : ¬ (k : Int) < (st.length : Int) := by omega
      have hN := allL_ok hL.map p hL.out
      obtain ⟨kk, hkk⟩ : ∃ kk, kk = (pickI n 31).toNat := ⟨_, rfl⟩
      have hkk31 : kk ≤ 30 := by have := pickI_bd n 31 (by omega); omega
      have d1 := fun w => pick_nat n 31 hn (by omega) (by omega) w
      rw [← hkk] at d1
      have hcm0 : wr.cell? ⟨bm, 0, none⟩ = some (.pointer (some ⟨bv, 0, none⟩)) := hL.map.map.ptr
      have d2 := fun (w' : World) (hb : Below wr.heap.size wr w') n hn => near_map (hL.go hb).map p n hn
      have d3 := fun (w' : World) (hb : Below wr.heap.size wr w') => count_map (hL.go hb).map p
      rw [HPE.out] at d2
      have hcmb : ∀ w' : World, Below wr.heap.size wr w' → w'.cell? ⟨bm, 0, none⟩ = some (.pointer (some ⟨bv, 0, none⟩)) := fun w' hb => (hb.cell (p := ⟨bm, 0, none⟩) hL.map.map.lt).trans hcm0
      generalize allL p g V = al at hN d2 d3
      have HL : Hid (LawAt w wr p bm bf bt bv r g V) := hL
      have HN : Hid (AllOk p g V al) := hN
      have hlen30 := hN.len
      clear hL hst hkk hn hN
      go_wp2_with fail
      refine (d1 _).mono ?_
      rintro e w' ⟨rfl, hw'⟩
      subst hw'
      go_wp2_with fail
      refine (d2 _ (Below.refl _ _) kk (by omega)).mono ?_
      rintro e w7 ⟨v7, rfl, hO7, hb7⟩
      have hc7 := hcmb _ hb7
      obtain ⟨m1, A7, g7, cap7, hm1, rfl, hA7, hcap7, hcell7⟩ := own_take hO7
      have HM1 : Hid (m1 = min kk al.length) := hm1
      clear hO7 hm1
      go_wp2_with fail
      have d2' := d2 _ hb7 100 (by omega)
      refine d2'.mono ?_
      rintro e w8 ⟨v8, rfl, hO8, hb8⟩
      rw [List.take_of_length_le (by omega)] at hO8
      obtain ⟨A8, g8, cap8, rfl, hA8, hcap8, hcell8⟩ := own_list hO8
      have hb78 : Below w'.heap.size w' w8 := hb7.trans (hb8.mono hb7.size)
      have hc8 := hcmb _ hb78
      have d3' := d3 _ hb78
      have hcell7' : ∀ j (_ : j < m1) (hj : j < al.length), w8.cell? ⟨g7, j, none⟩ = some (.int .i64 (al[j] : Int)) := fun j q1 q2 => (hb8.cell (p := ⟨g7, j, none⟩) (hA7 (by omega)).2).trans (hcell7 j q1 q2)
      have hA7' : 0 < m1 → A7 = some ⟨g7, 0, none⟩ ∧ g7 < w8.heap.size := fun q => ⟨(hA7 q).1, Nat.lt_of_lt_of_le (hA7 q).2 hb8.size⟩
      have HL8 : Hid (LawAt w w8 p bm bf bt bv r g V) := HL.out.go hb78
      clear d2 d2' d3 hcmb hb8 hb7 hcell7 hA7 hO8 d1 h1 h2 h3 HL hb78 hb1 hb2 hc7 hcm0
      have f1 : ¬ (kk : Int) < (m1 : Int) := by have := HM1.out; omega
      have f2 : ((m1 : Int) < (kk : Int)) → ¬ (m1 : Int) < (al.length : Int) := by have := HM1.out; omega
      have hm1l : m1 ≤ al.length := by have := HM1.out; omega
      go_upto_region 22 with (fail)
      go_cut [152] (fun u wx => u = .bool false ∧ Below w8.heap.size w8 wx)
      case first =>
        by_cases f3 : (m1 : Int) < (kk : Int)
        · replace f2 := f2 f3
          go_wp2_with (go_at_call 26; refine d3'.mono ?_; rintro e w9 ⟨rfl, hb9⟩)
          go_meet
          exact ⟨by have e1 : ¬ kk < m1 := by omega
                    have e2 : ¬ m1 < al.length ∨ True := .inr trivial
                    simp [e1]; try omega, hb9⟩
        · clear f2
          go_wp2_with (go_at_call 26; refine d3'.mono ?_; rintro e w9 ⟨rfl, hb9⟩)
          go_meet
          exact ⟨by have e1 : ¬ kk < m1 := by omega
                    have e2 : ¬ m1 < al.length ∨ True := .inr trivial
                    simp [e1]; try omega, hb9⟩
      case rest =>
        obtain ⟨rfl, hb9⟩ := hcut
        obtain ⟨w9, rfl⟩ : ∃ w9, w9 = wc := ⟨_, rfl⟩
        have HLc : Hid (LawAt w w9 p bm bf bt bv r g V) := HL8.out.go hb9
        have hcell7c : ∀ j (_ : j < m1) (hj : j < al.length), w9.cell? ⟨g7, j, none⟩ = some (.int .i64 (al[j] : Int)) := fun j q1 q2 => (hb9.cell (p := ⟨g7, j, none⟩) (hA7' (by omega)).2).trans (hcell7' j q1 q2)
        have hcell8c : ∀ j (hj : j < al.length), w9.cell? ⟨g8, j, none⟩ = some (.int .i64 (al[j] : Int)) := fun j q2 => (hb9.cell (p := ⟨g8, j, none⟩) (hA8 (by omega)).2).trans (hcell8 j q2)
        have hA7c : 0 < m1 → A7 = some ⟨g7, 0, none⟩ ∧ g7 < w9.heap.size := fun q => ⟨(hA7' q).1, Nat.lt_of_lt_of_le (hA7' q).2 hb9.size⟩
        have hA8c : 0 < al.length → A8 = some ⟨g8, 0, none⟩ ∧ g8 < w9.heap.size := fun q => ⟨(hA8 q).1, Nat.lt_of_lt_of_le (hA8 q).2 hb9.size⟩
        clear hcell7' hcell8 hA7' hA8 hb9 HL8 d3' hc8 f1 f2 hlt' hlt
        go_wp2_with fail
        have hT0 := tell_start w9 al
        go_loopw [24] (fun i wt => ∃ j : Nat, j ≤ al.length ∧ i = .int .i64 j ∧ Telling w9 al j wt) (fun i _ => al.length - (intOf i).toNat)
        case atStart => exact ⟨0, Nat.zero_le _, rfl, hT0⟩
        case round =>
          clear hT0
          obtain ⟨j, hj, rfl, hT⟩ := hrel
          by_cases hjl : j < al.length
          · have hjl' : (j : Int) < (al.length : Int) := by omega
            have hj64 : IntKind.i64.wrap ((j : Int) + 1) = (j : Int) + 1 := by rw [IntKind.wrap_i64]; omega
            obtain ⟨rfl, hg8⟩ := hA8c (by omega)
            have hTF := tell_facts HN.out HLc.out hT hjl
            obtain ⟨a, ha⟩ : ∃ a, a = al[j] := ⟨_, rfl⟩
            have c8 : wr.cell? ⟨g8, j, none⟩ = some (.int .i64 (a : Int)) := by rw [ha]; exact (hT.below.cell (p := ⟨g8, j, none⟩) hg8).trans (hcell8c j hjl)
            have c7 : j < m1 → wr.cell? ⟨g7, j, none⟩ = some (.int .i64 (a : Int)) := fun q => by rw [ha]; exact (hT.below.cell (p := ⟨g7, j, none⟩) (hA7c (by omega)).2).trans (hcell7c j q hjl)
            rw [← ha] at hTF
            have HA : Hid (a = al[j]) := ha
            clear ha
            obtain ⟨ha30, ht, hd, hdf, hstep⟩ := hTF
            have ha0' : (0 : Int) ≤ (a : Int) := by omega
            have ha30' : (a : Int) < 30 := by omega
            have ha0'' : ¬ (a : Int) < 0 := by omega
            have ha30'' : ¬ (30 : Int) ≤ (a : Int) := by omega
            have hA7d : 0 < m1 → A7 = some ⟨g7, 0, none⟩ := fun q => (hA7c q).1
            go_upto_region 29 with (fail)
            go_cut [193] (fun u wx => u = .bool false ∧ wx = wr)
            case first =>
              by_cases q7 : j < m1
              · have q7' : (j : Int) < (m1 : Int) := by omega
                have c7' := c7 q7
                obtain rfl := hA7d (by omega)
                clear c7 hA7d
                go_wp2
                go_meet
                exact ⟨rfl, rfl⟩
              · have q7' : ¬ (j : Int) < (m1 : Int) := by omega
                clear c7 hA7d
                go_wp2
                go_meet
                exact ⟨rfl, rfl⟩
            case rest =>
              obtain ⟨rfl, rfl⟩ := hcut
              clear c7 hA7d hA7c hcell7c
              have hpre : ∀ jj, j = jj + 1 → PrevFacts p V bf g8 wc (wc.setCell ⟨w9.heap.size, a, none⟩ (.bool true)) a jj := fun jj e => prev_facts HN.out HLc.out hT hg8 hcell8c hjl HA.out e
              clear hcell8c
              cases j with
              | zero =>
                clear hpre
                go_wp2_with fail
                go_big_quiet (fail)
                go_wp2
                exact ⟨⟨0 + 1, by omega, by go_num, hstep _⟩, by simp [intOf]; omega⟩
              | succ jj =>
                obtain ⟨b', hb30, e8, eb, ea, hlt2, -⟩ := hpre jj rfl
                clear hpre
                generalize farF p V b' = Fb at *
                generalize farF p V a = Fa at *
                have s1 : (0 : Int) < (jj : Int) + 1 := by omega
                have s2 : (jj : Int) < (al.length : Int) := by omega
                have s3 : (b' : Int) < 30 := by omega
                have s4 : IntKind.i64.wrap ((jj : Int) + 1 - 1) = (jj : Int) := by rw [IntKind.wrap_i64]; omega
                rcases hlt2 with hF | ⟨hF, hab⟩
                · have g1 : decide (Fa < Fb) = false := decide_eq_false (by omega)
                  have g2 : decide (Fb = Fa) = false := decide_eq_false (by omega)
                  have g2' : (Fb == Fa) = false := by rw [beq_eq_false_iff_ne]; omega
                  clear hF
                  go_wp2_with fail
                  go_big_quiet (fail)
                  go_wp2
                  exact ⟨⟨jj + 1 + 1, by omega, by go_num, hstep _⟩, by simp [intOf]; omega⟩
                · subst hF
                  have g1 : decide (Fb < Fb) = false := decide_eq_false (by omega)
                  have g3 : decide ((a : Int) < (b' : Int)) = false := decide_eq_false (by omega)
                  have g3' : decide (a < b') = false := decide_eq_false (by omega)
                  go_wp2_with fail
                  go_big_quiet (fail)
                  go_wp2
                  exact ⟨⟨jj + 1 + 1, by omega, by go_num, hstep _⟩, by simp [intOf]; omega⟩
          · have hjl' : ¬ (j : Int) < (al.length : Int) := by omega
            obtain rfl : j = al.length := by omega
            have hX1 := hT.told
            rw [List.take_length, told_all HN.out] at hX1
            have hX2 := (hT.below.block _ HLc.out.lt_t).trans HLc.out.there
            have hXs : (thereC g).toArray.size = 30 := by simp [thereC]
            have hBel : Hid (Below w.heap.size w wr) := HLc.out.below.trans (hT.below.mono HLc.out.below.size)
            have hX := eq_there g
            generalize (thereC g).toArray = X at hX1 hX2 hXs hX
            have hi55 : (Try.prog.info? 55).map (·.size) = some X.size := by rw [hXs]; kernel_rfl
            go_wp2_with (first | (refine wpList_load_row rfl 55 (.tmp 23) rfl _ rfl 55 X (0, 0) _ hX1 Try.underlying55 rfl hi55 ?_) | (refine wpList_load_row rfl 55 (.tmp 12) rfl _ rfl 55 X (0, 0) _ hX2 Try.underlying55 rfl hi55 ?_))
            go_ret
            exact ⟨rfl, hBel.out⟩
end Go.Proofs.Ytnlkalbkjocoaaa
