/-
  The walk of 'Around': it answers true.
-/
import Derived.Test.YtnlkalbkjocoaaaShape
import Derived.Test.YtnlkalbkjocoaaaMath
namespace Go.Proofs.Ytnlkalbkjocoaaa
open Go.RowKit

/-- A slice of the call's own that holds points, and is not empty: where it lies. -/
theorem owned {wr : World} {base n : Nat} {v : Value} {L : List C} (h : wr.ownsRow base 26 1 v n (L.map C.v)) (hn : n = L.length) (h0 : 0 < L.length) :
    ∃ g cap, v = .slice (some ⟨g, 0, none⟩) L.length cap ∧ base ≤ g ∧ L.length ≤ cap ∧ g < wr.heap.size ∧ Lies wr g 0 L := by
  subst hn
  have h' := h
  rcases h'.2 with h2 | ⟨g, cap', cur, hv, -⟩
  · omega
  · subst hv
    obtain ⟨g', e, r1, r2, r3, r4⟩ := own_lies h h0
    cases e
    exact ⟨g, cap', rfl, r1, r2, r3, r4⟩

theorem lies_news {w : World} {g : Nat} {L : List C} (h : Lies w g 0 L) (k m : Nat) (_hm : k + m ≤ L.length) : ∀ j u, (((L.drop k).take m).map C.v)[j]? = some u → w.cell? ((⟨g, k, none⟩ : Addr).add j) = some u := by
  intro j u hj
  have ha : (⟨g, k, none⟩ : Addr).add j = ⟨g, 0 + (k + j), none⟩ := by unfold Addr.add; split <;> simp_all
  have hjl : j < m ∧ k + j < L.length := by
    have := (List.getElem?_eq_some_iff.1 hj).1
    simp at this; omega
  rw [ha, h (k + j) hjl.2]
  rw [← hj]
  simp [hjl.1, hjl.2]

theorem add_block (a : Addr) (j : Nat) : (a.add j).block = a.block := by unfold Addr.add; split <;> rfl

/-- The two parts, as lists by themselves. -/
theorem cut_pack (L : List C) (h0 : 0 < L.length) (q : C) (T W : Int) (on : Bool) (hT : twiceL L h0 = T) (hW : windsL q L h0 = (W, on)) (w : World) (g : Nat) (hl : Lies w g 0 L) (hlim : ∀ c ∈ L, c.lim 1048576) (fr d : Nat) (h : fr + 2 + d < L.length) :
    ∃ NL N2 N3 : List C, NL.length = fr + 2 + d + 1 - fr ∧ N2.length = fr + 1 ∧ N3.length = L.length - (fr + 2 + d) ∧
      (∀ j u, (NL.map C.v)[j]? = some u → w.cell? ((⟨g, fr, none⟩ : Addr).add j) = some u) ∧ (∀ j u, (N2.map C.v)[j]? = some u → w.cell? ((⟨g, 0, none⟩ : Addr).add j) = some u) ∧
      (∀ j u, (N3.map C.v)[j]? = some u → w.cell? ((⟨g, fr + 2 + d, none⟩ : Addr).add j) = some u) ∧ (∀ c ∈ NL, c.lim 1048576) ∧ (∀ c ∈ N2 ++ N3, c.lim 1048576) ∧
      Hid (∀ (h1 : 0 < NL.length) (h2 : 0 < (N2 ++ N3).length), twiceL NL h1 + twiceL (N2 ++ N3) h2 = T ∧ ((windsL q NL h1).2 = false → (windsL q (N2 ++ N3) h2).2 = false → on = false → (windsL q NL h1).1 + (windsL q (N2 ++ N3) h2).1 = W)) := by
  have f3 : (L.drop (fr + 2 + d)).take (L.length - (fr + 2 + d)) = L.drop (fr + 2 + d) := List.take_of_length_le (by simp)
  have n3 := lies_news hl (fr + 2 + d) (L.length - (fr + 2 + d)) (by omega)
  rw [f3] at n3
  refine ⟨(L.drop fr).take (fr + 2 + d + 1 - fr), L.take (fr + 1), L.drop (fr + 2 + d), by simp; omega, by simp; omega, by simp, lies_news hl fr _ (by omega), lies_news hl 0 (fr + 1) (by omega), n3,
    fun c hc => hlim c (List.mem_of_mem_drop (List.mem_of_mem_take hc)), fun c hc => ?_, fun h1 h2 => ?_⟩
  · rcases List.mem_append.1 hc with hc | hc
    · exact hlim c (List.mem_of_mem_take hc)
    · exact hlim c (List.mem_of_mem_drop hc)
  · have key := around_cut L fr (fr + 2 + d) (by omega) h q h0 h1 h2
    rw [hT, hW] at key
    exact key

set_option maxRecDepth 100000 in
set_option maxHeartbeats 3200000 in
theorem around_any (zs : List Int) (A : Option Addr) (b off cp : Nat) (byI iI jI p q : Int) (w : World) (hb : b < w.heap.size ∨ zs.length = 0)
    (hcell : ∀ k (h : k < zs.length), A = some ⟨b, off, none⟩ ∧ w.cell? ⟨b, off + k, none⟩ = some (.int .i64 zs[k])) (hz : ∀ z ∈ zs, -9223372036854775808 ≤ z ∧ z ≤ 9223372036854775807)
    (hn : zs.length ≤ 9223372036854775807) (r1 : -9223372036854775808 ≤ byI ∧ byI ≤ 9223372036854775807) (r2 : -9223372036854775808 ≤ iI ∧ iI ≤ 9223372036854775807) (r3 : -9223372036854775808 ≤ jI ∧ jI ≤ 9223372036854775807)
    (r4 : -9223372036854775808 ≤ p ∧ p ≤ 9223372036854775807) (r5 : -9223372036854775808 ≤ q ∧ q ≤ 9223372036854775807) :
    Calls Try.prog 3 #[.slice A zs.length cp, .int .i64 byI, .int .i64 iI, .int .i64 jI, .int .i64 p, .int .i64 q] w fun e w' => e = .returned (.bool true) ∧ Below w.heap.size w w' := by
  obtain ⟨i0, hi0, hz0, hz1, hz2⟩ := info_parts Try.info26
  have c1 := begin_any w
  have c2 : ∀ w1, Below w.heap.size w w1 → _ := fun w1 (hB : Below w.heap.size w w1) => shape_any zs 1000 A b off cp w1 (by decide) (by decide) (by have := hB.size; omega)
    (fun k h => ⟨(hcell k h).1, by rw [hB.cell (p := ⟨b, off + k, none⟩) (by rcases hb with hb | hb; exact hb; omega)]; exact (hcell k h).2⟩) hz hn
  have c3 := fun w => at_any p q 1000 (by decide) (by decide) r4.1 r4.2 r5.1 r5.2 w
  have hq : (atC p q 1000).lim 1048576 := C.lim_mono (atC_lim p q 1000 (by decide)) (by decide)
  generalize atC p q 1000 = zq at c3 hq
  clear hcell hz hb r4 r5
  go_enter Try.func3, Try.ntmps3
  go_wp2_with fail
  refine c1.mono ?_
  rintro e w1 ⟨rfl, hB1⟩
  clear c1
  go_wp2_with fail
  refine (c2 _ hB1).mono ?_
  rintro e w2 ⟨L, g, cap, rfl, hL3, hL32, hlim, hlies, hg, hcap, hB2⟩
  clear c2
  have hlim' : ∀ c ∈ L, c.lim 1048576 := fun c hc => C.lim_mono (hlim c hc) (by decide)
  clear hlim
  go_wp2_with fail
  refine (c3 _).mono ?_
  rintro e w' ⟨rfl, rfl⟩
  clear c3
  have c4 := fun w => pick_any byI L.length (by omega) (by omega) r1.1 r1.2 w
  have p4 := pickI_bd byI L.length (by omega)
  generalize pickI byI L.length = kk at c4 p4
  obtain ⟨k, rfl⟩ := Int.eq_ofNat_of_zero_le p4.1
  have hk : k < L.length := by omega
  clear p4 r1
  go_wp2_with fail
  refine (c4 _).mono ?_
  rintro e w2 ⟨rfl, rfl⟩
  clear c4
  -- l[k:]
  obtain ⟨N1, hN1⟩ : ∃ N1, N1 = (L.drop k).take (L.length - k) := ⟨_, rfl⟩
  obtain ⟨N2, hN2⟩ : ∃ N2, N2 = (L.drop 0).take k := ⟨_, rfl⟩
  have n1 := lies_news hlies k (L.length - k) (by omega)
  have n2 := lies_news hlies 0 k (by omega)
  rw [← hN1] at n1
  rw [← hN2] at n2
  have l1 : (N1.map C.v).length = (L.length - k) * 1 := by rw [hN1]; simp
  have l2 : (N2.map C.v).length = k * 1 := by rw [hN2]; simp; omega
  have HM : Hid (N1 ++ N2 = L.drop k ++ L.take k) := by rw [hN1, hN2, List.take_of_length_le (by simp)]; exact rfl
  clear hN1 hN2
  have hw2 : g < w2.heap.size := hg
  go_wp2_with (at_builtin; refine wpList_append_lies _ rfl (.tmp 63) (.tmp 66) 24 rfl w2.heap.size 26 i0 _ 1 16 Try.underlying24 hi0 hz0 hz1 hz2 rfl (by omega) (.slice none 0 0) 0 [] rfl (World.ownsRow_nil _ _ _ _) ⟨g, k, none⟩ (L.length - k) (cap - k) (N1.map C.v) rfl l1 n1 (vals_one _) (by omega) (by unfold maxLen; omega) (by omega) (Nat.le_refl _) w2.heap.size rfl ?_)
  intro g1 cap1 w3 own1 grow1 x1 x2
  clear x1 x2
  have hB3 : Below w2.heap.size w2 w3 := (Below.refl _ _).grown grow1 (Nat.le_refl _) (fun k h => by cases h)
  have n2' : ∀ j u, (N2.map C.v)[j]? = some u → w3.cell? ((⟨g, 0, none⟩ : Addr).add j) = some u := fun j u hu => by
    rw [hB3.cell (by show (Addr.add _ _).block < _; rw [add_zero_none]; exact hw2)]; exact n2 j u hu
  clear n1 n2 grow1 l1
  go_wp2_with (at_builtin; refine wpList_append_own _ rfl (.tmp 68) (.tmp 71) 24 rfl w2.heap.size 26 i0 _ 1 16 Try.underlying24 hi0 hz0 hz1 hz2 rfl (by omega) (.slice (some ⟨g1, 0, none⟩) (L.length - k) cap1) (L.length - k) (N1.map C.v) rfl own1 ⟨g, 0, none⟩ k cap (N2.map C.v) rfl l2 n2' (vals_one _) (by unfold maxLen; omega) (by omega) (hB3.size) ?_)
  intro v2 w4 own2 grow2 x1
  clear x1
  have hB4 : Below w2.heap.size w2 w4 := hB3.grown grow2 hB3.size (fun k h => (own1.lt k h).1)
  obtain ⟨Mv, hMv⟩ : ∃ Mv, Mv = N1 ++ N2 := ⟨_, rfl⟩
  rw [← hMv] at HM
  rw [← List.map_append, ← hMv] at own2
  have hMl : Mv.length = L.length := by rw [HM.out]; simp; omega
  obtain ⟨g2, cap2, hv2, hg2, hcap2, hg2', hlies2⟩ := owned own2 (by omega) (by omega)
  rw [hMl] at hv2 hcap2
  rw [hv2]
  have hliesL := lies_below hlies hB4 hg
  have hMlim : ∀ c ∈ Mv, c.lim 1048576 := by
    rw [HM.out]; intro c hc
    rcases List.mem_append.1 hc with hc | hc
    · exact hlim' c (List.mem_of_mem_drop hc)
    · exact hlim' c (List.mem_of_mem_take hc)
  clear own2 grow2 own1 n2' l2 hv2 v2 hMv N1 N2 hlies hw2 hB3 w3
  have hB24 : Below w.heap.size w w4 := (hB1.trans (hB2.mono hB1.size)).trans (hB4.mono (Nat.le_trans hB1.size hB2.size))
  have hgw4 : g < w4.heap.size := Nat.lt_of_lt_of_le hg hB4.size
  clear hB4 hB2 hB1 hg hg2
  go_wp2
  go_loopw [19, 20] (fun bk i wr => ∃ (j : Nat) (a : Option Addr) (cp' : Nat) (R : List C), j ≤ L.length ∧ Hid (R = (Mv.drop j).reverse) ∧ R.length ≤ 32 ∧ i = .int .i64 ((j : Int) - 1) ∧ bk = .slice a R.length cp' ∧ Outs w4 wr 1048576 a cp' R)
    (fun _ i _ => (intOf i + 1).toNat)
  case atStart => exact ⟨L.length, none, 0, [], Nat.le_refl _, by rw [List.drop_of_length_le (by omega)]; exact rfl, by simp, rfl, rfl, Below.refl _ _, World.ownsRow_nil _ _ _ _, by simp⟩
  case round =>
    obtain ⟨j, a, cp', R, hj, HR, hR32, rfl, rfl, hO⟩ := hrel
    by_cases hj0 : 0 < j
    · have hj1 : (0 : Int) ≤ (j : Int) - 1 := by omega
      have hjM : j - 1 < Mv.length := by omega
      have hcl : wr.cell? ⟨g2, j - 1, none⟩ = some (.complex .f64 Mv[j - 1].re.bits Mv[j - 1].im.bits) := by
        rw [hO.below.cell (p := ⟨g2, j - 1, none⟩) hg2']
        have := hlies2 (j - 1) hjM
        rwa [Nat.zero_add] at this
      have hlimc := hMlim _ (List.getElem_mem hjM)
      have HR' : Hid (R ++ [Mv[j - 1]] = (Mv.drop (j - 1)).reverse) := by
        rw [HR.out, List.drop_eq_getElem_cons hjM, show j - 1 + 1 = j by omega, List.reverse_cons]; exact rfl
      have hRl : R.length = L.length - j := by rw [HR.out]; simp; omega
      generalize Mv[j - 1] = c at hcl hlimc HR'
      have hown := hO.own
      have hbase := hO.below.size
      have HO : Hid (Outs w4 wr 1048576 a cp' R) := hO
      have hRb : R.length + 1 ≤ 32 := by omega
      have ej : ((j : Int) - 1).toNat = j - 1 := by omega
      have ej2 : (j : Int) - 1 < L.length := by omega
      clear hO hRl HR
      go_wp2_with (at_builtin; refine wpList_append_lies _ rfl _ _ 24 rfl w4.heap.size 26 i0 _ 1 16 Try.underlying24 hi0 hz0 hz1 hz2 rfl (by omega) (.slice a R.length cp') R.length (R.map C.v) rfl (hown.alloc _) ⟨wr.heap.size, 0, none⟩ 1 1 [c.v] rfl rfl (World.news_of_block (cs := #[c.v]) (t := 26) (fr := (0, 0)) (heap_alloc_new wr _)) (by simp [Value.oneCell']) (by omega) (by unfold maxLen; omega) (by omega) (by simp; omega) (wr.heap.size + 1) (by simp) ?_)
      intro gg cap' w5 hown1 hgrow x1 x2
      clear x1 x2
      have hO' := outs_step' HO.out hlimc hown1 hgrow
      clear hown1 hgrow hown HO
      go_wp2
      go_roundw
      case rel => exact ⟨j - 1, some ⟨gg, 0, none⟩, cap', R ++ [c], by omega, HR', by simp; omega, by go_num, by simp, hO'⟩
      case measure => simp [intOf]; omega
    · have hj0' : j = 0 := by omega
      subst hj0'
      have hRM : R = Mv.reverse := by have := HR.out; rwa [List.drop_zero] at this
      have hRl : R.length = L.length := by rw [hRM]; simp; omega
      obtain ⟨g3, hg3, hcap3, hg3', hlies3⟩ := outs_end hO (by omega)
      subst hg3
      have kL := lies_below hliesL hO.below hgw4
      have kM := lies_below hlies2 hO.below hg2'
      have hB5 : Below w.heap.size w wr := hB24.trans (hO.below.mono hB24.size)
      have hgwr : g < wr.heap.size := Nat.lt_of_lt_of_le hgw4 hO.below.size
      have hL0 : 0 < L.length := Nat.lt_of_lt_of_le (by decide) hL3
      have t1 := twice_ok L g 0 cap wr kL hlim' hL3 hL32 hL0
      have t2 := twice_ok Mv g2 0 cap2 wr kM hMlim (by omega) (by omega) (by omega)
      have t3 := twice_ok R g3 0 cp' wr hlies3 hO.lim (by omega) (by omega) (by omega)
      have u1 := winds_ok L zq g 0 cap wr kL hlim' hq hL3 hL32 hL0
      have u2 := winds_ok Mv zq g2 0 cap2 wr kM hMlim hq (by omega) (by omega) (by omega)
      have u3 := winds_ok R zq g3 0 cp' wr hlies3 hO.lim hq (by omega) (by omega) (by omega)
      have rot := around_rot L k hL0 (by simp; omega) zq
      have rev := around_rev Mv (by omega) (by simp; omega) zq
      simp only [← hRM] at rev
      simp only [← HM.out] at rot
      rw [rev.1, rot.1] at t3
      rw [rot.1] at t2
      rw [rev.2, rot.2] at u3
      rw [rot.2] at u2
      rw [hMl] at t2 u2
      rw [hRl] at t3 u3
      have bT := twiceL_bd L hL0 hL32 hlim'
      have bW := windsL_bd zq L hL0 hL32
      generalize hT : twiceL L _ = T at t1 t2 t3 bT
      generalize hW : windsL zq L _ = WW at u1 u2 u3 bW
      obtain ⟨W, on⟩ := WW
      simp only at u1 u2 u3 bW
      have HT : Hid (twiceL L hL0 = T) := hT
      have HW : Hid (windsL zq L hL0 = (W, on)) := hW
      clear rot rev hT hW hlies3 hO hliesL hlies2 HM HR kM hMlim hRM
      rw [hRl]
      go_wp2_with fail
      refine t1.mono ?_
      rintro e wr ⟨rfl, rfl⟩
      go_wp2_with fail
      refine t2.mono ?_
      rintro e wr ⟨rfl, rfl⟩
      go_wp2_with fail
      refine t3.mono ?_
      rintro e wr ⟨rfl, rfl⟩
      go_wp2_with fail
      refine u1.mono ?_
      rintro e wr ⟨rfl, rfl⟩
      go_wp2_with fail
      refine u2.mono ?_
      rintro e wr ⟨rfl, rfl⟩
      go_wp2_with fail
      refine u3.mono ?_
      rintro e wr ⟨rfl, rfl⟩
      clear t1 t2 t3 u1 u2 u3
      have c5 := fun w => pick_any iI L.length (by omega) (by omega) r2.1 r2.2 w
      have p5 := pickI_bd iI L.length (by omega)
      generalize pickI iI L.length = ff at c5 p5
      obtain ⟨fr, rfl⟩ := Int.eq_ofNat_of_zero_le p5.1
      have hfr : fr < L.length := by omega
      have c6 := fun w => pick_any jI L.length (by omega) (by omega) r3.1 r3.2 w
      have p6 := pickI_bd jI L.length (by omega)
      generalize pickI jI L.length = ff at c6 p6
      obtain ⟨d, rfl⟩ := Int.eq_ofNat_of_zero_le p6.1
      have hd : d < L.length := by omega
      clear p5 p6 r2 r3
      go_wp2_with fail
      refine (c5 _).mono ?_
      rintro e wr ⟨rfl, rfl⟩
      go_wp2_with fail
      refine (c6 _).mono ?_
      rintro e wr ⟨rfl, rfl⟩
      clear c5 c6
      by_cases q1 : (L.length : Int) ≤ (fr : Int) + 2 + (d : Int)
      · go_wp2
        go_ret
        exact ⟨rfl, hB5⟩
      · by_cases q2 : (L.length : Int) ≤ (fr : Int) + 2 + (d : Int) - (fr : Int) + 1
        · go_wp2
          go_ret
          exact ⟨rfl, hB5⟩
        · have q3 : ¬ (L.length : Int) < 4 := by omega
          obtain ⟨NL, N2, N3, e1, e2, e3, n1, n2, n3, limL, limR, HC⟩ := cut_pack L hL0 zq T W on HT.out HW.out wr g kL hlim' fr d (by omega)
          have l1 : (NL.map C.v).length = (fr + 2 + d + 1 - fr) * 1 := by simp [e1]
          have l2 : (N2.map C.v).length = (fr + 1) * 1 := by simp [e2]
          have l3 : (N3.map C.v).length = (L.length - (fr + 2 + d)) * 1 := by simp [e3]
          clear HT HW kL hlim'
          go_wp2_with (at_builtin; refine wpList_append_lies _ rfl (.tmp 180) (.tmp 185) 24 rfl wr.heap.size 26 i0 _ 1 16 Try.underlying24 hi0 hz0 hz1 hz2 rfl (by omega) (.slice none 0 0) 0 [] rfl (World.ownsRow_nil _ _ _ _) ⟨g, fr, none⟩ (fr + 2 + d + 1 - fr) (cap - fr) (NL.map C.v) rfl l1 n1 (vals_one _) (by omega) (by unfold maxLen; omega) (by omega) (Nat.le_refl _) wr.heap.size rfl ?_)
          intro gl capl w6 own6 grow6 x1 x2
          clear x1 x2
          have hB6 : Below wr.heap.size wr w6 := (Below.refl _ _).grown grow6 (Nat.le_refl _) (fun k h => by cases h)
          have n2' : ∀ j u, (N2.map C.v)[j]? = some u → w6.cell? ((⟨g, 0, none⟩ : Addr).add j) = some u := fun j u hu => by
            rw [hB6.cell (by show (Addr.add _ _).block < _; rw [add_zero_none]; exact hgwr)]; exact n2 j u hu
          have n3' : ∀ j u, (N3.map C.v)[j]? = some u → w6.cell? ((⟨g, fr + 2 + d, none⟩ : Addr).add j) = some u := fun j u hu => by
            rw [hB6.cell (by rw [add_block]; exact hgwr)]; exact n3 j u hu
          obtain ⟨gl', capl', hvl, hgl1, hcl1, hgl2, hliesl⟩ := owned (L := NL) own6 e1.symm (by omega)
          obtain ⟨rfl, rfl⟩ : gl' = gl ∧ capl' = capl := by rw [e1] at hvl; cases hvl; exact ⟨rfl, rfl⟩
          clear hvl
          have hgw6 : g < w6.heap.size := Nat.lt_of_lt_of_le hgwr hB6.size
          clear n1 n2 n3 grow6 l1
          go_wp2_with (at_builtin; refine wpList_append_lies _ rfl (.tmp 187) (.tmp 191) 24 rfl w6.heap.size 26 i0 _ 1 16 Try.underlying24 hi0 hz0 hz1 hz2 rfl (by omega) (.slice none 0 0) 0 [] rfl (World.ownsRow_nil _ _ _ _) ⟨g, 0, none⟩ (fr + 1) cap (N2.map C.v) rfl l2 n2' (vals_one _) (by omega) (by unfold maxLen; omega) (by omega) (Nat.le_refl _) w6.heap.size rfl ?_)
          intro gr capr w7 own7 grow7 x1 x2
          clear x1 x2
          have hB7 : Below w6.heap.size w6 w7 := (Below.refl _ _).grown grow7 (Nat.le_refl _) (fun k h => by cases h)
          have n3'' : ∀ j u, (N3.map C.v)[j]? = some u → w7.cell? ((⟨g, fr + 2 + d, none⟩ : Addr).add j) = some u := fun j u hu => by
            rw [hB7.cell (by rw [add_block]; exact hgw6)]; exact n3' j u hu
          clear n2' n3' grow7 l2
          go_wp2_with (at_builtin; refine wpList_append_lies _ rfl (.tmp 193) (.tmp 196) 24 rfl w6.heap.size 26 i0 _ 1 16 Try.underlying24 hi0 hz0 hz1 hz2 rfl (by omega) (.slice (some ⟨gr, 0, none⟩) (fr + 1) capr) (fr + 1) (N2.map C.v) rfl own7 ⟨g, fr + 2 + d, none⟩ (L.length - (fr + 2 + d)) (cap - (fr + 2 + d)) (N3.map C.v) rfl l3 n3'' (vals_one _) (by omega) (by unfold maxLen; omega) (by omega) hB7.size w7.heap.size rfl ?_)
          intro gs caps w8 own8 grow8 x1 x2
          clear x1 x2
          have hB8 : Below w6.heap.size w6 w8 := hB7.grown grow8 hB7.size (fun k h => (own7.lt k h).1)
          obtain ⟨N4, hN4⟩ : ∃ N4, N4 = N2 ++ N3 := ⟨_, rfl⟩
          rw [← List.map_append, ← hN4] at own8
          simp only [← hN4] at HC limR
          have e4 : N4.length = fr + 1 + (L.length - (fr + 2 + d)) := by rw [hN4, List.length_append, e2, e3]
          obtain ⟨gs', caps', hvs, hgs1, hcs1, hgs2, hliess⟩ := owned (L := N4) own8 e4.symm (by omega)
          obtain ⟨rfl, rfl⟩ : gs' = gs ∧ caps' = caps := by rw [e4] at hvs; cases hvs; exact ⟨rfl, rfl⟩
          clear hvs
          have hliesl' := lies_below hliesl hB8 hgl2
          have hB8' : Below w.heap.size w w8 := (hB5.trans (hB6.mono hB5.size)).trans (hB8.mono (Nat.le_trans hB5.size hB6.size))
          have y1 := twice_ok NL gl' 0 capl' w8 hliesl' limL (by omega) (by omega) (by omega)
          have y2 := twice_ok N4 gs' 0 caps' w8 hliess limR (by omega) (by omega) (by omega)
          have y3 := winds_ok NL zq gl' 0 capl' w8 hliesl' limL hq (by omega) (by omega) (by omega)
          have y4 := winds_ok N4 zq gs' 0 caps' w8 hliess limR hq (by omega) (by omega) (by omega)
          have b1 := twiceL_bd NL (by omega) (by omega) limL
          have b2 := twiceL_bd N4 (by omega) (by omega) limR
          have b3 := windsL_bd zq NL (by omega) (by omega)
          have b4 := windsL_bd zq N4 (by omega) (by omega)
          have k1 := (HC.out (by omega) (by omega)).1
          have k2 := (HC.out (by omega) (by omega)).2
          generalize twiceL NL _ = T1 at y1 b1 k1
          generalize twiceL N4 _ = T2 at y2 b2 k1
          generalize windsL zq NL _ = W1 at y3 b3 k2
          generalize windsL zq N4 _ = W2 at y4 b4 k2
          rw [e1] at y1 y3
          rw [e4] at y2 y4
          obtain ⟨W1, on1⟩ := W1
          obtain ⟨W2, on2⟩ := W2
          simp only at y3 y4 b3 b4 k2
          have j1 : ¬ ((fr + 2 + d + 1 - fr : Nat) : Int) < 3 := by omega
          have j2 : ¬ ((fr + 1 + (L.length - (fr + 2 + d)) : Nat) : Int) < 3 := by omega
          have K2 : Hid ((on1 || on2 || on || decide (W1 + W2 = W)) = true) := by
            cases on1 with
            | true => simp [Hid]
            | false =>
              cases on2 with
              | true => simp [Hid]
              | false =>
                cases on with
                | true => simp [Hid]
                | false => simp [Hid, k2 rfl rfl rfl]
          clear k2 HC own8 grow8 own7 own6 n3'' l3 hliess hliesl hliesl' limL limR hN4 hB8 hB7 hB6
          subst k1
          go_wp2_with fail
          refine y1.mono ?_
          rintro e w8 ⟨rfl, rfl⟩
          go_wp2_with fail
          refine y2.mono ?_
          rintro e w8 ⟨rfl, rfl⟩
          go_wp2_with fail
          refine y3.mono ?_
          rintro e w8 ⟨rfl, rfl⟩
          go_wp2_with fail
          refine y4.mono ?_
          rintro e w8 ⟨rfl, rfl⟩
          clear y1 y2 y3 y4
          cases on1 with
          | true =>
            clear K2
            go_wp2
            go_ret
            exact ⟨rfl, hB8'⟩
          | false =>
            cases on2 with
            | true =>
              clear K2
              go_wp2
              go_ret
              exact ⟨rfl, hB8'⟩
            | false =>
              cases on with
              | true =>
                clear K2
                go_wp2
                go_ret
                exact ⟨rfl, hB8'⟩
              | false =>
                have hW : W1 + W2 = W := by simpa [Hid] using K2
                subst hW
                clear K2
                go_wp2
                go_ret
                exact ⟨rfl, hB8'⟩
end Go.Proofs.Ytnlkalbkjocoaaa
