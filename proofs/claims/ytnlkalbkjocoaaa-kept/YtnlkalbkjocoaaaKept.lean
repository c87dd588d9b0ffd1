/-
  The law Kept.
-/
import Derived.Test.YtnlkalbkjocoaaaKState
import Derived.Deep.DeepCutAuto
namespace Go.Proofs.Ytnlkalbkjocoaaa
open Go.Shelf Go.RowKit

/-- What the loop over the steps keeps. -/
def KRel (w : World) (bm bn : Nat) (st : List Stp) (v i : Value) (wr : World) : Prop := ∃ (k gw cap : Nat) (T : Nat → Option Tr) (L : List Value) (vs : List (Option Nat × List Value)), k ≤ st.length ∧ k ≤ 5000 ∧ i = .int .i64 k ∧ v = .slice (some ⟨gw, 0, none⟩) vs.length cap ∧ KeptAt w wr bm bn T L vs gw cap k

theorem kept_start {w w1 w2 : World} (hb1 : Below w.heap.size w w1) (hM : NewMap w1 w2) (hb2 : Below w1.heap.size w1 w2) :
    KeptAt w ((w2.alloc (.cells (List.replicate 30 (Value.slice none 0 0)).toArray 72)).alloc (.cells (List.replicate 30 (Value.slice none 0 0)).toArray 72)) (w1.heap.size + 2) w2.heap.size (fun _ => none) (List.replicate 30 (.slice none 0 0)) [(none, List.replicate 30 (.slice none 0 0))] (w2.heap.size + 1) 1 0 := by
  obtain ⟨h1, h2, h3, h4⟩ := hM
  have s1 := hb1.size
  have hbb : Below w2.heap.size w2 ((w2.alloc (.cells (List.replicate 30 (Value.slice none 0 0)).toArray 72)).alloc (.cells (List.replicate 30 (Value.slice none 0 0)).toArray 72)) := ((Below.refl _ _).alloc (Nat.le_refl _) _).alloc (by simp) _
  have hS0 : ShelfT w2 none (fun _ => none) := ⟨none, fun _ => none, ⟨(fun k e => nomatch e), (fun k e => nomatch e), fun _ => rfl, fun _ _ => rfl, fun _ _ => rfl⟩, fun _ _ => rfl, fun i t e => nomatch e⟩
  have hT0 : ∀ w, StandT w (List.replicate 30 (.slice none 0 0)) (fun _ => none) := fun w => ⟨by simp, fun i hi _ => by rw [List.getElem?_replicate, if_pos hi], (fun i t _ e => nomatch e), fun _ _ => rfl⟩
  have hM2 : MapT w2 w.heap.size (w1.heap.size + 2) (fun _ => none) [none] := by
    obtain ⟨ro, q1, q2⟩ := h1.map.shelf.view
    refine ⟨by omega, w1.heap.size, _, h3, ⟨ro, q1, none, fun _ => none, q2, fun _ _ => rfl, fun i t e => nomatch e⟩, ⟨rfl, .inr ⟨w1.heap.size + 1, 1, _, rfl, by omega, h2, by simp, by simp [maxLen], rfl, rfl⟩⟩, by simp [Value.ownBlock]⟩
  refine ⟨hM2.below hbb, heap_old _ _ (by simp) (heap_last _ _ _ rfl), by omega, hT0 _, ⟨by simp, .inr ⟨w2.heap.size + 1, 1, _, rfl, by omega, heap_last _ _ _ (by simp), by simp, by simp [maxLen], by simp, by simp⟩⟩, by omega, fun x hx => ?_, (fun i t e => nomatch e), (hb1.trans (hb2.mono s1)).trans (hbb.mono (by omega)), by simp⟩
  simp only [List.mem_cons, List.not_mem_nil, or_false] at hx
  subst hx
  exact ⟨fun _ => none, hT0 _, hS0.kept (.of_below hbb)⟩

set_option maxRecDepth 100000 in
set_option maxHeartbeats 40000000 in
theorem kept_any (st : List Stp) (A : Option Addr) (b off cp : Nat) (x y ww hh : Int) (w : World) (hst : ∀ k (h : k < st.length), A = some ⟨b, off, none⟩ ∧ StpAt w b (off + k * 5) st[k]) (hx : i64B x) (hy : i64B y) (hww : i64B ww) (hhh : i64B hh) :
    Calls Try.prog 7 #[.slice A st.length cp, .int .i64 x, .int .i64 y, .int .i64 ww, .int .i64 hh] w fun e w' => e = .returned (.bool true) ∧ Below w.heap.size w w' := by
  have h1 := begin_any w
  have h2 := fun w => new_any w
  go_enter Try.func7, Try.ntmps7
  go_wp2_with fail
  refine h1.mono ?_
  rintro e w1 ⟨rfl, hb1⟩
  go_wp2_with fail
  refine (h2 _).mono ?_
  rintro e w2 ⟨rfl, hM2, hb2⟩
  clear h1 h2
  have hZ : ∀ w : World, (w.alloc (.cells #[Value.slice none 0 0, Value.slice none 0 0, Value.slice none 0 0, Value.slice none 0 0, Value.slice none 0 0, Value.slice none 0 0, Value.slice none 0 0, Value.slice none 0 0, Value.slice none 0 0, Value.slice none 0 0, Value.slice none 0 0, Value.slice none 0 0, Value.slice none 0 0, Value.slice none 0 0, Value.slice none 0 0, Value.slice none 0 0, Value.slice none 0 0, Value.slice none 0 0, Value.slice none 0 0, Value.slice none 0 0, Value.slice none 0 0, Value.slice none 0 0, Value.slice none 0 0, Value.slice none 0 0, Value.slice none 0 0, Value.slice none 0 0, Value.slice none 0 0, Value.slice none 0 0, Value.slice none 0 0, Value.slice none 0 0] 72)).heap[w.heap.size]? = some (.cells (List.replicate 30 (Value.slice none 0 0)).toArray 72) := fun w => heap_last _ _ _ rfl
  go_wp2_with (first | (refine load_stand rfl (.tmp 13) rfl _ (List.replicate 30 (.slice none 0 0)) (by simp) rfl (hZ _) ?_) | (refine build_stand rfl (.tmp 37) rfl (List.replicate 30 (.slice none 0 0)) (by simp) rfl ?_))
  have hK0 := kept_start hb1 hM2 hb2
  clear hM2 hZ
  generalize hbm : w1.heap.size + 2 = bm at *
  go_loopw [14, 15] (fun v i wr => KRel w bm w2.heap.size st v i wr) (fun _ i _ => st.length - (intOf i).toNat)
  case atStart => exact ⟨0, _, _, _, _, _, Nat.zero_le _, by omega, rfl, rfl, hK0⟩
  case round =>
    clear hK0
    obtain ⟨k, gw, cap, T, L, vs, hk, hk5, rfl, rfl, hK⟩ := hrel
    generalize w2.heap.size = bn at *
    by_cases hlt : k < st.length ∧ k < 5000
    · obtain ⟨hlt1, hlt2⟩ := hlt
      have hlt' : (k : Int) < (st.length : Int) := by omega
      have hlt5 : (k : Int) < 5000 := by omega
      have hk0 : (0 : Int) ≤ (k : Int) := by omega
      have hk64 : IntKind.i64.wrap ((k : Int) + 1) = (k : Int) + 1 := by rw [IntKind.wrap_i64]; omega
      obtain ⟨rfl, hS0⟩ := hst k hlt1
      have hS := hS0.kept hK.below
      have c0 := hS.c0
      have c1 := hS.c1
      have c2 := hS.c2
      have c3 := hS.c3
      have c4 := hS.c4
      obtain ⟨i, hi⟩ : ∃ i, i = (pickI st[k].id 30).toNat := ⟨_, rfl⟩
      have hi0' : (0 : Int) ≤ (i : Int) := by omega
      have hi30 : i < 30 := by have := pickI_bd st[k].id 30 (by omega); omega
      have hi30' : (i : Int) < 30 := by omega
      obtain ⟨kk, hkk⟩ : ∃ kk, kk = (pickI st[k].kd 8).toNat := ⟨_, rfl⟩
      have d1 := fun w => pickN st[k].id 30 hS.b1 (by omega) (by omega) w
      have d2 := fun w => pickN st[k].kd 8 hS.b0 (by omega) (by omega) w
      rw [← hi] at d1
      rw [← hkk] at d2
      have d3 := fun w => small_in st[k].kd st[k].id st[k].x st[k].y st[k].z hS.b2 hS.b3 hS.b4 w
      have d4 := fun w => at_shift st[k].z st[k].kd hS.b4 hS.b0 w
      generalize hkd : st[k].kd = kd at c0 d2 d3 d4
      generalize hid : st[k].id = id at c1 d1 d3
      generalize hxx : st[k].x = sx at c2 d3
      generalize hyy : st[k].y = sy at c3 d3
      generalize hzz : st[k].z = sz at c4 d3 d4
      clear hkd hxx hyy hzz hS hS0 hi hid hkk
      have hbn : bn < wr.heap.size := hK.lt_n
      have hcell : ∀ o, (wr.alloc o).cell? ⟨bn, i, none⟩ = L[i]? := fun o => by rw [World.cell?_alloc_lt _ _ _ hbn]; exact hK.cell i
      have hbS : ∀ o, Below wr.heap.size wr (wr.alloc o) := fun o => (Below.refl _ _).alloc (Nat.le_refl _) _
      have hbase : w.heap.size ≤ wr.heap.size := hK.base
      clear hst
      by_cases g0 : kk = 0
      · subst g0
        obtain ⟨xa, xl, xc, hLi⟩ : ∃ xa xl xc, L[i]? = some (.slice xa xl xc) := by
          cases hT : T i with
          | none => exact ⟨_, _, _, hK.stand.nil i hi30 hT⟩
          | some t => obtain ⟨-, b', q, -⟩ := hK.stand.tri i t hi30 hT; exact ⟨_, _, _, q⟩
        rw [hLi] at hcell
        clear hLi
        have hcount : vs.length ≤ 5001 := by have := hK.count; omega
        have hcom : ∀ w', Below wr.heap.size wr w' → Calls Try.prog 27 #[.pointer (some ⟨bm, 0, none⟩)] w' fun e w'' => e = .returned (.int .i64 vs.length) ∧ ∃ ro, MapT w'' w.heap.size bm T (vs.map (·.1) ++ [ro]) ∧ ShelfT w'' ro T ∧ MOp w.heap.size w' w'' := fun w' hb => by
          have := commit_T w' w.heap.size bm T (vs.map (·.1)) (hK.go hb).map (by rw [List.length_map]; omega)
          rw [List.length_map] at this; exact this
        have HK : Hid (KeptAt w wr bm bn T L vs gw cap k) := hK
        have hLlen := hK.stand.len
        have hLone := hK.stand.one
        clear hK
        obtain ⟨i0, hj0, hz0, hz1, hz2⟩ := info_parts infoSt
        have hw0 : IntKind.i64.wrap ((vs.length : Int) + 1 - 1) = (vs.length : Int) := by rw [IntKind.wrap_i64]; omega
        go_wp2_with (first | (go_at_call_of 11 (Value.int .i64 id); refine (d1 _).mono ?_; rintro e w' ⟨rfl, rfl⟩) | (go_at_call_of 11 (Value.int .i64 kd); refine (d2 _).mono ?_; rintro e w' ⟨rfl, rfl⟩))
        refine (hcom _ (hbS _)).mono ?_
        rintro e wc ⟨rfl, ro, hMc, hSc, hop⟩
        have hopr : MOp w.heap.size wr wc := (MOp.of_below (hbS _) hbase).trans hop
        have HC : Hid (MapT wc w.heap.size bm T (vs.map (·.1) ++ [ro]) ∧ ShelfT wc ro T ∧ MOp w.heap.size wr wc) := ⟨hMc, hSc, hopr⟩
        have hnow : wc.heap[bn]? = some (.cells L.toArray 72) := (hopr.block _ _ _ HK.out.now (by decide) (by decide)).trans HK.out.now
        have hwas : wc.ownsRow w.heap.size 72 30 (.slice (some ⟨gw, 0, none⟩) vs.length cap) vs.length (vs.flatMap (·.2)) := by
          refine ⟨HK.out.was.1, ?_⟩
          rcases HK.out.was.2 with ⟨q, -⟩ | ⟨g', cap', cur, q1, q2, q3, q4⟩
          · cases q
          · exact .inr ⟨g', cap', cur, q1, q2, (hopr.block _ _ _ q3 (by decide) (by decide)).trans q3, q4⟩
        have hbc : w.heap.size ≤ wc.heap.size := Nat.le_trans hbase hopr.below.size
        clear hMc hSc hop hopr hcom d1 d2 d3 d4 hcell hbS c0 c1 c2 c3 c4
        go_wp2_with (first | (refine load_stand rfl (.tmp 13) rfl bn L hLlen rfl hnow ?_) | (refine build_stand rfl (.tmp 83) rfl L hLlen rfl ?_) | (at_builtin; refine wpList_append_lies _ rfl (.tmp 82) (.tmp 84) 73 rfl w.heap.size 72 i0 _ 30 720 Try.underlying73 hj0 hz0 hz1 hz2 (by simp [Value.cells]) (by omega) (.slice (some ⟨gw, 0, none⟩) vs.length cap) vs.length (vs.flatMap (·.2)) rfl (hwas.alloc _) ⟨wc.heap.size, 0, none⟩ 1 1 L rfl (by rw [hLlen]) (World.news_of_block (cs := L.toArray) (t := 72) (fr := (0, 0)) (heap_alloc_new wc _)) hLone (by omega) (by unfold maxLen; omega) (by omega) (by simp; omega) (wc.heap.size + 1) (by simp) ?_; intro gg cap' w3 hown3 hgrow hatt hlt3))
        exact ⟨⟨k + 1, gg, cap', T, L, vs ++ [(ro, L)], by omega, by omega, by go_num, by rw [List.length_append]; rfl, HK.out.commit HC.out.1 HC.out.2.1 HC.out.2.2 hown3 hgrow hatt⟩, by simp [intOf]; omega⟩
      · by_cases g1 : kk = 1
        · subst g1
          clear g0
          cases hT : T i with
          | none =>
            have hLi := hK.stand.nil i hi30 hT
            have hTi : (T i).isSome = false := by rw [hT]; rfl
            as_aux_lemma =>
              have hdrop : ∀ w', Below wr.heap.size wr w' → Calls Try.prog 28 #[.pointer (some ⟨bm, 0, none⟩), .int .i64 i] w' fun e w'' => e = .returned (.int .i64 8) ∧ MapT w'' w.heap.size bm (updT T i none) (vs.map (·.1)) ∧ MOp w.heap.size w' w'' := fun w' hb => (drop_T_none w' w.heap.size bm i T (vs.map (·.1)) (hK.go hb).map (by omega) hTi).mono fun e w'' ⟨q1, q2⟩ => ⟨q1, by rw [updT_same T i hT]; exact (hK.go hb).map.below q2, MOp.of_below q2 (Nat.le_trans hbase hb.size)⟩
              rw [hLi] at hcell
              have HK : Hid (KeptAt w wr bm bn T L vs gw cap k) := hK
              clear hK d3 d4
              go_wp2_with (first | (go_at_call_of 11 (Value.int .i64 id); refine (d1 _).mono ?_; rintro e w' ⟨rfl, rfl⟩) | (go_at_call_of 11 (Value.int .i64 kd); refine (d2 _).mono ?_; rintro e w' ⟨rfl, rfl⟩))
              refine (hdrop _ (hbS _)).mono ?_
              rintro e wc ⟨rfl, hMc, hop⟩
              have hopr : MOp w.heap.size wr wc := (MOp.of_below (hbS _) hbase).trans hop
              have hmid := HK.out.mid hopr (Below.refl _ wc)
              have hq1 := (hmid.cell i).1
              have hq2 := (hmid.cell i).2
              rw [hLi] at hq1
              have HE : Hid (KeptAt w (wc.setCell ⟨bn, i, none⟩ (.slice none 0 0)) bm bn (updT T i none) (L.set i (.slice none 0 0)) vs gw cap (k + 1)) := HK.out.put hlt2 hi30 hMc hopr (Below.refl _ wc) _ (fun _ => rfl) (fun t e => nomatch e)
              clear hMc hop hopr hdrop d1 d2 hcell hbS c0 c1 c2 c3 c4 hmid
              go_wp2
              exact ⟨⟨k + 1, _, _, _, _, _, by omega, by omega, by go_num, rfl, HE.out⟩, by simp [intOf]; omega⟩
          | some t =>
            obtain ⟨-, b', hLi, hblk⟩ := hK.stand.tri i t hi30 hT
            have hTi : (T i).isSome = true := by rw [hT]; rfl
            as_aux_lemma =>
              have hdrop : ∀ w', Below wr.heap.size wr w' → _ := fun w' hb => drop_T_there w' w.heap.size bm i T (vs.map (·.1)) (hK.go hb).map (by omega) hTi
              rw [hLi] at hcell
              have HK : Hid (KeptAt w wr bm bn T L vs gw cap k) := hK
              clear hK d3 d4
              go_wp2_with (first | (go_at_call_of 11 (Value.int .i64 id); refine (d1 _).mono ?_; rintro e w' ⟨rfl, rfl⟩) | (go_at_call_of 11 (Value.int .i64 kd); refine (d2 _).mono ?_; rintro e w' ⟨rfl, rfl⟩))
              refine (hdrop _ (hbS _)).mono ?_
              rintro e wc ⟨rfl, hMc, hop⟩
              have hopr : MOp w.heap.size wr wc := (MOp.of_below (hbS _) hbase).trans hop
              have hmid := HK.out.mid hopr (Below.refl _ wc)
              have hq1 := (hmid.cell i).1
              have hq2 := (hmid.cell i).2
              rw [hLi] at hq1
              have HE : Hid (KeptAt w (wc.setCell ⟨bn, i, none⟩ (.slice none 0 0)) bm bn (updT T i none) (L.set i (.slice none 0 0)) vs gw cap (k + 1)) := HK.out.put hlt2 hi30 hMc hopr (Below.refl _ wc) _ (fun _ => rfl) (fun t e => nomatch e)
              clear hMc hop hopr hdrop d1 d2 hcell hbS c0 c1 c2 c3 c4 hmid
              go_wp2
              exact ⟨⟨k + 1, _, _, _, _, _, by omega, by omega, by go_num, rfl, HE.out⟩, by simp [intOf]; omega⟩
        · by_cases g2 : kk = 2
          · subst g2
            clear g0 g1
            cases hT : T i with
            | none =>
              have hLi := hK.stand.nil i hi30 hT
              have hTi : (T i).isSome = false := by rw [hT]; rfl
              as_aux_lemma =>
                have hturn : ∀ w', Below wr.heap.size wr w' → _ := fun w' hb => turn_T_none w' w.heap.size bm i (Z.of (shX sz)).bits (Z.of (shX kd)).bits T (vs.map (·.1)) (hK.go hb).map (by omega) hT
                rw [hLi] at hcell
                have HK : Hid (KeptAt w wr bm bn T L vs gw cap k) := hK
                clear hK d3
                generalize (Z.of (shX sz)).bits = s1 at *
                generalize (Z.of (shX kd)).bits = s2 at *
                go_wp2_with (first | (go_at_call_of 11 (Value.int .i64 id); refine (d1 _).mono ?_; rintro e w' ⟨rfl, rfl⟩) | (go_at_call_of 11 (Value.int .i64 kd); refine (d2 _).mono ?_; rintro e w' ⟨rfl, rfl⟩) | (go_at_call 10; refine (d4 _).mono ?_; rintro e w' ⟨rfl, rfl⟩))
                refine (hturn _ (hbS _)).mono ?_
                rintro e wc ⟨rfl, hbc⟩
                have HE : Hid (KeptAt w wc bm bn T L vs gw cap (k + 1)) := (HK.out.go ((hbS _).trans (hbc.mono (by simp)))).more
                clear hbc hturn d1 d2 d4 hcell hbS c0 c1 c2 c3 c4
                go_wp2
                exact ⟨⟨k + 1, _, _, _, _, _, by omega, by omega, by go_num, rfl, HE.out⟩, by simp [intOf]; omega⟩
            | some t =>
              obtain ⟨-, b', hLi, hblk⟩ := hK.stand.tri i t hi30 hT
              have hTi : (T i).isSome = true := by rw [hT]; rfl
              as_aux_lemma =>
                have hbd := hK.bound i t hT
                have hbd' := moved_b hbd sz kd
                have hsz := shX_bd sz
                have hskd := shX_bd kd
                have hturn : ∀ w', Below wr.heap.size wr w' → _ := fun w' hb => turn_T_there w' w.heap.size bm i T (vs.map (·.1)) t (shX sz) (shX kd) (hK.go hb).map (by omega) hT (hbd'.ok (by omega)) ⟨hsz.1, hsz.2, hskd.1, hskd.2⟩
                obtain ⟨a1, a2, b1, b2, e1, e2, r1, r2, s1, s2, u1, u2, hC, hC', hr, hs, hu⟩ := moved_runs hbd hlt2 sz kd
                rw [hLi] at hcell
                rw [hC] at hblk
                have HK : Hid (KeptAt w wr bm bn T L vs gw cap k) := hK
                have HB' : Hid (TrB (k + 1) ⟨t.u + shX sz, t.v + shX kd, t.k⟩ ∧ trC ⟨t.u + shX sz, t.v + shX kd, t.k⟩ = #[.complex .f64 r1 r2, .complex .f64 s1 s2, .complex .f64 u1 u2]) := ⟨hbd', hC'⟩
                have hbbn : b' ≠ bn := ne_of_type hblk hK.now (by decide)
                clear hK d3 hbd hbd' hsz hskd hC hC'
                generalize (⟨t.u + shX sz, t.v + shX kd, t.k⟩ : Tr) = t' at *
                generalize (Z.of (shX sz)).bits = m1 at *
                generalize (Z.of (shX kd)).bits = m2 at *
                go_wp2_with (first | (go_at_call_of 11 (Value.int .i64 id); refine (d1 _).mono ?_; rintro e w' ⟨rfl, rfl⟩) | (go_at_call_of 11 (Value.int .i64 kd); refine (d2 _).mono ?_; rintro e w' ⟨rfl, rfl⟩) | (go_at_call 10; refine (d4 _).mono ?_; rintro e w' ⟨rfl, rfl⟩))
                refine (hturn _ (hbS _)).mono ?_
                rintro e wc ⟨rfl, hMc, hop⟩
                have hopr : MOp w.heap.size wr wc := (MOp.of_below (hbS _) hbase).trans hop
                have hmid := HK.out.mid hopr (Below.refl _ wc)
                have hq1 := (hmid.cell i).1
                have hq2 := (hmid.cell i).2
                rw [hLi] at hq1
                have hblk' : wc.heap[b']? = some (.cells #[.complex .f64 a1 a2, .complex .f64 b1 b2, .complex .f64 e1 e2] 26) := (hopr.block _ _ _ hblk (by decide) (by decide)).trans hblk
                have o0 : wc.cell? ⟨b', 0, none⟩ = some (.complex .f64 a1 a2) := by rw [cell_of_row _ _ 0 _ _ _ hblk']; rfl
                have o1 : wc.cell? ⟨b', 1, none⟩ = some (.complex .f64 b1 b2) := by rw [cell_of_row _ _ 1 _ _ _ hblk']; rfl
                have o2 : wc.cell? ⟨b', 2, none⟩ = some (.complex .f64 e1 e2) := by rw [cell_of_row _ _ 2 _ _ _ hblk']; rfl
                have hkp : ∀ (W : World) (v : Value) (j : Nat), (W.setCell ⟨bn, i, none⟩ v).cell? ⟨b', j, none⟩ = W.cell? ⟨b', j, none⟩ := fun W v j => World.cell?_setCell_other _ _ _ _ (by intro e; simp only [Addr.mk.injEq] at e; omega)
                have hb'c : b' < wc.heap.size := (Array.getElem?_eq_some_iff.1 hblk').1
                have hbnc : bn < wc.heap.size := (Array.getElem?_eq_some_iff.1 hmid.now).1
                have HE : Hid (KeptAt w (((wc.setCell ⟨bn, i, none⟩ (.slice (some ⟨wc.heap.size, 0, none⟩) 3 3)).alloc (.cells #[.complex .f64 r1 r2, .complex .f64 s1 s2, .complex .f64 u1 u2] 26)).drew) bm bn (updT T i (some t')) (L.set i (.slice (some ⟨wc.heap.size, 0, none⟩) 3 3)) vs gw cap (k + 1)) := by
                  have := HK.out.put (w2 := (wc.alloc (.cells #[.complex .f64 r1 r2, .complex .f64 s1 s2, .complex .f64 u1 u2] 26)).drew) hlt2 hi30 hMc hopr (((Below.refl _ _).alloc (Nat.le_refl _) _).drew) (.slice (some ⟨wc.heap.size, 0, none⟩) 3 3) (fun e => nomatch e) (fun t'' e => by cases e; exact ⟨HB'.out.1, _, rfl, by rw [HB'.out.2]; exact heap_last _ _ _ rfl⟩)
                  rw [← World.setCell_alloc_past _ _ _ _ hbnc]
                  exact this
                clear hMc hop hopr hturn d1 d2 d4 hcell hbS c0 c1 c2 c3 c4 hmid hblk hblk'
                go_wp2_with fail
                have hq1a : ∀ o, (wc.alloc o).cell? ⟨bn, i, none⟩ = some (.slice (some ⟨b', 0, none⟩) 3 3) := fun o => by rw [World.cell?_alloc_lt _ _ _ hbnc]; exact hq1
                have hq2a : ∀ o, (wc.alloc o).frozen? ⟨bn, i, none⟩ = false := fun o => by rw [World.frozen?_alloc_old _ _ _ (Nat.ne_of_lt hbnc)]; exact hq2
                go_region_held3 (fun w' => w'.cell? ⟨b', 0, none⟩ = some (.complex .f64 a1 a2) ∧ w'.cell? ⟨b', 1, none⟩ = some (.complex .f64 b1 b2) ∧ w'.cell? ⟨b', 2, none⟩ = some (.complex .f64 e1 e2)) (go_keep) (fail)
                clear hq1 hq2 hq1a hq2a o0 o1 o2 hkp hr hs hu
                go_wp2
                exact ⟨⟨k + 1, _, _, _, _, _, by omega, by omega, by go_num, rfl, HE.out⟩, by simp [intOf]; omega⟩
          · have f0 : ((kk : Int) == 0) = false := by rw [beq_eq_false_iff_ne]; omega
            have f1 : ((kk : Int) == 1) = false := by rw [beq_eq_false_iff_ne]; omega
            have f2 : ((kk : Int) == 2) = false := by rw [beq_eq_false_iff_ne]; omega
            clear g0 g1 g2
            cases hT : T i with
            | none =>
              have hLi := hK.stand.nil i hi30 hT
              have hTi : (T i).isSome = false := by rw [hT]; rfl
              as_aux_lemma =>
                have hput : ∀ (w' : World) (b1 : Nat), Below wr.heap.size wr w' → w'.heap[b1]? = some (Obj.cells (trC ⟨triX sx, triX sy, triK sz⟩) 26) → _ := fun w' b1 hb hh => put_T_new ⟨triX sx, triX sy, triK sz⟩ ((small_b 0 sx sy sz).ok (by omega)) b1 w' w.heap.size bm i T (vs.map (·.1)) (hK.go hb).map (by omega) hTi (trC_at hh) (Array.getElem?_eq_some_iff.1 hh).1
                rw [hLi] at hcell
                have HK : Hid (KeptAt w wr bm bn T L vs gw cap k) := hK
                have HB' : Hid (TrB (k + 1) ⟨triX sx, triX sy, triK sz⟩) := small_b (k + 1) sx sy sz
                clear hK d4
                generalize (⟨triX sx, triX sy, triK sz⟩ : Tr) = t' at *
                go_wp2_with (first | (go_at_call_of 11 (Value.int .i64 id); refine (d1 _).mono ?_; rintro e w' ⟨rfl, rfl⟩) | (go_at_call_of 11 (Value.int .i64 kd); refine (d2 _).mono ?_; rintro e w' ⟨rfl, rfl⟩) | (go_at_call 22; refine (d3 _).mono ?_; rintro e ws ⟨⟨bl, rfl, hs4⟩, hbs⟩; replace hbs := (hbS _).trans (hbs.mono (by simp))))
                refine (hput _ _ hbs hs4).mono ?_
                rintro e wc ⟨rfl, hMc, hop⟩
                have hopr : MOp w.heap.size wr wc := (MOp.of_below hbs hbase).trans hop
                have hmid := HK.out.mid hopr (Below.refl _ wc)
                have hq1 := (hmid.cell i).1
                have hq2 := (hmid.cell i).2
                rw [hLi] at hq1
                have HE := HK.out.put hlt2 hi30 hMc hopr (Below.refl _ wc) _ (fun e => nomatch e) (fun t'' e => by cases e; exact ⟨HB'.out, _, rfl, (hop.block _ _ _ hs4 (by decide) (by decide)).trans hs4⟩)
                replace HE : Hid _ := HE
                clear hMc hop hopr hput d1 d2 d3 hcell hbS c0 c1 c2 c3 c4 hmid hs4 hbs
                go_wp2
                exact ⟨⟨k + 1, _, _, _, _, _, by omega, by omega, by go_num, rfl, HE.out⟩, by simp [intOf]; omega⟩
            | some t =>
              obtain ⟨-, b', hLi, hblk⟩ := hK.stand.tri i t hi30 hT
              have hTi : (T i).isSome = true := by rw [hT]; rfl
              as_aux_lemma =>
                have hput : ∀ (w' : World) (b1 : Nat), Below wr.heap.size wr w' → w'.heap[b1]? = some (Obj.cells (trC ⟨triX sx, triX sy, triK sz⟩) 26) → _ := fun w' b1 hb hh => put_T_there ⟨triX sx, triX sy, triK sz⟩ b1 w' w.heap.size bm i T (vs.map (·.1)) (hK.go hb).map (by omega) hTi (trC_at hh)
                rw [hLi] at hcell
                have HK : Hid (KeptAt w wr bm bn T L vs gw cap k) := hK
                clear hK d4
                go_wp2_with (first | (go_at_call_of 11 (Value.int .i64 id); refine (d1 _).mono ?_; rintro e w' ⟨rfl, rfl⟩) | (go_at_call_of 11 (Value.int .i64 kd); refine (d2 _).mono ?_; rintro e w' ⟨rfl, rfl⟩) | (go_at_call 22; refine (d3 _).mono ?_; rintro e ws ⟨⟨bl, rfl, hs4⟩, hbs⟩; replace hbs := (hbS _).trans (hbs.mono (by simp))))
                refine (hput _ _ hbs hs4).mono ?_
                rintro e wc ⟨rfl, hbc⟩
                have HE : Hid (KeptAt w wc bm bn T L vs gw cap (k + 1)) := (HK.out.go (hbs.trans (hbc.mono hbs.size))).more
                clear hbc hput d1 d2 d3 hcell hbS c0 c1 c2 c3 c4 hs4 hbs
                go_wp2
                exact ⟨⟨k + 1, _, _, _, _, _, by omega, by omega, by go_num, rfl, HE.out⟩, by simp [intOf]; omega⟩
    · have hbase : w.heap.size ≤ wr.heap.size := hK.base
      obtain ⟨cx, hcx⟩ : ∃ cx, cx = pickI x 801 - 400 := ⟨_, rfl⟩
      obtain ⟨cy, hcy⟩ : ∃ cy, cy = pickI y 801 - 400 := ⟨_, rfl⟩
      obtain ⟨pw, hpw⟩ : ∃ pw, pw = (pickI ww 200).toNat := ⟨_, rfl⟩
      obtain ⟨ph, hph⟩ : ∃ ph, ph = (pickI hh 200).toNat := ⟨_, rfl⟩
      have z1 := pickI_bd x 801 (by omega)
      have z2 := pickI_bd y 801 (by omega)
      have z3 := pickI_bd ww 200 (by omega)
      have z4 := pickI_bd hh 200 (by omega)
      have d1 := fun w => atP x y hx hy w
      have d2 := fun w => pickN ww 200 hww (by omega) (by omega) w
      have d3 := fun w => pickN hh 200 hhh (by omega) (by omega) w
      have hadd := add_run cx cy (pw : Int) (ph : Int) (by omega) (by omega) (by omega) (by omega) (by omega) (by omega)
      have hcd : qx (mkQ cx cy) ≤ qx (mkQ (cx + pw) (cy + ph)) ∧ qy (mkQ cx cy) ≤ qy (mkQ (cx + pw) (cy + ph)) := by
        rw [qx_mk _ _ (by omega), qy_mk _ _ (by omega), qx_mk _ _ (by omega), qy_mk _ _ (by omega)]; omega
      rw [← hcx, ← hcy] at d1
      rw [← hpw] at d2
      rw [← hph] at d3
      have hf1 : floatOfInt .f64 (pw : Int) = (Z.of (pw : Int)).bits := rfl
      have hf2 : floatOfInt .f64 (ph : Int) = (Z.of (ph : Int)).bits := rfl
      generalize mkQ (cx + pw) (cy + ph) = qd at *
      generalize mkQ cx cy = qq at *
      generalize (Z.of (pw : Int)).bits = f1 at *
      generalize (Z.of (ph : Int)).bits = f2 at *
      clear hcx hcy hpw hph z1 z2 z3 z4 hx hy hww hhh
      obtain ⟨a1, a2, ha⟩ : ∃ a1 a2, qe qq = .complex .f64 a1 a2 := ⟨_, _, rfl⟩
      obtain ⟨e1, e2, he⟩ : ∃ e1 e2, qe qd = .complex .f64 e1 e2 := ⟨_, _, rfl⟩
      have HQ : Hid (qe qq = .complex .f64 a1 a2 ∧ qe qd = .complex .f64 e1 e2) := ⟨ha, he⟩
      rw [ha] at d1
      rw [ha, he] at hadd
      clear ha he
      have hst' := store_complex
      have hbB : ∀ o, Below wr.heap.size wr (wr.alloc o) := fun o => (Below.refl _ _).alloc (Nat.le_refl _) _
      have HKB : Hid (∀ w4, Below wr.heap.size wr w4 → KeptAt w w4 bm bn T L vs gw cap k) := fun w4 hb => hK.go hb
      have hBw : Below w.heap.size w wr := hK.below
      have hvl : ∀ v ∈ vs, v.2.length = 30 := fun v hv => by obtain ⟨T', q, -⟩ := hK.each v hv; exact q.len
      have hLl : L.length = 30 := hK.stand.len
      have hcount : vs.length ≤ 5001 := by have := hK.count; omega
      clear hK hst
      have hcase : ¬ (k : Int) < (st.length : Int) ∨ ((k : Int) < (st.length : Int) ∧ ¬ (k : Int) < 5000) := by omega
      clear hlt
      rcases hcase with hcase | ⟨hcase, hcase'⟩
      all_goals
        as_aux_lemma =>
          go_wp2_with (first | (go_at_call 10; refine (d1 _).mono ?_; rintro e w' ⟨rfl, rfl⟩) | (go_at_call_of 11 (Value.int .i64 ww); refine (d2 _).mono ?_; rintro e w' ⟨rfl, rfl⟩) | (go_at_call_of 11 (Value.int .i64 hh); refine (d3 _).mono ?_; rintro e w' ⟨rfl, rfl⟩))
          obtain ⟨wB, hwB⟩ : ∃ wB, wB = w'.alloc (Obj.cells #[Value.complex FloatKind.f64 a1 a2, Value.complex FloatKind.f64 e1 e2] 45) := ⟨_, rfl⟩
          rw [← hwB]
          have hbB' : Below w'.heap.size w' wB := by rw [hwB]; exact hbB _
          have hbx : wB.heap[w'.heap.size]? = some (.cells #[.complex .f64 a1 a2, .complex .f64 e1 e2] 45) := by rw [hwB]; exact heap_last _ _ _ rfl
          have HB4 : Hid (∀ w4, Below wB.heap.size wB w4 → KeptAt w w4 bm bn T L vs gw cap k ∧ w4.heap[w'.heap.size]? = some (.cells #[.complex .f64 a1 a2, .complex .f64 e1 e2] 45) ∧ Below w.heap.size w w4) := fun w4 hb =>
            ⟨HKB.out w4 (hbB'.trans (hb.mono hbB'.size)), (hb.block _ (Array.getElem?_eq_some_iff.1 hbx).1).trans hbx, hBw.trans ((hbB'.trans (hb.mono hbB'.size)).mono hbase)⟩
          generalize w'.heap.size = bx at *
          clear hwB hbB HKB hbB' hbx hBw hbase d1 d2 d3 hadd hf1 hf2
          go_loopw [26] (fun i wr => ∃ j : Nat, j ≤ vs.length ∧ i = .int .i64 j ∧ Below wB.heap.size wB wr) (fun i _ => vs.length - (intOf i).toNat)
          case atStart => exact ⟨0, Nat.zero_le _, rfl, Below.refl _ _⟩
          case round =>
            obtain ⟨j, hj, rfl, hBl⟩ := hrel
            obtain ⟨hKl, hbxl, hBwl⟩ := HB4.out _ hBl
            have hx0 : wr.cell? ⟨bx, 0, none⟩ = some (.complex .f64 a1 a2) := by rw [cell_of_row _ _ 0 _ _ _ hbxl]; rfl
            have hx1 : wr.cell? ⟨bx, 1, none⟩ = some (.complex .f64 e1 e2) := by rw [cell_of_row _ _ 1 _ _ _ hbxl]; rfl
            have hbxs : bx < wr.heap.size := (Array.getElem?_eq_some_iff.1 hbxl).1
            by_cases hjl : j < vs.length
            · have hjl' : (j : Int) < (vs.length : Int) := by omega
              have hj0 : (0 : Int) ≤ (j : Int) := by omega
              have hj64 : IntKind.i64.wrap ((j : Int) + 1) = (j : Int) + 1 := by rw [IntKind.wrap_i64]; omega
              have kat := at_T wr w.heap.size bm j T (vs.map (·.1)) hKl.map (by rw [List.length_map]; exact hjl)
              obtain ⟨pj, hpj⟩ : ∃ pj, ptr ((vs.map (·.1))[j]'(by rw [List.length_map]; exact hjl)) = .pointer pj := ⟨_, rfl⟩
              rw [hpj] at kat
              obtain ⟨T', hT1, hT2⟩ := hKl.each vs[j] (List.getElem_mem hjl)
              have hpj' : ptr vs[j].1 = .pointer pj := by rw [← hpj, List.getElem_map]
              have hrg := was_range hKl.was hvl j hjl
              have hLj := hvl vs[j] (List.getElem_mem hjl)
              generalize vs[j].2 = Lj at *
              have hld : ∀ w9 : World, w9.rangeAt gw (j * 30) Lj → (Instr.loadAt 72 (.pointer (some ⟨gw, j * 30, none⟩))).run Try.prog w9 = .ok (.agg Lj.toArray) w9 := fun w9 h9 => load_range hLj w9 h9
              have HV : Hid (∀ w9, Below (wr.alloc (.cells #[.pointer pj] 96)).heap.size (wr.alloc (.cells #[.pointer pj] 96)) w9 → Calls Try.prog 31 #[.agg Lj.toArray, .pointer (some ⟨wr.heap.size, 0, none⟩), .agg #[.complex .f64 a1 a2, .complex .f64 e1 e2], .complex .f64 a1 a2] w9 fun e w'' => e = .returned (.bool true) ∧ Below w9.heap.size w9 w'') := fun w9 h9 => by
                have hbl : Below wr.heap.size wr w9 := ((Below.refl _ _).alloc (Nat.le_refl _) _).trans (h9.mono (by simp))
                have := tells_T w9 Lj T' wr.heap.size qq qd qq hcd (hT1.kept (.of_below hbl)) ⟨vs[j].1, (h9.block _ (by simp)).trans (by rw [hpj']; exact heap_last _ _ _ rfl), hT2.kept (.of_below hbl)⟩
                rw [HQ.out.1, HQ.out.2] at this
                exact this
              have hbn : ∀ o, Below wr.heap.size wr (wr.alloc o) := fun o => (Below.refl _ _).alloc (Nat.le_refl _) _
              have HBL : Hid (Below wB.heap.size wB wr) := hBl
              clear hKl hT1 hT2 hpj hpj' hBl hbxl
              go_wp2_with (go_at_call 30; refine kat.mono ?_; rintro e w5 ⟨rfl, rfl⟩)
              have hrA : (wr.alloc (.cells #[.pointer pj] 96)).drew.rangeAt gw (j * 30) Lj := range_below hrg ((hbn _).drew)
              have hxA0 : (wr.alloc (.cells #[.pointer pj] 96)).drew.cell? ⟨bx, 0, none⟩ = some (.complex .f64 a1 a2) := ((hbn _).cell (p := ⟨bx, 0, none⟩) hbxs).trans hx0
              have hxA1 : (wr.alloc (.cells #[.pointer pj] 96)).drew.cell? ⟨bx, 1, none⟩ = some (.complex .f64 e1 e2) := ((hbn _).cell (p := ⟨bx, 1, none⟩) hbxs).trans hx1
              have hbxA : bx < (wr.alloc (.cells #[.pointer pj] 96)).drew.heap.size := by simp; omega
              have hHV := HV.out _ (Below.refl _ (wr.alloc (.cells #[.pointer pj] 96))).drew
              have hiS : (Try.prog.info? 72).map (·.size) = some Lj.length := by rw [hLj]; exact infoS
              have huS := Try.underlying72
              have hS0 : (fun w9 : World => w9.rangeAt gw (j * 30) Lj ∧ w9.cell? ⟨bx, 0, none⟩ = some (.complex .f64 a1 a2) ∧ w9.cell? ⟨bx, 1, none⟩ = some (.complex .f64 e1 e2)) (wr.alloc (.cells #[.pointer pj] 96)).drew := ⟨hrA, hxA0, hxA1⟩
              refine region_plain (S := fun w9 : World => w9.rangeAt gw (j * 30) Lj ∧ w9.cell? ⟨bx, 0, none⟩ = some (.complex .f64 a1 a2) ∧ w9.cell? ⟨bx, 1, none⟩ = some (.complex .f64 e1 e2)) 9 rfl (by kernel_rfl) ?_
              refine wpAnyH_take (i := 0) (oi := { dst := some 180, op := .move (.tmp 14), type := _, pos := _, after := _, guard := none }) (v := .slice (some ⟨gw, 0, none⟩) vs.length cap) rfl (by kernel_rfl) (by kernel_rfl) (by kernel_rfl) (fun _ _ _ h => h) (Or.inl ⟨by rfl, fun w9 h9 => by dsimp only at h9; go_simp⟩) hS0 ?_
              simp only [Act.put, List.setIfInBounds_toArray, List.set_cons_zero, List.set_cons_succ]
              refine wpAnyH_take (i := 1) (oi := { dst := some 181, op := .move (.tmp 26), type := _, pos := _, after := _, guard := none }) (v := .int .i64 (j : Int)) rfl (by kernel_rfl) (by kernel_rfl) (by kernel_rfl) (fun _ _ _ h => h) (Or.inl ⟨by rfl, fun w9 h9 => by dsimp only at h9; go_simp⟩) hS0 ?_
              simp only [Act.put, List.setIfInBounds_toArray, List.set_cons_zero, List.set_cons_succ]
              refine wpAnyH_take (i := 2) (oi := { dst := some 182, op := .indexAddr 73 (.tmp 180) (.tmp 181), type := _, pos := _, after := _, guard := none }) (v := .pointer (some ⟨gw, j * 30, none⟩)) rfl (by kernel_rfl) (by kernel_rfl) (by kernel_rfl) (fun _ _ _ h => h) (Or.inl ⟨by rfl, fun w9 h9 => by dsimp only at h9; go_simp⟩) hS0 ?_
              simp only [Act.put, List.setIfInBounds_toArray, List.set_cons_zero, List.set_cons_succ]
              refine wpAnyH_take (i := 3) (oi := { dst := some 183, op := .load 72 (.tmp 182), type := _, pos := _, after := _, guard := none }) (v := .agg Lj.toArray) rfl (by kernel_rfl) (by kernel_rfl) (by kernel_rfl) (fun _ _ _ h => h) (yieldsIf_load_mid (by rfl) 72 (.tmp 182) rfl gw (j * 30) rfl Lj _ (fun w9 h9 => h9.1) huS rfl hiS) hS0 ?_
              simp only [Act.put, List.setIfInBounds_toArray, List.set_cons_zero, List.set_cons_succ]
              refine wpAnyH_take (i := 4) (oi := { dst := some 184, op := .move (.tmp 27), type := _, pos := _, after := _, guard := none }) (v := .pointer (some ⟨wr.heap.size, 0, none⟩)) rfl (by kernel_rfl) (by kernel_rfl) (by kernel_rfl) (fun _ _ _ h => h) (Or.inl ⟨by rfl, fun w9 h9 => by dsimp only at h9; go_simp⟩) hS0 ?_
              simp only [Act.put, List.setIfInBounds_toArray, List.set_cons_zero, List.set_cons_succ]
              refine wpAnyH_take (i := 5) (oi := { dst := some 185, op := .load 45 (.tmp 25), type := _, pos := _, after := _, guard := none }) (v := .agg #[.complex .f64 a1 a2, .complex .f64 e1 e2]) rfl (by kernel_rfl) (by kernel_rfl) (by kernel_rfl) (fun _ _ _ h => h) (Or.inl ⟨by rfl, fun w9 h9 => by dsimp only at h9; go_simp⟩) hS0 ?_
              simp only [Act.put, List.setIfInBounds_toArray, List.set_cons_zero, List.set_cons_succ]
              refine wpAnyH_take (i := 6) (oi := { dst := some 186, op := .move (.tmp 24), type := _, pos := _, after := _, guard := none }) (v := .complex .f64 a1 a2) rfl (by kernel_rfl) (by kernel_rfl) (by kernel_rfl) (fun _ _ _ h => h) (Or.inl ⟨by rfl, fun w9 h9 => by dsimp only at h9; go_simp⟩) hS0 ?_
              simp only [Act.put, List.setIfInBounds_toArray, List.set_cons_zero, List.set_cons_succ]
              refine step1 7 { dst := some 187, op := .call { callee := .value (.func 31), args := #[.tmp 183, .tmp 184, .tmp 185, .tmp 186], argTypes := _ }, type := _, pos := _, after := _, guard := none } (by kernel_rfl) rfl rfl ?_
              intro K hKK
              unfold Oper.wp
              go_simp
              refine hHV.mono ?_
              rintro e w7 ⟨rfl, hb7⟩
              have hS7 : (fun w9 : World => w9.rangeAt gw (j * 30) Lj ∧ w9.cell? ⟨bx, 0, none⟩ = some (.complex .f64 a1 a2) ∧ w9.cell? ⟨bx, 1, none⟩ = some (.complex .f64 e1 e2)) w7 := ⟨range_below hrA hb7, (hb7.cell (p := ⟨bx, 0, none⟩) hbxA).trans hxA0, (hb7.cell (p := ⟨bx, 1, none⟩) hbxA).trans hxA1⟩
              refine hKK _ _ hS7 ?_
              clear hKK K
              refine wpAnyH_take (i := 8) (oi := { dst := some 11, op := .assign (.tmp 187), type := _, pos := _, after := _, guard := none }) (v := .bool true) rfl (by kernel_rfl) (by kernel_rfl) (by kernel_rfl) (fun _ _ _ h => h) (Or.inl ⟨by rfl, fun w9 h9 => by dsimp only at h9; go_simp⟩) hS7 ?_
              simp only [Act.put, List.setIfInBounds_toArray, List.set_cons_zero, List.set_cons_succ]
              refine wpAnyH_done (by kernel_rfl) ?_ _
              have HB7 : Hid (Below wB.heap.size wB w7) := (HBL.out.trans (((hbn _).drew).mono HBL.out.size)).trans (hb7.mono (by have := HBL.out.size; simp; omega))
              clear hb7 hS7 hS0 hrA hxA0 hxA1 hHV HV hrg hld kat HBL
              go_wp2
              go_roundw
              case rel => exact ⟨j + 1, by omega, by go_num, HB7.out⟩
              case measure => simp [intOf]; omega
            · have hjl' : ¬ (j : Int) < (vs.length : Int) := by omega
              obtain ⟨bv, v, hm1, hm2, -⟩ := hKl.map.ex
              have hmc : wr.cell? ⟨bm, 0, none⟩ = some (.pointer (some ⟨bv, 0, none⟩)) := by rw [cell_of_row _ _ 0 _ _ _ hm1]; rfl
              have hms : bm < wr.heap.size := hKl.map.lt
              have hrg := range_block hKl.now
              have hHV : Calls Try.prog 31 #[.agg L.toArray, .pointer (some ⟨bv, 0, none⟩), .agg #[.complex .f64 a1 a2, .complex .f64 e1 e2], .complex .f64 a1 a2] wr.drew fun e w'' => e = .returned (.bool true) ∧ Below wr.drew.heap.size wr.drew w'' := by
                have hbl : Below wr.heap.size wr wr.drew := (Below.refl _ _).drew
                have := tells_T wr.drew L T bv qq qd qq hcd (hKl.stand.kept (.of_below hbl)) (hm2.below hbl)
                rw [HQ.out.1, HQ.out.2] at this
                exact this
              have hiS : (Try.prog.info? 72).map (·.size) = some L.length := by rw [hLl]; exact infoS
              have huS := Try.underlying72
              have hS0 : (fun w9 : World => w9.rangeAt bn 0 L ∧ w9.cell? ⟨bm, 0, none⟩ = some (.pointer (some ⟨bv, 0, none⟩)) ∧ w9.cell? ⟨bx, 0, none⟩ = some (.complex .f64 a1 a2) ∧ w9.cell? ⟨bx, 1, none⟩ = some (.complex .f64 e1 e2)) wr.drew := ⟨range_below hrg (Below.refl _ _).drew, hmc, hx0, hx1⟩
              have HBW : Hid (Below w.heap.size w wr.drew) := hBwl.drew
              have hbb : w.heap.size ≤ wr.drew.heap.size := hBwl.size
              clear hKl hbxl hBwl hm1 hm2 hBl
              go_wp2_with fail
              refine region_plain (S := fun w9 : World => w9.rangeAt bn 0 L ∧ w9.cell? ⟨bm, 0, none⟩ = some (.pointer (some ⟨bv, 0, none⟩)) ∧ w9.cell? ⟨bx, 0, none⟩ = some (.complex .f64 a1 a2) ∧ w9.cell? ⟨bx, 1, none⟩ = some (.complex .f64 e1 e2)) 9 rfl (by kernel_rfl) ?_
              refine wpAnyH_take (i := 0) (oi := { dst := some 190, op := .load 72 (.tmp 13), type := _, pos := _, after := _, guard := none }) (v := .agg L.toArray) rfl (by kernel_rfl) (by kernel_rfl) (by kernel_rfl) (fun _ _ _ h => h) (yieldsIf_load_mid (by rfl) 72 (.tmp 13) rfl bn 0 rfl L _ (fun w9 h9 => h9.1) huS rfl hiS) hS0 ?_
              simp only [Act.put, List.setIfInBounds_toArray, List.set_cons_zero, List.set_cons_succ]
              refine wpAnyH_take (i := 1) (oi := { dst := some 191, op := .move (.tmp 12), type := _, pos := _, after := _, guard := none }) (v := .pointer (some ⟨bm, 0, none⟩)) rfl (by kernel_rfl) (by kernel_rfl) (by kernel_rfl) (fun _ _ _ h => h) (Or.inl ⟨by rfl, fun w9 h9 => by dsimp only at h9; go_simp⟩) hS0 ?_
              simp only [Act.put, List.setIfInBounds_toArray, List.set_cons_zero, List.set_cons_succ]
              refine wpAnyH_take (i := 2) (oi := { dst := some 192, op := .nilCheck (.tmp 191), type := _, pos := _, after := _, guard := none }) (v := .pointer (some ⟨bm, 0, none⟩)) rfl (by kernel_rfl) (by kernel_rfl) (by kernel_rfl) (fun _ _ _ h => h) (Or.inl ⟨by rfl, fun w9 h9 => by dsimp only at h9; go_simp⟩) hS0 ?_
              simp only [Act.put, List.setIfInBounds_toArray, List.set_cons_zero, List.set_cons_succ]
              refine wpAnyH_take (i := 3) (oi := { dst := some 193, op := .fieldAddr 67 (.tmp 192) 0, type := _, pos := _, after := _, guard := none }) (v := .pointer (some ⟨bm, 0, none⟩)) rfl (by kernel_rfl) (by kernel_rfl) (by kernel_rfl) (fun _ _ _ h => h) (Or.inl ⟨by rfl, fun w9 h9 => by dsimp only at h9; go_simp⟩) hS0 ?_
              simp only [Act.put, List.setIfInBounds_toArray, List.set_cons_zero, List.set_cons_succ]
              refine wpAnyH_take (i := 4) (oi := { dst := some 194, op := .load 64 (.tmp 193), type := _, pos := _, after := _, guard := none }) (v := .pointer (some ⟨bv, 0, none⟩)) rfl (by kernel_rfl) (by kernel_rfl) (by kernel_rfl) (fun _ _ _ h => h) (Or.inl ⟨by rfl, fun w9 h9 => by dsimp only at h9; go_simp⟩) hS0 ?_
              simp only [Act.put, List.setIfInBounds_toArray, List.set_cons_zero, List.set_cons_succ]
              refine wpAnyH_take (i := 5) (oi := { dst := some 195, op := .load 45 (.tmp 25), type := _, pos := _, after := _, guard := none }) (v := .agg #[.complex .f64 a1 a2, .complex .f64 e1 e2]) rfl (by kernel_rfl) (by kernel_rfl) (by kernel_rfl) (fun _ _ _ h => h) (Or.inl ⟨by rfl, fun w9 h9 => by dsimp only at h9; go_simp⟩) hS0 ?_
              simp only [Act.put, List.setIfInBounds_toArray, List.set_cons_zero, List.set_cons_succ]
              refine wpAnyH_take (i := 6) (oi := { dst := some 196, op := .move (.tmp 24), type := _, pos := _, after := _, guard := none }) (v := .complex .f64 a1 a2) rfl (by kernel_rfl) (by kernel_rfl) (by kernel_rfl) (fun _ _ _ h => h) (Or.inl ⟨by rfl, fun w9 h9 => by dsimp only at h9; go_simp⟩) hS0 ?_
              simp only [Act.put, List.setIfInBounds_toArray, List.set_cons_zero, List.set_cons_succ]
              refine step1 7 { dst := some 197, op := .call { callee := .value (.func 31), args := #[.tmp 190, .tmp 194, .tmp 195, .tmp 196], argTypes := _ }, type := _, pos := _, after := _, guard := none } (by kernel_rfl) rfl rfl ?_
              intro K hKK
              unfold Oper.wp
              go_simp
              refine hHV.mono ?_
              rintro e w7 ⟨rfl, hb7⟩
              have hS7 : (fun w9 : World => w9.rangeAt bn 0 L ∧ w9.cell? ⟨bm, 0, none⟩ = some (.pointer (some ⟨bv, 0, none⟩)) ∧ w9.cell? ⟨bx, 0, none⟩ = some (.complex .f64 a1 a2) ∧ w9.cell? ⟨bx, 1, none⟩ = some (.complex .f64 e1 e2)) w7 := ⟨range_below hS0.1 hb7, (hb7.cell (p := ⟨bm, 0, none⟩) hms).trans hmc, (hb7.cell (p := ⟨bx, 0, none⟩) hbxs).trans hx0, (hb7.cell (p := ⟨bx, 1, none⟩) hbxs).trans hx1⟩
              refine hKK _ _ hS7 ?_
              clear hKK K
              refine wpAnyH_take (i := 8) (oi := { dst := some 11, op := .assign (.tmp 197), type := _, pos := _, after := _, guard := none }) (v := .bool true) rfl (by kernel_rfl) (by kernel_rfl) (by kernel_rfl) (fun _ _ _ h => h) (Or.inl ⟨by rfl, fun w9 h9 => by dsimp only at h9; go_simp⟩) hS7 ?_
              simp only [Act.put, List.setIfInBounds_toArray, List.set_cons_zero, List.set_cons_succ]
              refine wpAnyH_done (by kernel_rfl) ?_ _
              have HB7 : Hid (Below w.heap.size w w7) := HBW.out.trans (hb7.mono hbb)
              clear hb7 hS7 hS0 hHV hrg HBW
              go_wp2
              go_ret
              exact ⟨rfl, HB7.out⟩
end Go.Proofs.Ytnlkalbkjocoaaa
