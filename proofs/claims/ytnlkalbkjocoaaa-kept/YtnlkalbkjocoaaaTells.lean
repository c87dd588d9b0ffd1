/-
  The law's tells: a view tells what it should.
-/
import Derived.Test.YtnlkalbkjocoaaaStand
namespace Go.Proofs.Ytnlkalbkjocoaaa
open Go.Shelf Go.RowKit

/-- What lies in memory while tells goes through the ids. -/
structure TellAt (w w3 : World) (L : List Value) (T : Nat → Option Tr) (bv : Nat) (c d : Q) (aA aH : Option Addr) (A H : List Nat) : Prop where
  stand : w3.heap[w.heap.size]? = some (.cells L.toArray 72)
  box : w3.heap[w.heap.size + 1]? = some (.cells #[qe c, qe d] 45)
  tri : StandT w3 L T
  view : ViewT w3 bv T
  idsA : ∀ k i : Nat, A[k]? = some i → ∃ g, aA = some ⟨g, 0, none⟩ ∧ w3.cell? ⟨g, k, none⟩ = some (.int .i64 (i : Int))
  idsH : ∀ k i : Nat, H[k]? = some i → ∃ g, aH = some ⟨g, 0, none⟩ ∧ w3.cell? ⟨g, k, none⟩ = some (.int .i64 (i : Int))
  below : Below w.heap.size w w3

theorem TellAt.kept {w w3 w' : World} {L : List Value} {T : Nat → Option Tr} {bv : Nat} {c d : Q} {aA aH : Option Addr} {A H : List Nat} (h : TellAt w w3 L T bv c d aA aH A H) (hb : Below w3.heap.size w3 w') : TellAt w w' L T bv c d aA aH A H :=
  ⟨(hb.block _ (Array.getElem?_eq_some_iff.1 h.stand).1).trans h.stand, (hb.block _ (Array.getElem?_eq_some_iff.1 h.box).1).trans h.box, h.tri.kept (.of_below hb), h.view.below hb,
    fun k i hk => by obtain ⟨g, e1, e2⟩ := h.idsA k i hk; exact ⟨g, e1, (hb.cell (p := ⟨g, k, none⟩) (World.block_lt_of_cell? _ _ e2)).trans e2⟩,
    fun k i hk => by obtain ⟨g, e1, e2⟩ := h.idsH k i hk; exact ⟨g, e1, (hb.cell (p := ⟨g, k, none⟩) (World.block_lt_of_cell? _ _ e2)).trans e2⟩, h.below.trans (hb.mono h.below.size)⟩

set_option maxRecDepth 100000 in
set_option maxHeartbeats 4000000 in
theorem tells_T (w : World) (L : List Value) (T : Nat → Option Tr) (bv : Nat) (c d p : Q) (hcd : qx c ≤ qx d ∧ qy c ≤ qy d) (hL : StandT w L T) (hV : ViewT w bv T) :
    Calls Try.prog 31 #[.agg L.toArray, .pointer (some ⟨bv, 0, none⟩), .agg #[qe c, qe d], qe p] w fun e w' => e = .returned (.bool true) ∧ Below w.heap.size w w' := by
  have hst := store_complex
  have hb2 : ∀ o1 o2, Below w.heap.size w ((w.alloc o1).alloc o2) := fun o1 o2 => ((Below.refl _ _).alloc (Nat.le_refl _) _).alloc (by simp) _
  have k1 : ∀ w1, Below w.heap.size w w1 → _ := fun w1 hb => window_T w1 bv T (hV.below hb) hL.out c d hcd
  have k2 : ∀ w1, Below w.heap.size w w1 → _ := fun w1 hb => hits_T w1 bv T (hV.below hb) hL.out p
  have k3 : ∀ w1, Below w.heap.size w w1 → _ := fun w1 hb => near_T w1 bv T (hV.below hb) hL.out p
  have HL : Hid (∀ w1, Below w.heap.size w w1 → StandT w1 L T ∧ ViewT w1 bv T) := fun w1 hb => ⟨hL.kept (.of_below hb), hV.below hb⟩
  have k4 : ∀ w1, Below w.heap.size w w1 → _ := fun w1 hb => count_T w1 bv T (hV.below hb) hL.out
  clear hL hV
  obtain ⟨A, hA⟩ : ∃ A, A = (List.range 30).filter (winP T c d) := ⟨_, rfl⟩
  obtain ⟨H, hH⟩ : ∃ H, H = (List.range 30).filter (hitP T p) := ⟨_, rfl⟩
  obtain ⟨m, hm⟩ : ∃ m, m = ((List.range 30).filter (someP T)).length := ⟨_, rfl⟩
  rw [← hA] at k1
  rw [← hH] at k2
  rw [← hm] at k3 k4
  have HA : Hid (A = (List.range 30).filter (winP T c d)) := hA
  have HH : Hid (H = (List.range 30).filter (hitP T p)) := hH
  have HM : Hid (m = cnt (someP T) 30) := hm
  clear hA hH hm
  obtain ⟨c1, c2, hc⟩ : ∃ c1 c2, qe c = .complex .f64 c1 c2 := ⟨_, _, rfl⟩
  obtain ⟨d1, d2, hd⟩ : ∃ d1 d2, qe d = .complex .f64 d1 d2 := ⟨_, _, rfl⟩
  obtain ⟨p1, p2, hp⟩ : ∃ p1 p2, qe p = .complex .f64 p1 p2 := ⟨_, _, rfl⟩
  have HC : Hid (qe c = .complex .f64 c1 c2) := hc
  have HD : Hid (qe d = .complex .f64 d1 d2) := hd
  have HPP : Hid (qe p = .complex .f64 p1 p2) := hp
  rw [hc, hd] at k1 ⊢
  rw [hp] at k2 k3 ⊢
  clear hc hd hp
  go_enter Try.func31, Try.ntmps31
  go_wp2_with fail
  refine (k1 _ (hb2 _ _)).mono ?_
  rintro e wA ⟨vA, rfl, hOA, hBA⟩
  obtain ⟨aA, capA, rfl, hAa⟩ := own_form hOA
  have hbA : Below w.heap.size w wA := (hb2 _ _).trans (hBA.mono (by simp; omega))
  have HS : Hid (wA.heap[w.heap.size]? = some (.cells L.toArray 72) ∧ wA.heap[w.heap.size + 1]? = some (.cells #[.complex .f64 c1 c2, .complex .f64 d1 d2] 45)) :=
    ⟨(hBA.block _ (by simp; omega)).trans (heap_old _ _ (by simp) (heap_last _ _ _ rfl)), (hBA.block _ (by simp)).trans (heap_last _ _ _ (by simp))⟩
  have k2' := k2 _ hbA
  clear k1 k2 hOA hBA
  go_wp2_with fail
  refine k2'.mono ?_
  rintro e wH ⟨vH, rfl, hOH, hBH⟩
  obtain ⟨aH, capH, rfl, hHa⟩ := own_form hOH
  have hbH : Below w.heap.size w wH := hbA.trans (hBH.mono hbA.size)
  have k3' := k3 _ hbH
  clear k2' k3 hOH
  go_wp2_with fail
  refine k3'.mono ?_
  rintro e wN ⟨ids, hids, vN, rfl, hON, hBN⟩
  obtain ⟨aN, capN, rfl, -⟩ := own_form hON
  have hbN : Below w.heap.size w wN := hbH.trans (hBN.mono hbH.size)
  have hAN : Below wA.heap.size wA wN := hBH.trans (hBN.mono hBH.size)
  have HT : Hid (TellAt w wN L T bv c d aA aH A H) := ⟨(hAN.block _ (Array.getElem?_eq_some_iff.1 HS.out.1).1).trans HS.out.1, by rw [HC.out, HD.out]; exact (hAN.block _ (Array.getElem?_eq_some_iff.1 HS.out.2).1).trans HS.out.2, (HL.out _ hbN).1, (HL.out _ hbN).2,
    fun k i hk => by obtain ⟨g, e1, e2⟩ := hAa k i hk; exact ⟨g, e1, (hAN.cell (p := ⟨g, k, none⟩) (World.block_lt_of_cell? _ _ e2)).trans e2⟩,
    fun k i hk => by obtain ⟨g, e1, e2⟩ := hHa k i hk; exact ⟨g, e1, (hBN.cell (p := ⟨g, k, none⟩) (World.block_lt_of_cell? _ _ e2)).trans e2⟩, hbN⟩
  rw [hids]
  clear k3' hON hBN hBH hbA hbH hb2 HS HL hAa hHa hids hAN
  go_wp2_with fail
  go_loopw [15, 16, 17, 18] (fun vi vj vn vk wr => ∃ k : Nat, k ≤ 30 ∧ vk = .int .i64 k ∧ vi = .int .i64 (cnt (winP T c d) k : Nat) ∧ vj = .int .i64 (cnt (hitP T p) k : Nat) ∧ vn = .int .i64 (cnt (someP T) k : Nat) ∧ Below wN.heap.size wN wr) (fun _ _ _ vk _ => 30 - (intOf vk).toNat)
  case atStart => exact ⟨0, by omega, rfl, rfl, rfl, rfl, Below.refl _ _⟩
  case round =>
    obtain ⟨k, hk, rfl, rfl, rfl, rfl, hBr⟩ := hrel
    have hTr := HT.out.kept hBr
    by_cases hlt : k < 30
    · have hlt' : (k : Int) < 30 := by omega
      have hk0 : (0 : Int) ≤ (k : Int) := by omega
      have hk64 : IntKind.i64.wrap ((k : Int) + 1) = (k : Int) + 1 := by rw [IntKind.wrap_i64]; omega
      have hn1 : w.heap.size < wr.heap.size := (Array.getElem?_eq_some_iff.1 hTr.stand).1
      have hn2 : w.heap.size + 1 < wr.heap.size := (Array.getElem?_eq_some_iff.1 hTr.box).1
      have q1 : wr.cell? ⟨w.heap.size + 1, 0, none⟩ = some (.complex .f64 c1 c2) := by rw [← HC.out, cell_of_row _ _ 0 _ _ _ hTr.box]; rfl
      have q2 : wr.cell? ⟨w.heap.size + 1, 1, none⟩ = some (.complex .f64 d1 d2) := by rw [← HD.out, cell_of_row _ _ 1 _ _ _ hTr.box]; rfl
      have hqL : wr.cell? ⟨w.heap.size, k, none⟩ = L[k]? := by rw [cell_of_row _ _ k _ _ _ hTr.stand, List.getElem?_toArray]
      cases hTk : T k with
      | none =>
        have q0 := hqL.trans (hTr.tri.nil k hlt hTk)
        have kin := in_T wr.drew L T (hTr.tri.kept (.of_below (Below.refl _ _).drew)) k hlt c d hcd _ (hTr.tri.nil k hlt hTk)
        have khit : ∀ w1, Below wr.heap.size wr w1 → _ := fun w1 hb => hit_T w1 L T (hTr.tri.kept (.of_below hb)) k hlt p _ (hTr.tri.nil k hlt hTk)
        rw [HC.out, HD.out] at kin
        rw [HPP.out] at khit
        have gA : winP T c d k = false := by unfold winP; rw [hTk]
        have gH : hitP T p k = false := by unfold hitP; rw [hTk]
        have gN : someP T k = false := by unfold someP; rw [hTk]; rfl
        clear hqL
        as_aux_lemma =>
          have hA1 : cnt (winP T c d) (k + 1) = cnt (winP T c d) k := cnt_no gA
          have hH1 : cnt (hitP T p) (k + 1) = cnt (hitP T p) k := cnt_no gH
          have hN1 : cnt (someP T) (k + 1) = cnt (someP T) k := cnt_no gN
          rw [gA] at kin
          rw [gH] at khit
          have HE : Hid (cnt (winP T c d) (k + 1) = cnt (winP T c d) k ∧ cnt (hitP T p) (k + 1) = cnt (hitP T p) k ∧ cnt (someP T) (k + 1) = cnt (someP T) k) := ⟨hA1, hH1, hN1⟩
          have bA := cnt_le (winP T c d) k
          have bH := cnt_le (hitP T p) k
          have bN := cnt_le (someP T) k
          clear hA1 hH1 hN1 hTr gA gH gN
          generalize cnt (winP T c d) k = iA at *
          generalize cnt (hitP T p) k = iH at *
          generalize cnt (someP T) k = iN at *
          go_wp2_with fail
          go_region_held3 (fun w' => w'.cell? ⟨w.heap.size, k, none⟩ = some (.slice none 0 0) ∧ w'.cell? ⟨w.heap.size + 1, 0, none⟩ = some (.complex .f64 c1 c2) ∧ w'.cell? ⟨w.heap.size + 1, 1, none⟩ = some (.complex .f64 d1 d2)) (go_keep) (first | (go_at_call 53; refine kin.mono ?_; rintro e w5 ⟨rfl, hb5⟩; have z0 := (hb5.cell (p := ⟨w.heap.size, k, none⟩) hn1).trans q0; have z1 := (hb5.cell (p := ⟨w.heap.size + 1, 0, none⟩) hn2).trans q1; have z2 := (hb5.cell (p := ⟨w.heap.size + 1, 1, none⟩) hn2).trans q2))
          have hb5' : Below wr.heap.size wr w5 := (Below.refl _ _).drew.trans (hb5.mono (Nat.le_refl _))
          have khit' := khit _ hb5'
          clear khit kin hb5
          go_wp2_with fail
          refine khit'.mono ?_
          rintro e w6 ⟨rfl, hb6⟩
          have hbr6 : Below wr.heap.size wr w6 := hb5'.trans (hb6.mono hb5'.size)
          have HB6 : Hid (Below wN.heap.size wN w6) := hBr.trans (hbr6.mono hBr.size)
          clear khit' hb5' hb6 hbr6 hBr z0 z1 z2
          go_wp2
          go_roundw
          case rel => exact ⟨k + 1, by omega, by go_num, by rw [HE.out.1] <;> go_num, by rw [HE.out.2.1] <;> go_num, by rw [HE.out.2.2] <;> go_num, HB6.out⟩
          case measure => simp [intOf]; omega
      | some t =>
        obtain ⟨-, b, hLk, -⟩ := hTr.tri.tri k t hlt hTk
        have q0 := hqL.trans hLk
        have kin := in_T wr.drew L T (hTr.tri.kept (.of_below (Below.refl _ _).drew)) k hlt c d hcd _ hLk
        have khit : ∀ w1, Below wr.heap.size wr w1 → _ := fun w1 hb => hit_T w1 L T (hTr.tri.kept (.of_below hb)) k hlt p _ hLk
        rw [HC.out, HD.out] at kin
        rw [HPP.out] at khit
        have gN : someP T k = true := by unfold someP; rw [hTk]; rfl
        clear hqL hLk
        cases gA : winP T c d k with
        | false =>
          cases gH : hitP T p k with
          | false =>
            as_aux_lemma =>
              have hA1 : cnt (winP T c d) (k + 1) = cnt (winP T c d) k := cnt_no gA
              have hH1 : cnt (hitP T p) (k + 1) = cnt (hitP T p) k := cnt_no gH
              have hN1 : cnt (someP T) (k + 1) = cnt (someP T) k + 1 := cnt_yes gN
              rw [gA] at kin
              rw [gH] at khit
              have HE : Hid (cnt (winP T c d) (k + 1) = cnt (winP T c d) k ∧ cnt (hitP T p) (k + 1) = cnt (hitP T p) k ∧ cnt (someP T) (k + 1) = cnt (someP T) k + 1) := ⟨hA1, hH1, hN1⟩
              have bA := cnt_le (winP T c d) k
              have bH := cnt_le (hitP T p) k
              have bN := cnt_le (someP T) k
              clear hA1 hH1 hN1 hTr gA gH gN
              generalize cnt (winP T c d) k = iA at *
              generalize cnt (hitP T p) k = iH at *
              generalize cnt (someP T) k = iN at *
              have eN4 : IntKind.i64.wrap ((iN : Int) + 1) = (iN : Int) + 1 := by rw [IntKind.wrap_i64]; omega
              go_wp2_with fail
              go_region_held3 (fun w' => w'.cell? ⟨w.heap.size, k, none⟩ = some (.slice (some ⟨b, 0, none⟩) 3 3) ∧ w'.cell? ⟨w.heap.size + 1, 0, none⟩ = some (.complex .f64 c1 c2) ∧ w'.cell? ⟨w.heap.size + 1, 1, none⟩ = some (.complex .f64 d1 d2)) (go_keep) (first | (go_at_call 53; refine kin.mono ?_; rintro e w5 ⟨rfl, hb5⟩; have z0 := (hb5.cell (p := ⟨w.heap.size, k, none⟩) hn1).trans q0; have z1 := (hb5.cell (p := ⟨w.heap.size + 1, 0, none⟩) hn2).trans q1; have z2 := (hb5.cell (p := ⟨w.heap.size + 1, 1, none⟩) hn2).trans q2))
              have hb5' : Below wr.heap.size wr w5 := (Below.refl _ _).drew.trans (hb5.mono (Nat.le_refl _))
              have khit' := khit _ hb5'
              clear khit kin hb5
              go_wp2_with fail
              refine khit'.mono ?_
              rintro e w6 ⟨rfl, hb6⟩
              have hbr6 : Below wr.heap.size wr w6 := hb5'.trans (hb6.mono hb5'.size)
              have HB6 : Hid (Below wN.heap.size wN w6) := hBr.trans (hbr6.mono hBr.size)
              clear khit' hb5' hb6 hbr6 hBr z0 z1 z2
              go_wp2
              go_roundw
              case rel => exact ⟨k + 1, by omega, by go_num, by rw [HE.out.1] <;> go_num, by rw [HE.out.2.1] <;> go_num, by rw [HE.out.2.2] <;> go_num, HB6.out⟩
              case measure => simp [intOf]; omega
          | true =>
            as_aux_lemma =>
              have hA1 : cnt (winP T c d) (k + 1) = cnt (winP T c d) k := cnt_no gA
              have hH1 : cnt (hitP T p) (k + 1) = cnt (hitP T p) k + 1 := cnt_yes gH
              have hN1 : cnt (someP T) (k + 1) = cnt (someP T) k + 1 := cnt_yes gN
              have cH := cnt_at (n := 30) hlt gH
              have lH := cnt_lt (n := 30) hlt gH
              rw [← HH.out] at cH lH
              obtain ⟨gH0, rfl, hcH⟩ := hTr.idsH _ _ cH
              have hcH6 : ∀ w6, Below wr.heap.size wr w6 → w6.cell? ⟨gH0, cnt (hitP T p) k, none⟩ = some (.int .i64 (k : Int)) := fun w6 hb => (hb.cell (p := ⟨gH0, _, none⟩) (World.block_lt_of_cell? _ _ hcH)).trans hcH
              rw [gA] at kin
              rw [gH] at khit
              have HE : Hid (cnt (winP T c d) (k + 1) = cnt (winP T c d) k ∧ cnt (hitP T p) (k + 1) = cnt (hitP T p) k + 1 ∧ cnt (someP T) (k + 1) = cnt (someP T) k + 1) := ⟨hA1, hH1, hN1⟩
              have bA := cnt_le (winP T c d) k
              have bH := cnt_le (hitP T p) k
              have bN := cnt_le (someP T) k
              clear hA1 hH1 hN1 hTr gA gH gN cH hcH
              generalize cnt (winP T c d) k = iA at *
              generalize cnt (hitP T p) k = iH at *
              generalize cnt (someP T) k = iN at *
              have eH1 : (0 : Int) ≤ (iH : Int) := by omega
              have eH2 : (iH : Int) < (H.length : Int) := by omega
              have eH3 : decide ((H.length : Int) ≤ (iH : Int)) = false := by rw [decide_eq_false_iff_not]; omega
              have eH4 : IntKind.i64.wrap ((iH : Int) + 1) = (iH : Int) + 1 := by rw [IntKind.wrap_i64]; omega
              have eN4 : IntKind.i64.wrap ((iN : Int) + 1) = (iN : Int) + 1 := by rw [IntKind.wrap_i64]; omega
              go_wp2_with fail
              go_region_held3 (fun w' => w'.cell? ⟨w.heap.size, k, none⟩ = some (.slice (some ⟨b, 0, none⟩) 3 3) ∧ w'.cell? ⟨w.heap.size + 1, 0, none⟩ = some (.complex .f64 c1 c2) ∧ w'.cell? ⟨w.heap.size + 1, 1, none⟩ = some (.complex .f64 d1 d2)) (go_keep) (first | (go_at_call 53; refine kin.mono ?_; rintro e w5 ⟨rfl, hb5⟩; have z0 := (hb5.cell (p := ⟨w.heap.size, k, none⟩) hn1).trans q0; have z1 := (hb5.cell (p := ⟨w.heap.size + 1, 0, none⟩) hn2).trans q1; have z2 := (hb5.cell (p := ⟨w.heap.size + 1, 1, none⟩) hn2).trans q2))
              have hb5' : Below wr.heap.size wr w5 := (Below.refl _ _).drew.trans (hb5.mono (Nat.le_refl _))
              have khit' := khit _ hb5'
              clear khit kin hb5
              go_wp2_with fail
              refine khit'.mono ?_
              rintro e w6 ⟨rfl, hb6⟩
              have hbr6 : Below wr.heap.size wr w6 := hb5'.trans (hb6.mono hb5'.size)
              have hcH7 := hcH6 _ hbr6
              have HB6 : Hid (Below wN.heap.size wN w6) := hBr.trans (hbr6.mono hBr.size)
              clear khit' hb5' hb6 hbr6 hBr z0 z1 z2 hcH6
              go_wp2
              go_roundw
              case rel => exact ⟨k + 1, by omega, by go_num, by rw [HE.out.1] <;> go_num, by rw [HE.out.2.1] <;> go_num, by rw [HE.out.2.2] <;> go_num, HB6.out⟩
              case measure => simp [intOf]; omega
        | true =>
          cases gH : hitP T p k with
          | false =>
            as_aux_lemma =>
              have hA1 : cnt (winP T c d) (k + 1) = cnt (winP T c d) k + 1 := cnt_yes gA
              have hH1 : cnt (hitP T p) (k + 1) = cnt (hitP T p) k := cnt_no gH
              have hN1 : cnt (someP T) (k + 1) = cnt (someP T) k + 1 := cnt_yes gN
              have cA := cnt_at (n := 30) hlt gA
              have lA := cnt_lt (n := 30) hlt gA
              rw [← HA.out] at cA lA
              obtain ⟨gA0, rfl, hcA⟩ := hTr.idsA _ _ cA
              have hcA6 : ∀ w6, Below wr.heap.size wr w6 → w6.cell? ⟨gA0, cnt (winP T c d) k, none⟩ = some (.int .i64 (k : Int)) := fun w6 hb => (hb.cell (p := ⟨gA0, _, none⟩) (World.block_lt_of_cell? _ _ hcA)).trans hcA
              rw [gA] at kin
              rw [gH] at khit
              have HE : Hid (cnt (winP T c d) (k + 1) = cnt (winP T c d) k + 1 ∧ cnt (hitP T p) (k + 1) = cnt (hitP T p) k ∧ cnt (someP T) (k + 1) = cnt (someP T) k + 1) := ⟨hA1, hH1, hN1⟩
              have bA := cnt_le (winP T c d) k
              have bH := cnt_le (hitP T p) k
              have bN := cnt_le (someP T) k
              clear hA1 hH1 hN1 hTr gA gH gN cA hcA
              generalize cnt (winP T c d) k = iA at *
              generalize cnt (hitP T p) k = iH at *
              generalize cnt (someP T) k = iN at *
              have eA1 : (0 : Int) ≤ (iA : Int) := by omega
              have eA2 : (iA : Int) < (A.length : Int) := by omega
              have eA3 : decide ((A.length : Int) ≤ (iA : Int)) = false := by rw [decide_eq_false_iff_not]; omega
              have eA4 : IntKind.i64.wrap ((iA : Int) + 1) = (iA : Int) + 1 := by rw [IntKind.wrap_i64]; omega
              have eN4 : IntKind.i64.wrap ((iN : Int) + 1) = (iN : Int) + 1 := by rw [IntKind.wrap_i64]; omega
              go_wp2_with fail
              go_region_held3 (fun w' => w'.cell? ⟨w.heap.size, k, none⟩ = some (.slice (some ⟨b, 0, none⟩) 3 3) ∧ w'.cell? ⟨w.heap.size + 1, 0, none⟩ = some (.complex .f64 c1 c2) ∧ w'.cell? ⟨w.heap.size + 1, 1, none⟩ = some (.complex .f64 d1 d2)) (go_keep) (first | (go_at_call 53; refine kin.mono ?_; rintro e w5 ⟨rfl, hb5⟩; have z0 := (hb5.cell (p := ⟨w.heap.size, k, none⟩) hn1).trans q0; have z1 := (hb5.cell (p := ⟨w.heap.size + 1, 0, none⟩) hn2).trans q1; have z2 := (hb5.cell (p := ⟨w.heap.size + 1, 1, none⟩) hn2).trans q2))
              have hb5' : Below wr.heap.size wr w5 := (Below.refl _ _).drew.trans (hb5.mono (Nat.le_refl _))
              have khit' := khit _ hb5'
              clear khit kin hb5
              go_wp2_with fail
              refine khit'.mono ?_
              rintro e w6 ⟨rfl, hb6⟩
              have hbr6 : Below wr.heap.size wr w6 := hb5'.trans (hb6.mono hb5'.size)
              have hcA7 := hcA6 _ hbr6
              have HB6 : Hid (Below wN.heap.size wN w6) := hBr.trans (hbr6.mono hBr.size)
              clear khit' hb5' hb6 hbr6 hBr z0 z1 z2 hcA6
              go_wp2
              go_roundw
              case rel => exact ⟨k + 1, by omega, by go_num, by rw [HE.out.1] <;> go_num, by rw [HE.out.2.1] <;> go_num, by rw [HE.out.2.2] <;> go_num, HB6.out⟩
              case measure => simp [intOf]; omega
          | true =>
            as_aux_lemma =>
              have hA1 : cnt (winP T c d) (k + 1) = cnt (winP T c d) k + 1 := cnt_yes gA
              have hH1 : cnt (hitP T p) (k + 1) = cnt (hitP T p) k + 1 := cnt_yes gH
              have hN1 : cnt (someP T) (k + 1) = cnt (someP T) k + 1 := cnt_yes gN
              have cA := cnt_at (n := 30) hlt gA
              have lA := cnt_lt (n := 30) hlt gA
              rw [← HA.out] at cA lA
              obtain ⟨gA0, rfl, hcA⟩ := hTr.idsA _ _ cA
              have hcA6 : ∀ w6, Below wr.heap.size wr w6 → w6.cell? ⟨gA0, cnt (winP T c d) k, none⟩ = some (.int .i64 (k : Int)) := fun w6 hb => (hb.cell (p := ⟨gA0, _, none⟩) (World.block_lt_of_cell? _ _ hcA)).trans hcA
              have cH := cnt_at (n := 30) hlt gH
              have lH := cnt_lt (n := 30) hlt gH
              rw [← HH.out] at cH lH
              obtain ⟨gH0, rfl, hcH⟩ := hTr.idsH _ _ cH
              have hcH6 : ∀ w6, Below wr.heap.size wr w6 → w6.cell? ⟨gH0, cnt (hitP T p) k, none⟩ = some (.int .i64 (k : Int)) := fun w6 hb => (hb.cell (p := ⟨gH0, _, none⟩) (World.block_lt_of_cell? _ _ hcH)).trans hcH
              rw [gA] at kin
              rw [gH] at khit
              have HE : Hid (cnt (winP T c d) (k + 1) = cnt (winP T c d) k + 1 ∧ cnt (hitP T p) (k + 1) = cnt (hitP T p) k + 1 ∧ cnt (someP T) (k + 1) = cnt (someP T) k + 1) := ⟨hA1, hH1, hN1⟩
              have bA := cnt_le (winP T c d) k
              have bH := cnt_le (hitP T p) k
              have bN := cnt_le (someP T) k
              clear hA1 hH1 hN1 hTr gA gH gN cA hcA cH hcH
              generalize cnt (winP T c d) k = iA at *
              generalize cnt (hitP T p) k = iH at *
              generalize cnt (someP T) k = iN at *
              have eA1 : (0 : Int) ≤ (iA : Int) := by omega
              have eA2 : (iA : Int) < (A.length : Int) := by omega
              have eA3 : decide ((A.length : Int) ≤ (iA : Int)) = false := by rw [decide_eq_false_iff_not]; omega
              have eA4 : IntKind.i64.wrap ((iA : Int) + 1) = (iA : Int) + 1 := by rw [IntKind.wrap_i64]; omega
              have eH1 : (0 : Int) ≤ (iH : Int) := by omega
              have eH2 : (iH : Int) < (H.length : Int) := by omega
              have eH3 : decide ((H.length : Int) ≤ (iH : Int)) = false := by rw [decide_eq_false_iff_not]; omega
              have eH4 : IntKind.i64.wrap ((iH : Int) + 1) = (iH : Int) + 1 := by rw [IntKind.wrap_i64]; omega
              have eN4 : IntKind.i64.wrap ((iN : Int) + 1) = (iN : Int) + 1 := by rw [IntKind.wrap_i64]; omega
              go_wp2_with fail
              go_region_held3 (fun w' => w'.cell? ⟨w.heap.size, k, none⟩ = some (.slice (some ⟨b, 0, none⟩) 3 3) ∧ w'.cell? ⟨w.heap.size + 1, 0, none⟩ = some (.complex .f64 c1 c2) ∧ w'.cell? ⟨w.heap.size + 1, 1, none⟩ = some (.complex .f64 d1 d2)) (go_keep) (first | (go_at_call 53; refine kin.mono ?_; rintro e w5 ⟨rfl, hb5⟩; have z0 := (hb5.cell (p := ⟨w.heap.size, k, none⟩) hn1).trans q0; have z1 := (hb5.cell (p := ⟨w.heap.size + 1, 0, none⟩) hn2).trans q1; have z2 := (hb5.cell (p := ⟨w.heap.size + 1, 1, none⟩) hn2).trans q2))
              have hb5' : Below wr.heap.size wr w5 := (Below.refl _ _).drew.trans (hb5.mono (Nat.le_refl _))
              have khit' := khit _ hb5'
              clear khit kin hb5
              go_wp2_with fail
              refine khit'.mono ?_
              rintro e w6 ⟨rfl, hb6⟩
              have hbr6 : Below wr.heap.size wr w6 := hb5'.trans (hb6.mono hb5'.size)
              have hcA7 := hcA6 _ hbr6
              have hcH7 := hcH6 _ hbr6
              have HB6 : Hid (Below wN.heap.size wN w6) := hBr.trans (hbr6.mono hBr.size)
              clear khit' hb5' hb6 hbr6 hBr z0 z1 z2 hcA6 hcH6
              go_wp2
              go_roundw
              case rel => exact ⟨k + 1, by omega, by go_num, by rw [HE.out.1] <;> go_num, by rw [HE.out.2.1] <;> go_num, by rw [HE.out.2.2] <;> go_num, HB6.out⟩
              case measure => simp [intOf]; omega
    · obtain rfl : k = 30 := by omega
      have eA : (cnt (winP T c d) 30) = A.length := by rw [HA.out]; rfl
      have eH : (cnt (hitP T p) 30) = H.length := by rw [HH.out]; rfl
      have eN : (cnt (someP T) 30) = m := HM.out.symm
      rw [eA, eH, eN]
      have hbw : Below w.heap.size w wr := hbN.trans (hBr.mono hbN.size)
      have k4' := k4 _ hbw
      have HBW : Hid (Below w.heap.size w wr) := hbw
      clear k4 hTr hBr hbw eA eH eN
      go_wp2_with fail
      refine k4'.mono ?_
      rintro e w9 ⟨rfl, hb9⟩
      go_wp2
      go_ret
      exact ⟨rfl, HBW.out.trans (hb9.mono HBW.out.size)⟩
end Go.Proofs.Ytnlkalbkjocoaaa
