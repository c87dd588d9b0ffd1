/-
  Maps and views of the law's triangles: what Get, Turn, Commit and At do; what Window, Hits, Near and Count answer.
-/
import Derived.Test.YtnlkalbkjocoaaaTV
import Derived.Deep.AppendLies
import Derived.Deep.RegionLaw
namespace Go.Proofs.Ytnlkalbkjocoaaa
open Go.Shelf Go.RowKit

set_option maxRecDepth 100000 in
set_option maxHeartbeats 400000 in
theorem corners_T (w : World) (s : Nat) (t : Tr) (V : Q × Q) (h : ShapeHas w s t.l V) :
    Calls Try.prog 76 #[.pointer (some ⟨s, 0, none⟩)] w fun e w' => (∃ g cap, e = .returned (.slice (some ⟨g, 0, none⟩) 3 cap) ∧ At w' g 0 t.l ∧ g < w'.heap.size) ∧ Below w.heap.size w w' := by
  obtain ⟨gc, cap, cur, h1, h2, h4, h5⟩ := h
  have hA : At w gc 0 t.l := fun k hk => by
    rw [Nat.zero_add, cell_of_row w gc k _ _ _ h2]; exact h5 k hk
  have k0 : w.cell? ⟨s, 0, none⟩ = some (.slice (some ⟨gc, 0, none⟩) 3 cap) := by rw [cell_of_row w s 0 _ _ _ h1]; rfl
  have c1 := clone_q (cap := cap) (by rw [tr_len]; omega : t.l.length ≤ 64) (by rw [tr_len]; omega) (at_lies hA)
  rw [tr_len] at c1
  clear h1 h2 h5 hA
  go_enter Try.func76, Try.ntmps76
  go_wp2_with fail
  refine c1.mono ?_
  rintro e w' ⟨g, cap', rfl, hO, hB⟩
  have HA : Hid (At w' g 0 t.l ∧ g < w'.heap.size) := by
    have hO' : Owns w' w.heap.size (.slice (some ⟨g, 0, none⟩) 3 cap') t.l := hO
    exact ⟨owns_at hO', (own_block hO' rfl).2.elim fun _ h => (Array.getElem?_eq_some_iff.1 h).1⟩
  clear hO
  go_wp2
  go_ret
  exact ⟨⟨g, cap', rfl, HA.out.1, HA.out.2⟩, hB⟩

set_option maxRecDepth 100000 in
set_option maxHeartbeats 400000 in
theorem get_T_none (w : World) (bv i : Nat) (T : Nat → Option Tr) (h : ViewT w bv T) (hi : i < 32) (hT : T i = none) :
    Calls Try.prog 50 #[.pointer (some ⟨bv, 0, none⟩), .int .i64 i] w fun e w' => e = .returned (.tuple #[.slice none 0 0, .int .i64 8]) ∧ Below w.heap.size w w' := by
  obtain ⟨r, g, hS, hS1, hS2⟩ := h.shelf
  have c1 := viewFind_any w bv r g hS i (by omega)
  rw [hS1 i hT] at c1
  unfold ptr at c1
  simp only [Option.map_none, Option.isSome_none, Bool.false_eq_true, if_false] at c1
  clear hS hS1 hS2 h
  go_enter Try.func50, Try.ntmps50
  go_wp2_with (first | (go_at_call 44; refine c1.mono ?_; rintro e w0 ⟨rfl, hB0⟩))
  go_ret2
  exact ⟨rfl, hB0⟩

set_option maxRecDepth 100000 in
set_option maxHeartbeats 400000 in
theorem get_T_there (w : World) (bv i : Nat) (T : Nat → Option Tr) (t : Tr) (h : ViewT w bv T) (hi : i < 32) (hT : T i = some t) :
    Calls Try.prog 50 #[.pointer (some ⟨bv, 0, none⟩), .int .i64 i] w fun e w' => (∃ g cap, e = .returned (.tuple #[.slice (some ⟨g, 0, none⟩) 3 cap, .int .i64 0]) ∧ At w' g 0 t.l ∧ g < w'.heap.size) ∧ Below w.heap.size w w' := by
  obtain ⟨r, g, hS, hS1, hS2⟩ := h.shelf
  have c1 := viewFind_any w bv r g hS i (by omega)
  obtain ⟨-, k, hk, hH⟩ := hS2 i t hT
  rw [hk] at c1
  unfold ptr at c1
  simp only [Option.map_some, Option.isSome_some, if_true] at c1
  have c2 : ∀ w0, Below w.heap.size w w0 → _ := fun w0 hb => corners_T w0 k t (t.lo, t.hi) (hH.kept (.of_below hb))
  clear hS hS1 hS2 h hH
  go_enter Try.func50, Try.ntmps50
  go_wp2_with (first | (go_at_call 44; refine c1.mono ?_; rintro e w0 ⟨rfl, hB0⟩) | (go_at_call 76; refine (c2 _ hB0).mono ?_; rintro e w1 ⟨⟨g', cap, rfl, hA, hl⟩, hB1⟩))
  go_ret2
  exact ⟨⟨g', cap, rfl, hA, hl⟩, hB0.trans (hB1.mono hB0.size)⟩

set_option maxRecDepth 100000 in
set_option maxHeartbeats 800000 in
theorem turn_T_none (w : World) (base bm i b1 b2 : Nat) (T : Nat → Option Tr) (vs : List (Option Nat)) (h : MapT w base bm T vs) (hi : i < 32) (hT : T i = none) :
    Calls Try.prog 29 #[.pointer (some ⟨bm, 0, none⟩), .int .i64 i, .agg #[.complex .f64 4607182418800017408 0, .complex .f64 b1 b2]] w fun e w' => e = .returned (.int .i64 8) ∧ Below w.heap.size w w' := by
  obtain ⟨bv, hm, hv, -⟩ := h.find i (by omega)
  have hlt := h.lt
  have hb1 : ∀ o, Below w.heap.size w (w.alloc o) := fun o => (Below.refl _ _).alloc (Nat.le_refl _) _
  have hm' : ∀ o, (w.alloc o).cell? ⟨bm, 0, none⟩ = some (.pointer (some ⟨bv, 0, none⟩)) := fun o => by rw [World.cell?_alloc_lt _ _ _ hlt]; exact hm
  have c1 := fun o => get_T_none (w.alloc o) bv i T (hv.below (hb1 o)) hi hT
  clear h hv
  have hst := store_complex
  go_enter Try.func29, Try.ntmps29
  go_wp2_with (first | (go_at_call 50; refine (c1 _).mono ?_; rintro e w0 ⟨rfl, hB0⟩))
  go_ret
  exact ⟨rfl, (hb1 _).trans (hB0.mono (by simp))⟩

theorem one_bits : (Z.of 1).bits = 4607182418800017408 := by decide +kernel

theorem apply_T (t : Tr) (sx sy : Int) (ht : t.ok) (ht' : Tr.ok ⟨t.u + sx, t.v + sy, t.k⟩) (hb : -50 ≤ sx ∧ sx ≤ 50 ∧ -50 ≤ sy ∧ sy ≤ 50) (g cap : Nat) (w : World) (hl : At w g 0 t.l) (hg : g < w.heap.size) :
    Calls Try.prog 14 #[.agg #[.complex .f64 4607182418800017408 0, .complex .f64 (Z.of sx).bits (Z.of sy).bits], .slice (some ⟨g, 0, none⟩) 3 cap] w fun e w' =>
      e = .returned (.tuple #[.slice (some ⟨w.heap.size + 3, 0, none⟩) 3 3, .int .i64 0]) ∧ Below w.heap.size w w' ∧ At w' (w.heap.size + 3) 0 (Tr.l ⟨t.u + sx, t.v + sy, t.k⟩) ∧ w.heap.size + 3 < w'.heap.size := by
  have hm := triQ_move (u := t.u) (v := t.v) (k := t.k) (s := sx) (t := sy) ht ht'
  have hA : areB ((t.l.map qc).map (C.move (C.of 1 0) (C.of sx sy))) = true := by
    show areB (((triQ t.u t.v t.k).map qc).map _) = true
    rw [hm]; exact areB_true (qs_lim _)
  have := apply_ok (C.of 1 0) (C.of sx sy) (t.l.map qc) g 0 cap w (by unfold C.lim; rw [C.X_of, C.Y_of]; omega) (by unfold C.lim; rw [C.X_of, C.Y_of]; omega) (at_lies hl) hg (qs_lim t.l) (by rw [List.length_map, tr_len]; omega) (by rw [List.length_map, tr_len]; omega) hA
  rw [List.length_map, tr_len] at this
  have e1 : (C.of 1 0).re.bits = 4607182418800017408 := one_bits
  have e2 : (C.of 1 0).im.bits = 0 := zero_bits.symm
  rw [e1, e2] at this
  refine this.mono ?_
  rintro e w' ⟨h1, h2, h3, h4⟩
  refine ⟨h1, h2, lies_at ?_, h4⟩
  show Lies w' (w.heap.size + 3) 0 ((triQ (t.u + sx) (t.v + sy) t.k).map qc)
  rw [← hm]; exact h3

set_option maxRecDepth 100000 in
set_option maxHeartbeats 800000 in
theorem turn_T_there (w : World) (base bm i : Nat) (T : Nat → Option Tr) (vs : List (Option Nat)) (t : Tr) (sx sy : Int) (h : MapT w base bm T vs) (hi : i < 32) (hT : T i = some t) (ht' : Tr.ok ⟨t.u + sx, t.v + sy, t.k⟩) (hb : -50 ≤ sx ∧ sx ≤ 50 ∧ -50 ≤ sy ∧ sy ≤ 50) :
    Calls Try.prog 29 #[.pointer (some ⟨bm, 0, none⟩), .int .i64 i, .agg #[.complex .f64 4607182418800017408 0, .complex .f64 (Z.of sx).bits (Z.of sy).bits]] w fun e w' => e = .returned (.int .i64 0) ∧ MapT w' base bm (updT T i (some ⟨t.u + sx, t.v + sy, t.k⟩)) vs ∧ MOp base w w' := by
  obtain ⟨bv, hm, hv, -⟩ := h.find i (by omega)
  have ht : t.ok := by obtain ⟨r, g, -, -, q⟩ := hv.shelf; exact (q i t hT).1
  have hlt := h.lt
  have hb1 : ∀ o, Below w.heap.size w (w.alloc o) := fun o => (Below.refl _ _).alloc (Nat.le_refl _) _
  have hm' : ∀ o, (w.alloc o).cell? ⟨bm, 0, none⟩ = some (.pointer (some ⟨bv, 0, none⟩)) := fun o => by rw [World.cell?_alloc_lt _ _ _ hlt]; exact hm
  have c1 := fun o => get_T_there (w.alloc o) bv i T t (hv.below (hb1 o)) hi hT
  have c2 : ∀ g cap w1, At w1 g 0 t.l → g < w1.heap.size → _ := fun g cap w1 q1 q2 => apply_T t sx sy ht ht' hb g cap w1 q1 q2
  have c4 : ∀ b w1, At w1 b 0 (Tr.l ⟨t.u + sx, t.v + sy, t.k⟩) → b < w1.heap.size → _ := fun b w1 q1 q2 => newShape_T ⟨t.u + sx, t.v + sy, t.k⟩ ht' b 3 w1 q1 q2 (by omega)
  generalize (⟨t.u + sx, t.v + sy, t.k⟩ : Tr) = t' at *
  have c5 : ∀ (w1 : World) (s : Nat), Below w.heap.size w w1 → ShapeHas w1 s t'.l (t'.lo, t'.hi) → Calls Try.prog 45 #[.pointer (some ⟨bm, 0, none⟩), .int .i64 i, .pointer (some ⟨s, 0, none⟩)] w1 fun e w' => e = .returned (.tuple #[]) ∧ MapT w' base bm (updT T i (some t')) vs ∧ MOp base w1 w' :=
    fun w1 s hw q => lay_T w1 base bm i (some s) T (some t') vs (h.below hw) hi (fun e => nomatch e) (fun t'' e => by cases e; exact ⟨ht', s, rfl, q⟩)
  have hbase : base ≤ w.heap.size := Nat.le_trans h.ge (Nat.le_of_lt h.lt)
  have HG : Hid (∀ w1 w2 : World, Below w.heap.size w w1 → MOp base w1 w2 → MOp base w w2) := fun w1 w2 q1 q2 => (MOp.of_below q1 hbase).trans q2
  clear h hv
  have hst := store_complex
  generalize (Z.of sx).bits = s1 at *
  generalize (Z.of sy).bits = s2 at *
  go_enter Try.func29, Try.ntmps29
  go_wp2_with fail
  refine (c1 _).mono ?_
  rintro e w0 ⟨⟨g, cap, rfl, hA, hg⟩, hB0⟩
  have k0 : w0.cell? ⟨w.heap.size, 0, none⟩ = some (.complex .f64 4607182418800017408 0) := by rw [hB0.cell (p := ⟨w.heap.size, 0, none⟩) (by simp)]; simp [go_sem]
  have k1 : w0.cell? ⟨w.heap.size, 1, none⟩ = some (.complex .f64 s1 s2) := by rw [hB0.cell (p := ⟨w.heap.size, 1, none⟩) (by simp)]; simp [go_sem]
  have hBw : Below w.heap.size w w0 := (hb1 _).trans (hB0.mono (by simp))
  have c2' := c2 g cap w0 hA hg
  clear c1 c2 hB0 hA hm' hb1
  go_wp2_with fail
  refine c2'.mono ?_
  rintro e w1 ⟨rfl, hB1, hA1, hl1⟩
  have hBw1 : Below w.heap.size w w1 := hBw.trans (hB1.mono hBw.size)
  have c4' := c4 _ _ hA1 hl1
  clear c4 c2' hB1 hBw hA1
  go_wp2_with fail
  refine c4'.mono ?_
  rintro e w2 ⟨⟨s, rfl, hS⟩, hB2⟩
  have hBw2 : Below w.heap.size w w2 := hBw1.trans (hB2.mono hBw1.size)
  have c5' := c5 _ _ hBw2 hS
  have HB2 : Hid (Below w.heap.size w w2) := hBw2
  clear c4' c5 hB2 hS hBw1 hBw2
  go_wp2_with fail
  refine c5'.mono ?_
  rintro e w3 ⟨rfl, hL, hop⟩
  go_wp2
  go_ret
  exact ⟨rfl, hL, HG.out _ _ HB2.out hop⟩

theorem infoV : (Try.prog.info? 96).map (fun i => (i.zero, i.size, i.bytes)) = some (some (.agg #[.pointer none]), 1, 8) := by kernel_rfl

/-- What Commit has done: a version more. -/
def Committed (w : World) (bm n : Nat) (base : Nat) (v : Value) (xs : List Value) (p : Value) (w' : World) : Prop := ∃ g cap w3, w3.ownsRow base 96 1 (.slice (some ⟨g, 0, none⟩) (n + 1) cap) (n + 1) (xs ++ [p]) ∧ (∃ o, (w.alloc o).drew.grownBy w3 v.ownBlock) ∧ (v.ownBlock = some g ∨ g = w.heap.size + 1) ∧ w' = w3.setCell ⟨bm, 1, none⟩ (.slice (some ⟨g, 0, none⟩) (n + 1) cap)

set_option maxRecDepth 100000 in
set_option maxHeartbeats 800000 in
theorem commit_core (w : World) (base bm bv n : Nat) (pro : Option Addr) (v : Value) (xs : List Value) (hbase : base ≤ w.heap.size)
    (k0 : w.cell? ⟨bm, 0, none⟩ = some (.pointer (some ⟨bv, 0, none⟩))) (k1 : w.cell? ⟨bm, 1, none⟩ = some v) (kf : w.frozen? ⟨bm, 1, none⟩ = false) (kv : w.cell? ⟨bv, 0, none⟩ = some (.pointer pro)) (_hne : bm ≠ bv)
    (hown : w.ownsRow base 96 1 v n xs) (hg1 : v.ownBlock ≠ some bm) (_hg2 : v.ownBlock ≠ some bv) (hn : n ≤ 10000) :
    Calls Try.prog 27 #[.pointer (some ⟨bm, 0, none⟩)] w fun e w' => e = .returned (.int .i64 n) ∧ Committed w bm n base v xs (.pointer pro) w' := by
  have hbm : bm < w.heap.size := World.block_lt_of_cell? _ _ k0
  have hbv : bv < w.heap.size := World.block_lt_of_cell? _ _ kv
  obtain ⟨i0, hi0, hz0, hz1, hz2⟩ := info_parts infoV
  have hw : IntKind.i64.wrap ((n : Int) + 1 - 1) = (n : Int) := by rw [IntKind.wrap_i64]; omega
  go_enter Try.func27, Try.ntmps27
  go_wp2_with fail
  have kd0 : w.drew.cell? ⟨bm, 0, none⟩ = some (.pointer (some ⟨bv, 0, none⟩)) := k0
  have kd1 : w.drew.cell? ⟨bm, 1, none⟩ = some v := k1
  have kdv : w.drew.cell? ⟨bv, 0, none⟩ = some (.pointer pro) := kv
  have ka1 : ∀ o, (w.alloc o).drew.cell? ⟨bm, 1, none⟩ = some v := fun o => by rw [← k1]; exact World.cell?_alloc_lt _ _ _ hbm
  have kaf : ∀ o, (w.alloc o).drew.frozen? ⟨bm, 1, none⟩ = false := fun o => by rw [← kf]; exact World.frozen?_alloc_old _ _ _ (Nat.ne_of_lt hbm)
  have hszd : ∀ o, bm < (w.alloc o).drew.heap.size := fun o => by simp; omega
  go_region_law (first
      | (refine step_append_lies _ (by rfl) _ _ _ (by rfl) base 96 i0 _ 1 8 Try.underlying65 hi0 hz0 hz1 hz2 rfl (by omega) v n xs (by rfl) ((hown.alloc _).drew)
          ⟨w.heap.size, 0, none⟩ 1 1 [.pointer pro] (by rfl) (by rfl) (World.news_of_block (cs := #[.pointer pro]) (t := 96) (fr := (0, 0)) (heap_alloc_new w _)) (by simp [Value.oneCell'])
          (by omega) (by unfold maxLen; omega) (by omega) (by simp; omega) (w.heap.size + 1) (by simp) ?_; intro gg cap' w3 hown3 hgrow hatt hlt; have hk1 := (hgrow.cell_far ⟨bm, 1, none⟩ (hszd _) (fun e => hg1 e.symm)).trans (ka1 _); have hkf := (hgrow.frozen_far ⟨bm, 1, none⟩ (hszd _) (fun e => hg1 e.symm)).trans (kaf _)))
  all_goals
    have HC : Hid (Committed w bm n base v xs (.pointer pro) (w3.setCell ⟨bm, 1, none⟩ (.slice (some ⟨gg, 0, none⟩) (n + 1) cap'))) := ⟨gg, cap', w3, hown3, ⟨_, hgrow⟩, hatt, rfl⟩
    clear hown3 hgrow hatt hown ka1 kaf hszd kd0 kd1 kdv
    go_wp2
    go_ret
    exact ⟨rfl, HC.out⟩

theorem commit_T (w : World) (base bm : Nat) (T : Nat → Option Tr) (vs : List (Option Nat)) (h : MapT w base bm T vs) (hn : vs.length ≤ 10000) :
    Calls Try.prog 27 #[.pointer (some ⟨bm, 0, none⟩)] w fun e w' => e = .returned (.int .i64 vs.length) ∧ ∃ ro, MapT w' base bm T (vs ++ [ro]) ∧ ShelfT w' ro T ∧ MOp base w w' := by
  have hbm := h.lt
  have hge := h.ge
  obtain ⟨bv, v, h1, h2, h3, h4⟩ := h.ex
  have hbv := h2.lt
  obtain ⟨ro, hv, hS⟩ := h2
  have hne : bm ≠ bv := ne_of_type h1 hv (by decide)
  have hg1 : v.ownBlock ≠ some bm := fun e => by
    obtain ⟨-, cur, hcur⟩ := own_block h3 e
    rw [h1] at hcur; cases hcur
  refine (commit_core w base bm bv vs.length (ro.map fun k => ⟨k, 0, none⟩) v _ (by omega) (by rw [cell_of_row w bm 0 _ _ _ h1]; rfl) (by rw [cell_of_row w bm 1 _ _ _ h1]; rfl) (frozen_of h1) (by rw [cell_of_row w bv 0 _ _ _ hv]; rfl) hne h3 hg1 h4 hn).mono ?_
  rintro e w' ⟨rfl, g, cap, w3, k1, ⟨o, k2⟩, k3, rfl⟩
  have hs3 : w.heap.size < w3.heap.size := by have := k2.size; simp at this; omega
  have hkeep : ∀ j, j < w.heap.size → v.ownBlock ≠ some j → w3.heap[j]? = w.heap[j]? := fun j hj hn' =>
    (k2.block j (by simp; omega) (fun e => hn' e.symm)).trans (heap_old w o hj rfl)
  have hgm : g ≠ bm := by
    rintro rfl
    rcases k3 with k3 | k3
    · exact hg1 k3
    · omega
  have hgv : g ≠ bv := by
    rintro rfl
    rcases k3 with k3 | k3
    · exact h4 k3
    · omega
  have hm3 := (hkeep bm hbm hg1).trans h1
  have hop : MOp base w (w3.setCell ⟨bm, 1, none⟩ (.slice (some ⟨g, 0, none⟩) (vs.length + 1) cap)) := by
    refine ⟨⟨?_, ?_, ?_, ?_, fun j hj => ?_⟩, fun j c t hj t1 t2 => ?_⟩
    · exact k2.os
    · exact k2.tape
    · exact k2.output
    · simp [World.setCell]; omega
    · refine (heap_setCell_other _ _ _ _ (by show j ≠ bm; omega)).trans (hkeep j (by omega) fun e => ?_)
      have := (own_block h3 e).1; omega
    · refine (heap_setCell_other _ _ _ _ (ne_of_type hj h1 t1)).trans (hkeep j (Array.getElem?_eq_some_iff.1 hj).1 fun e => ?_)
      obtain ⟨-, cur, hcur⟩ := own_block h3 e
      rw [hj] at hcur; cases hcur; exact t2 rfl
  refine ⟨rfl, ro, ⟨hge, bv, _, heap_setCell_same _ hm3, ⟨ro, (heap_setCell_other _ _ _ _ (fun e => hne e.symm)).trans ((hkeep bv hbv h4).trans hv), hS.kept hop.keeps⟩, ?_, fun e => hgv (by simpa [Value.ownBlock] using e)⟩, hS.kept hop.keeps, hop⟩
  rw [List.length_append, List.map_append]
  refine World.ownsRow.kept (row := some bm) k1 ⟨rfl, rfl, rfl, by simp [World.setCell], fun j _ hn' => heap_setCell_other _ _ _ _ (fun e => hn' (by rw [e]))⟩ (.inr fun e => hgm (by simpa [Value.ownBlock] using e))

set_option maxRecDepth 100000 in
set_option maxHeartbeats 800000 in
theorem at_core (w : World) (bm g cap n k : Nat) (pk : Option Addr) (hk : k < n) (k1 : w.cell? ⟨bm, 1, none⟩ = some (.slice (some ⟨g, 0, none⟩) n cap)) (k2 : w.cell? ⟨g, k, none⟩ = some (.pointer pk)) :
    Calls Try.prog 30 #[.pointer (some ⟨bm, 0, none⟩), .int .i64 k] w fun e w' => e = .returned (.tuple #[.pointer (some ⟨w.heap.size, 0, none⟩), .int .i64 0]) ∧ w' = w.alloc (.cells #[.pointer pk] 96) := by
  have e1 : ¬ (k : Int) < 0 := by omega
  have e2 : (k : Int) < (n : Int) := by omega
  have e3 : ¬ (n : Int) ≤ (k : Int) := by omega
  have e4 : (0 : Int) ≤ (k : Int) := by omega
  go_enter Try.func30, Try.ntmps30
  go_wp2
  go_ret2
  exact ⟨rfl, rfl⟩

theorem at_T (w : World) (base bm k : Nat) (T : Nat → Option Tr) (vs : List (Option Nat)) (h : MapT w base bm T vs) (hk : k < vs.length) :
    Calls Try.prog 30 #[.pointer (some ⟨bm, 0, none⟩), .int .i64 k] w fun e w' => e = .returned (.tuple #[.pointer (some ⟨w.heap.size, 0, none⟩), .int .i64 0]) ∧ w' = w.alloc (.cells #[ptr vs[k]] 96) := by
  obtain ⟨bv, v, h1, h2, h3, h4⟩ := h.ex
  rcases h3.2 with ⟨-, h0⟩ | ⟨g, cap, cur, rfl, -, hg, -, -, -, ht⟩
  · omega
  have hc : w.cell? ⟨g, k, none⟩ = some (ptr vs[k]) := by
    rw [cell_of_row w g k _ _ _ hg]
    have h1 := congrArg (fun l => l[k]?) ht
    simp only [List.getElem?_take, Nat.mul_one] at h1
    rw [if_pos hk] at h1
    rw [← Array.getElem?_toList, h1, List.getElem?_map, List.getElem?_eq_getElem hk]; rfl
  exact at_core w bm g cap vs.length k _ hk (by rw [cell_of_row w bm 1 _ _ _ h1]; rfl) hc

/-- Which triangles a box meets, which have a point. -/
def winP (T : Nat → Option Tr) (c d : Q) (i : Nat) : Bool := match T i with | none => false | some t => meetB t.lo t.hi c d
def hitP (T : Nat → Option Tr) (p : Q) (i : Nat) : Bool := match T i with | none => false | some t => hitB p t.l (t.lo, t.hi)
def someP (T : Nat → Option Tr) (i : Nat) : Bool := (T i).isSome

theorem picks_all {g : Nat → Option Nat} (P : Nat → Bool) (out : ∀ i, 30 ≤ i → g i = none) (hP : ∀ i, P i = true → (g i).isSome = true) : picks P (allItems g (gR g)) = (List.range 30).filter P := by
  unfold picks
  rw [allItems_eq, items_ids g (gR g) 1000 (Nat.le_refl _), filter_low g out, List.filter_filter]
  apply List.filter_congr
  intro i _
  cases h : P i with
  | false => simp
  | true => simp [hP i h]

/-- What a view answers with ids, and no error. -/
theorem g_some {T : Nat → Option Tr} {g : Nat → Option Nat} {w : World} (h2 : ∀ i t, T i = some t → t.ok ∧ ∃ k, g i = some k ∧ ShapeHas w k t.l (t.lo, t.hi)) (i : Nat) (h : (T i).isSome = true) : (g i).isSome = true := by
  obtain ⟨t, ht⟩ := Option.isSome_iff_exists.1 h
  obtain ⟨-, k, hk, -⟩ := h2 i t ht
  rw [hk]; rfl
theorem g_is {T : Nat → Option Tr} {g : Nat → Option Nat} {w : World} (h1 : ∀ i, T i = none → g i = none) (h2 : ∀ i t, T i = some t → t.ok ∧ ∃ k, g i = some k ∧ ShapeHas w k t.l (t.lo, t.hi)) (i k : Nat) (h : g i = some k) : ∃ t, T i = some t ∧ t.ok ∧ ShapeHas w k t.l (t.lo, t.hi) := by
  cases hT : T i with
  | none => rw [h1 i hT] at h; cases h
  | some t =>
    obtain ⟨q1, k', hk, q2⟩ := h2 i t hT
    rw [h] at hk; cases hk
    exact ⟨t, rfl, q1, q2⟩

set_option maxRecDepth 100000 in
set_option maxHeartbeats 800000 in
theorem window_core (w : World) (bv a1 a2 b1 b2 : Nat) (ids : List Nat)
    (c1 : ∀ w, Calls Try.prog 77 #[.agg #[.complex .f64 a1 a2, .complex .f64 b1 b2]] w fun e w' => e = .returned (.bool true) ∧ Below w.heap.size w w')
    (c2 : ∀ w1, Below w.heap.size w w1 → w1.cell? ⟨w.heap.size, 0, none⟩ = some (.complex .f64 a1 a2) → w1.cell? ⟨w.heap.size, 1, none⟩ = some (.complex .f64 b1 b2) → Calls Try.prog 78 #[.pointer (some ⟨bv, 0, none⟩), .func (.func 79) #[] #[.pointer (some ⟨w.heap.size, 0, none⟩)]] w1 fun e w' => NearAns w1 w' ids e) :
    Calls Try.prog 51 #[.pointer (some ⟨bv, 0, none⟩), .agg #[.complex .f64 a1 a2, .complex .f64 b1 b2]] w fun e w' => NearAns2 w w' ids e := by
  have hst := store_complex
  have hb1 : ∀ o, Below w.heap.size w (w.alloc o) := fun o => (Below.refl _ _).alloc (Nat.le_refl _) _
  go_enter Try.func51, Try.ntmps51
  go_wp2_with fail
  refine (c1 _).mono ?_
  rintro e w1 ⟨rfl, hB1⟩
  have k0 : w1.cell? ⟨w.heap.size, 0, none⟩ = some (.complex .f64 a1 a2) := by rw [hB1.cell (p := ⟨w.heap.size, 0, none⟩) (by simp)]; simp [go_sem]
  have k1 : w1.cell? ⟨w.heap.size, 1, none⟩ = some (.complex .f64 b1 b2) := by rw [hB1.cell (p := ⟨w.heap.size, 1, none⟩) (by simp)]; simp [go_sem]
  have HB1 : Hid (Below w.heap.size w w1) := (hb1 _).trans (hB1.mono (by simp))
  have c2' := c2 w1 HB1.out k0 k1
  clear c1 c2 hB1 hb1 k0 k1
  go_wp2_with fail
  refine c2'.mono ?_
  rintro e w2 ⟨v, rfl, hO, hB⟩
  have HH : Hid (w2.ownsRow w.heap.size 3 1 v ids.length (ids.map fun i : Nat => .int .i64 (i : Int)) ∧ Below w.heap.size w w2) := ⟨own_mono hO HB1.out.size, HB1.out.trans (hB.mono HB1.out.size)⟩
  clear hO hB c2' HB1
  go_wp2
  go_ret2
  exact ⟨v, rfl, HH.out.1, HH.out.2⟩

theorem window_T (w : World) (bv : Nat) (T : Nat → Option Tr) (h : ViewT w bv T) (hT : ∀ i, 30 ≤ i → T i = none) (c d : Q) (hcd : qx c ≤ qx d ∧ qy c ≤ qy d) :
    Calls Try.prog 51 #[.pointer (some ⟨bv, 0, none⟩), .agg #[qe c, qe d]] w fun e w' => NearAns2 w w' ((List.range 30).filter (winP T c d)) e := by
  obtain ⟨r, g, hS, h1, h2⟩ := h.shelf
  refine window_core w bv _ _ _ _ _ (fun w => isBox_any c d hcd w) (fun w1 hb k0 k1 => ?_)
  rw [← picks_all (g := g) (winP T c d) (fun i hi => h1 i (hT i hi)) (fun i hi => g_some h2 i (by unfold winP at hi; cases hT' : T i with | none => rw [hT'] at hi; cases hi | some t => rfl))]
  refine idsWindow_any w1 bv w.heap.size r g (hS.below hb) _ (fun W i k hW hi hk => ?_)
  obtain ⟨t, ht, -, hH⟩ := g_is h1 h2 i k hk
  have hH1 := (hH.kept (.of_below hb)).kept (.of_below hW)
  have hlt := World.block_lt_of_cell? _ _ k0
  have := windowAsk_any W k w.heap.size (t.lo, t.hi) c d hH1.box ((hW.cell (p := ⟨w.heap.size, 0, none⟩) hlt).trans k0) ((hW.cell (p := ⟨w.heap.size, 1, none⟩) hlt).trans k1)
  have e : winP T c d i = meetB t.lo t.hi c d := by unfold winP; rw [ht]
  rw [e]; exact this

set_option maxRecDepth 100000 in
set_option maxHeartbeats 800000 in
theorem hits_core (w : World) (bv p1 p2 : Nat) (ids : List Nat)
    (c1 : ∀ w, Calls Try.prog 34 #[.complex .f64 p1 p2] w fun e w' => e = .returned (.bool true) ∧ w' = w)
    (c2 : ∀ w1, Below w.heap.size w w1 → w1.cell? ⟨w.heap.size, 0, none⟩ = some (.complex .f64 p1 p2) → Calls Try.prog 78 #[.pointer (some ⟨bv, 0, none⟩), .func (.func 81) #[] #[.pointer (some ⟨w.heap.size, 0, none⟩)]] w1 fun e w' => NearAns w1 w' ids e) :
    Calls Try.prog 52 #[.pointer (some ⟨bv, 0, none⟩), .complex .f64 p1 p2] w fun e w' => NearAns2 w w' ids e := by
  have hst := store_complex
  have HB1 : Hid (Below w.heap.size w (w.alloc (.cells #[.complex .f64 p1 p2] 26))) := (Below.refl _ _).alloc (Nat.le_refl _) _
  have c2' := c2 _ HB1.out (by simp [go_sem])
  clear c2
  go_enter Try.func52, Try.ntmps52
  go_wp2_with fail
  refine (c1 _).mono ?_
  rintro e w1 ⟨rfl, rfl⟩
  go_wp2_with fail
  refine c2'.mono ?_
  rintro e w2 ⟨v, rfl, hO, hB⟩
  have HH : Hid (w2.ownsRow w.heap.size 3 1 v ids.length (ids.map fun i : Nat => .int .i64 (i : Int)) ∧ Below w.heap.size w w2) := ⟨own_mono hO HB1.out.size, HB1.out.trans (hB.mono HB1.out.size)⟩
  clear hO hB c2' HB1
  go_wp2
  go_ret2
  exact ⟨v, rfl, HH.out.1, HH.out.2⟩

theorem hits_T (w : World) (bv : Nat) (T : Nat → Option Tr) (h : ViewT w bv T) (hT : ∀ i, 30 ≤ i → T i = none) (p : Q) :
    Calls Try.prog 52 #[.pointer (some ⟨bv, 0, none⟩), qe p] w fun e w' => NearAns2 w w' ((List.range 30).filter (hitP T p)) e := by
  obtain ⟨r, g, hS, h1, h2⟩ := h.shelf
  have e1 : C.within 1048576 (qc p) = true := by
    have := qc_lim p; unfold C.within; unfold C.lim at this; simp [this]
  refine hits_core w bv _ _ _ (fun w => e1 ▸ isPoint_any (qc p) (qre_small p) (qim_small p) w) (fun w1 hb k0 => ?_)
  rw [← picks_all (g := g) (hitP T p) (fun i hi => h1 i (hT i hi)) (fun i hi => g_some h2 i (by unfold hitP at hi; cases hT' : T i with | none => rw [hT'] at hi; cases hi | some t => rfl))]
  refine idsHits_any w1 bv w.heap.size r g (hS.below hb) _ (fun W i k hW hi hk => ?_)
  obtain ⟨t, ht, -, hH⟩ := g_is h1 h2 i k hk
  have hH1 := (hH.kept (.of_below hb)).kept (.of_below hW)
  have hlt := World.block_lt_of_cell? _ _ k0
  have := hitsAsk_any W k w.heap.size t.l (t.lo, t.hi) p hH1 (by rw [tr_len]; omega) (by rw [tr_len]; omega) ((hW.cell (p := ⟨w.heap.size, 0, none⟩) hlt).trans k0)
  have e : hitP T p i = hitB p t.l (t.lo, t.hi) := by unfold hitP; rw [ht]
  rw [e]; exact this

theorem ids_T {w : World} {T : Nat → Option Tr} {g : Nat → Option Nat} (hT : ∀ i, 30 ≤ i → T i = none) (h1 : ∀ i, T i = none → g i = none) (h2 : ∀ i t, T i = some t → t.ok ∧ ∃ k, g i = some k ∧ ShapeHas w k t.l (t.lo, t.hi)) :
    (List.range 1000).filter (fun i => (g i).isSome) = (List.range 30).filter (someP T) := by
  rw [filter_low g (fun i hi => h1 i (hT i hi))]
  apply List.filter_congr
  intro i _
  unfold someP
  cases hT' : T i with
  | none => rw [h1 i hT']; rfl
  | some t => rw [g_some h2 i (by rw [hT']; rfl)]; rfl

theorem near_T (w : World) (bv : Nat) (T : Nat → Option Tr) (h : ViewT w bv T) (hT : ∀ i, 30 ≤ i → T i = none) (p : Q) :
    Calls Try.prog 25 #[.pointer (some ⟨bv, 0, none⟩), qe p, .int .i64 100] w fun e w' => ∃ ids : List Nat, ids.length = ((List.range 30).filter (someP T)).length ∧ NearAns2 w w' ids e := by
  obtain ⟨r, g, hS, h1, h2⟩ := h.shelf
  have hV : ∀ i k, i < 1000 → g i = some k → NearR w (fun i => match T i with | none => (q0, q0) | some t => (t.lo, t.hi)) (i, k) := fun i k hi hk => by
    obtain ⟨t, ht, -, hH⟩ := g_is h1 h2 i k hk
    refine ⟨hi, ?_⟩
    show ShapeAt w k (match T i with | none => (q0, q0) | some t => (t.lo, t.hi))
    rw [ht]; exact hH.box
  have hl : (dsOf p _ (allItems g hV)).length = ((List.range 30).filter (someP T)).length := by
    rw [← ids_T hT h1 h2, ← items_ids g hV 1000 (Nat.le_refl _), ← allItems_eq]
    unfold dsOf; rw [List.length_map, List.length_map]
  have h30 : ((List.range 30).filter (someP T)).length ≤ 30 := Nat.le_trans (List.length_filter_le _ _) (by simp)
  refine (near_any w p bv 100 r g _ hS hV (Nat.le_refl _) _ rfl).mono fun e w' hA => ⟨_, ?_, hA⟩
  rw [List.length_map, List.length_take, (sortL_perm _).length_eq, hl]; omega

theorem count_T (w : World) (bv : Nat) (T : Nat → Option Tr) (h : ViewT w bv T) (hT : ∀ i, 30 ≤ i → T i = none) :
    Calls Try.prog 26 #[.pointer (some ⟨bv, 0, none⟩)] w fun e w' => e = .returned (.int .i64 (((List.range 30).filter (someP T)).length : Int)) ∧ Below w.heap.size w w' := by
  obtain ⟨r, g, hS, h1, h2⟩ := h.shelf
  have := count_any w bv r g hS
  have e1 := congrArg List.length (items_ids g (trueR g) 1000 (Nat.le_refl _))
  rw [List.length_map, ids_T hT h1 h2] at e1
  rw [allItems_eq, e1] at this
  exact this

end Go.Proofs.Ytnlkalbkjocoaaa
