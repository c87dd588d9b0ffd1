/-
  What the law Kept keeps while it plays its steps; its small words; a whole Stands, by value.
-/
import Derived.Test.YtnlkalbkjocoaaaTells
import Derived.Test.YtnlkalbkjocoaaaEqT
import Derived.Great.BuildSlice
namespace Go.Proofs.Ytnlkalbkjocoaaa
open Go.Shelf Go.RowKit

section
/-- A triangle that was moved n times at most. -/
def TrB (n : Nat) (t : Tr) : Prop := 1 ≤ t.k ∧ t.k ≤ 40 ∧ -(300 + 50 * (n : Int)) ≤ t.u ∧ t.u ≤ 300 + 50 * (n : Int) ∧ -(300 + 50 * (n : Int)) ≤ t.v ∧ t.v ≤ 300 + 50 * (n : Int)
theorem TrB.ok {n : Nat} {t : Tr} (h : TrB n t) (hn : n ≤ 5000) : t.ok := by
  unfold TrB at h; unfold Tr.ok TriOk; omega
theorem TrB.mono {n m : Nat} {t : Tr} (h : TrB n t) (hm : n ≤ m) : TrB m t := by
  unfold TrB at h ⊢; omega

structure KeptAt (w0 wr : World) (bm bn : Nat) (T : Nat → Option Tr) (L : List Value) (vs : List (Option Nat × List Value)) (gw cap n : Nat) : Prop where
  map : MapT wr w0.heap.size bm T (vs.map (·.1))
  now : wr.heap[bn]? = some (.cells L.toArray 72)
  gn : w0.heap.size ≤ bn
  stand : StandT wr L T
  was : wr.ownsRow w0.heap.size 72 30 (.slice (some ⟨gw, 0, none⟩) vs.length cap) vs.length (vs.flatMap (·.2))
  ne : gw ≠ bn
  each : ∀ x ∈ vs, ∃ T', StandT wr x.2 T' ∧ ShelfT wr x.1 T'
  bound : ∀ i t, T i = some t → TrB n t
  below : Below w0.heap.size w0 wr
  count : vs.length ≤ n + 1

variable {w0 wr w1 w2 w' : World} {bm bn : Nat} {T : Nat → Option Tr} {L : List Value} {vs : List (Option Nat × List Value)} {gw cap n : Nat}

theorem KeptAt.lt_n (h : KeptAt w0 wr bm bn T L vs gw cap n) : bn < wr.heap.size := (Array.getElem?_eq_some_iff.1 h.now).1
theorem KeptAt.go (h : KeptAt w0 wr bm bn T L vs gw cap n) (hb : Below wr.heap.size wr w') : KeptAt w0 w' bm bn T L vs gw cap n :=
  ⟨h.map.below hb, (hb.block _ h.lt_n).trans h.now, h.gn, h.stand.kept (.of_below hb), owns_below h.was hb, h.ne, fun x hx => by obtain ⟨T', q1, q2⟩ := h.each x hx; exact ⟨T', q1.kept (.of_below hb), q2.kept (.of_below hb)⟩, h.bound, h.below.trans (hb.mono h.below.size), h.count⟩
theorem KeptAt.more (h : KeptAt w0 wr bm bn T L vs gw cap n) : KeptAt w0 wr bm bn T L vs gw cap (n + 1) :=
  ⟨h.map, h.now, h.gn, h.stand, h.was, h.ne, h.each, fun i t e => (h.bound i t e).mono (by omega), h.below, by have := h.count; omega⟩
theorem KeptAt.cell (h : KeptAt w0 wr bm bn T L vs gw cap n) (i : Nat) : wr.cell? ⟨bn, i, none⟩ = L[i]? := by
  rw [cell_of_row _ _ i _ _ _ h.now, List.getElem?_toArray]
theorem KeptAt.base (h : KeptAt w0 wr bm bn T L vs gw cap n) : w0.heap.size ≤ wr.heap.size := h.below.size

/-- A world in which the map's call was carried out, and more was laid down. -/
structure Mid (w0 wr w2 : World) (bn : Nat) (L : List Value) : Prop where
  op : MOp w0.heap.size wr w2
  now : w2.heap[bn]? = some (.cells L.toArray 72)
theorem KeptAt.mid (h : KeptAt w0 wr bm bn T L vs gw cap n) (hop : MOp w0.heap.size wr w1) (hb : Below w1.heap.size w1 w2) : Mid w0 wr w2 bn L := by
  have h1 : w1.heap[bn]? = _ := (hop.block _ _ _ h.now (by decide) (by decide)).trans h.now
  exact ⟨hop.trans (.of_below hb (Nat.le_trans h.base hop.below.size)), (hb.block _ (Array.getElem?_eq_some_iff.1 h1).1).trans h1⟩
theorem Mid.cell (h : Mid w0 wr w2 bn L) (i : Nat) : w2.cell? ⟨bn, i, none⟩ = L[i]? ∧ w2.frozen? ⟨bn, i, none⟩ = false := by
  refine ⟨?_, frozen_of h.now⟩
  rw [cell_of_row _ _ i _ _ _ h.now, List.getElem?_toArray]

theorem keeps_setS {w : World} {bn i : Nat} {c : Array Value} (x : Value) (h : w.heap[bn]? = some (.cells c 72)) : Keeps w (w.setCell ⟨bn, i, none⟩ x) :=
  ⟨by simp [World.setCell], fun j c' t hj ht => heap_setCell_other _ _ _ _ (ne_of_type hj h (by unfold KeepT at ht; rcases ht with rfl | rfl | rfl | rfl <;> decide))⟩

theorem grown_set (w : World) (a : Addr) (x : Value) : w.grownBy (w.setCell a x) (some a.block) := ⟨rfl, rfl, rfl, by simp [World.setCell], fun j _ hn => heap_setCell_other _ _ _ _ (fun e => hn (by rw [e]))⟩

/-- The map's call was carried out, and the law's own list turned. -/
theorem KeptAt.put {i : Nat} {to : Option Tr} (h : KeptAt w0 wr bm bn T L vs gw cap n) (hn : n < 5000) (hi : i < 30) (hM : MapT w1 w0.heap.size bm (updT T i to) (vs.map (·.1))) (hop : MOp w0.heap.size wr w1) (hb2 : Below w1.heap.size w1 w2) (x : Value)
    (hx : to = none → x = .slice none 0 0) (hx' : ∀ t, to = some t → TrB (n + 1) t ∧ ∃ b, x = .slice (some ⟨b, 0, none⟩) 3 3 ∧ w2.heap[b]? = some (.cells (trC t) 26)) :
    KeptAt w0 (w2.setCell ⟨bn, i, none⟩ x) bm bn (updT T i to) (L.set i x) vs gw cap (n + 1) := by
  have hmid := h.mid hop hb2
  have hk2 : Keeps wr w2 := hop.keeps.trans (.of_below hb2)
  have hk3 : Keeps w2 (w2.setCell ⟨bn, i, none⟩ x) := keeps_setS x hmid.now
  have hk : Keeps wr (w2.setCell ⟨bn, i, none⟩ x) := hk2.trans hk3
  have hlen := h.stand.len
  have hnew : (w2.setCell ⟨bn, i, none⟩ x).heap[bn]? = some (.cells (L.set i x).toArray 72) := by
    rw [heap_setCell_same _ hmid.now, List.setIfInBounds_toArray]
  refine ⟨?_, hnew, h.gn, ?_, ?_, h.ne, fun y hy => ?_, fun j t e => ?_, ?_, by have := h.count; omega⟩
  · have hM2 := hM.below hb2
    obtain ⟨bv, v, q1, ⟨ro, q2, q3⟩, q4, q5⟩ := hM2.ex
    refine ⟨hM.ge, bv, v, (heap_setCell_other _ _ _ _ (ne_of_type q1 hmid.now (by decide))).trans q1, ⟨ro, (heap_setCell_other _ _ _ _ (ne_of_type q2 hmid.now (by decide))).trans q2, q3.kept hk3⟩, World.ownsRow.kept q4 (grown_set _ _ _) (.inr fun e => ?_), q5⟩
    obtain ⟨-, cur, hcur⟩ := own_block q4 e
    rw [show w2.heap[bn]? = _ from hmid.now] at hcur; cases hcur
  · refine ⟨by rw [List.length_set]; exact hlen, fun j hj e => ?_, fun j t hj e => ?_, fun j hj => ?_⟩
    · rw [List.getElem?_set]
      unfold updT at e
      by_cases hji : j = i
      · subst hji
        rw [if_pos rfl] at e
        rw [if_pos rfl, if_pos (by omega), hx e]
      · rw [if_neg hji] at e
        rw [if_neg (fun e => hji e.symm)]
        exact h.stand.nil j hj e
    · rw [List.getElem?_set]
      unfold updT at e
      by_cases hji : j = i
      · subst hji
        rw [if_pos rfl] at e
        obtain ⟨q1, b, q2, q3⟩ := hx' t e
        exact ⟨q1.ok (by omega), b, by rw [if_pos rfl, if_pos (by omega), q2], (hk3.block _ _ _ q3 (by unfold KeepT; simp)).trans q3⟩
      · rw [if_neg hji] at e
        rw [if_neg (fun e => hji e.symm)]
        exact (h.stand.kept hk).tri j t hj e
    · unfold updT; rw [if_neg (by omega)]; exact h.stand.out j hj
  · have hw2 : w2.ownsRow w0.heap.size 72 30 (.slice (some ⟨gw, 0, none⟩) vs.length cap) vs.length (vs.flatMap (·.2)) := by
      refine ⟨h.was.1, ?_⟩
      rcases h.was.2 with ⟨q, -⟩ | ⟨g', cap', cur, q1, q2, q3, q4⟩
      · cases q
      · exact .inr ⟨g', cap', cur, q1, q2, (hmid.op.block _ _ _ q3 (by decide) (by decide)).trans q3, q4⟩
    exact World.ownsRow.kept hw2 (grown_set _ _ _) (.inr fun e => h.ne (by simpa [Value.ownBlock] using e))
  · obtain ⟨T', q1, q2⟩ := h.each y hy
    exact ⟨T', q1.kept hk, q2.kept hk⟩
  · unfold updT at e
    by_cases hji : j = i
    · rw [if_pos hji] at e; exact (hx' t e).1
    · rw [if_neg hji] at e; exact (h.bound j t e).mono (by omega)
  · exact (h.below.trans hmid.op.below).setCell (p := ⟨bn, i, none⟩) h.gn x

theorem updT_same (T : Nat → Option Tr) (i : Nat) (h : T i = none) : updT T i none = T := by
  funext j; unfold updT
  by_cases e : j = i
  · rw [if_pos e, e, h]
  · rw [if_neg e]

/-- A version was made. -/
theorem KeptAt.commit {ro : Option Nat} {o : Obj} {gw' cap' : Nat} (h : KeptAt w0 wr bm bn T L vs gw cap n) (hM : MapT w1 w0.heap.size bm T (vs.map (·.1) ++ [ro])) (hS : ShelfT w1 ro T) (hop : MOp w0.heap.size wr w1)
    (hO : w2.ownsRow w0.heap.size 72 30 (.slice (some ⟨gw', 0, none⟩) (vs.length + 1) cap') (vs.length + 1) (vs.flatMap (·.2) ++ L)) (hg : (w1.alloc o).grownBy w2 (some gw)) (ha : some gw = some gw' ∨ gw' = w1.heap.size + 1) :
    KeptAt w0 w2 bm bn T L (vs ++ [(ro, L)]) gw' cap' (n + 1) := by
  obtain ⟨hgb, cur, hcur⟩ := own_block h.was (g := gw) rfl
  have hcur1 := (hop.block _ _ _ hcur (by decide) (by decide)).trans hcur
  have hlt : gw < w1.heap.size := (Array.getElem?_eq_some_iff.1 hcur1).1
  have hkeep : ∀ j, j < w1.heap.size → j ≠ gw → w2.heap[j]? = w1.heap[j]? := fun j hj hn => (hg.block j (by simp; omega) (fun e => hn (by injection e))).trans (heap_old _ _ hj rfl)
  have hk12 : Keeps w1 w2 := ⟨by have := hg.size; simp at this; omega, fun j c t hj ht => hkeep j (Array.getElem?_eq_some_iff.1 hj).1 (ne_of_type hj hcur1 (by unfold KeepT at ht; rcases ht with rfl | rfl | rfl | rfl <;> decide))⟩
  have hk : Keeps wr w2 := hop.keeps.trans hk12
  have hn1 : w1.heap[bn]? = _ := (hop.block _ _ _ h.now (by decide) (by decide)).trans h.now
  have hnl : bn < w1.heap.size := (Array.getElem?_eq_some_iff.1 hn1).1
  have hb12 : Below w0.heap.size w1 w2 := ⟨hg.os, hg.tape, hg.output, hk12.size, fun j hj => hkeep j (by have := h.base; have := hop.below.size; omega) (by omega)⟩
  refine ⟨?_, (hkeep bn hnl (fun e => h.ne e.symm)).trans hn1, h.gn, h.stand.kept hk, ?_, ?_, fun y hy => ?_, fun j t e => (h.bound j t e).mono (by omega), (h.below.trans hop.below).trans hb12, by rw [List.length_append]; have := h.count; simp; omega⟩
  · rw [List.map_append]
    obtain ⟨bv, v, q1, ⟨ro', q2, q3⟩, q4, q5⟩ := hM.ex
    refine ⟨hM.ge, bv, v, (hkeep _ (Array.getElem?_eq_some_iff.1 q1).1 (ne_of_type q1 hcur1 (by decide))).trans q1, ⟨ro', (hkeep _ (Array.getElem?_eq_some_iff.1 q2).1 (ne_of_type q2 hcur1 (by decide))).trans q2, q3.kept hk12⟩, ?_, q5⟩
    refine ⟨q4.1, ?_⟩
    rcases q4.2 with q | ⟨g', c', cu, k1, k2, k3, k4⟩
    · exact .inl q
    · exact .inr ⟨g', c', cu, k1, k2, (hkeep _ (Array.getElem?_eq_some_iff.1 k3).1 (ne_of_type k3 hcur1 (by decide))).trans k3, k4⟩
  · rw [List.length_append, List.flatMap_append]
    simpa using hO
  · rintro rfl
    rcases ha with e | e
    · exact h.ne (by injection e)
    · omega
  · rcases List.mem_append.1 hy with hy | hy
    · obtain ⟨T', q1, q2⟩ := h.each y hy
      exact ⟨T', q1.kept hk, q2.kept hk⟩
    · simp only [List.mem_cons, List.not_mem_nil, or_false] at hy
      subst hy
      exact ⟨T, h.stand.kept hk, hS.kept hk12⟩
end

theorem add_run (x y sx sy : Int) (hx : -1048576 ≤ x ∧ x ≤ 1048576) (hy : -1048576 ≤ y ∧ y ≤ 1048576) (h1 : -1000 ≤ sx ∧ sx ≤ 1000) (h2 : -1000 ≤ sy ∧ sy ≤ 1000) (hx' : -1048576 ≤ x + sx ∧ x + sx ≤ 1048576) (hy' : -1048576 ≤ y + sy ∧ y + sy ≤ 1048576) (t : TypeId) (w : World) :
    (binOp .add t (qe (mkQ x y)) (.complex .f64 (Z.of sx).bits (Z.of sy).bits)).run Try.prog w = .ok (qe (mkQ (x + sx) (y + sy))) w := by
  have lA : (C.of x y).lim 1048576 := by unfold C.lim; rw [C.X_of, C.Y_of]; omega
  have lK : (C.of sx sy).lim 1000 := by unfold C.lim; rw [C.X_of, C.Y_of]; omega
  have := run_complex_sum (P := Try.prog) w .add (Or.inl rfl) t .f64 _ _ _ _ _ _ (C.bits_add lA lK (by decide) (by decide) (by decide))
  have e1 : (C.of x y).add (C.of sx sy) = C.of (x + sx) (y + sy) := by
    show (⟨(Z.of _).add (Z.of _), (Z.of _).add (Z.of _)⟩ : C) = _; rw [Z.add_of, Z.add_of]; rfl
  rw [e1] at this
  rw [qe_mk _ _ hx hy, qe_mk _ _ hx' hy']
  exact this

theorem small_tr (kd id x y z : Int) (hx : i64B x) (hy : i64B y) (hz : i64B z) (w : World) :
    Calls Try.prog 22 #[.agg #[.int .i64 kd, .int .i64 id, .int .i64 x, .int .i64 y, .int .i64 z]] w fun e w' => e = .returned (.slice (some ⟨w.heap.size + 1, 0, none⟩) 3 3) ∧
      w'.heap[w.heap.size + 1]? = some (.cells (trC ⟨triX x, triX y, triK z⟩) 26) ∧ Below w.heap.size w w' := by
  have a1 := triX_bd x
  have a2 := triX_bd y
  have a3 := triK_bd z
  have hA : atC x y 300 = C.of (triX x) (triX y) := rfl
  have h := small_core kd id x y z (pickI z 40) _ _ (Z.of (triK z)).bits _ _ _ _ w (fun w => at_any x y 300 (by omega) (by omega) hx.1 hx.2 hy.1 hy.2 w) (fun w => pick_any z 40 (by omega) (by omega) hz.1 hz.2 w)
    (by have := pickI_bd z 40 (by omega); rw [IntKind.wrap_i64]; omega) rfl
    (fun t w => by have := add_run (triX x) (triX y) (triK z) 0 (by omega) (by omega) (by omega) (by omega) (by omega) (by omega) t w; rw [qe_mk _ _ (by omega) (by omega), qe_mk _ _ (by omega) (by omega), show (Z.of 0).bits = 0 from b0] at this; exact this)
    (fun t w => by have := add_run (triX x) (triX y) 0 (triK z) (by omega) (by omega) (by omega) (by omega) (by omega) (by omega) t w; rw [qe_mk _ _ (by omega) (by omega), qe_mk _ _ (by omega) (by omega), show (Z.of 0).bits = 0 from b0] at this; exact this)
  refine h.mono ?_
  rintro e w' ⟨rfl, rfl⟩
  refine ⟨rfl, ?_, ((Below.refl _ _).alloc (Nat.le_refl _) _).alloc (by simp) _⟩
  rw [heap_last _ _ _ (by simp)]
  unfold trC
  simp only
  rw [qe_mk _ _ (by omega) (by omega), qe_mk _ _ (by omega) (by omega), qe_mk _ _ (by omega) (by omega), Int.add_zero, Int.add_zero, hA]
  rfl

/-- .. in some block. -/
theorem small_in (kd id x y z : Int) (hx : i64B x) (hy : i64B y) (hz : i64B z) (w : World) :
    Calls Try.prog 22 #[.agg #[.int .i64 kd, .int .i64 id, .int .i64 x, .int .i64 y, .int .i64 z]] w fun e w' => (∃ bl, e = .returned (.slice (some ⟨bl, 0, none⟩) 3 3) ∧
      w'.heap[bl]? = some (.cells (trC ⟨triX x, triX y, triK z⟩) 26)) ∧ Below w.heap.size w w' :=
  (small_tr kd id x y z hx hy hz w).mono fun _ _ ⟨h1, h2, h3⟩ => ⟨⟨_, h1, h2⟩, h3⟩

theorem small_b (n : Nat) (x y z : Int) : TrB n ⟨triX x, triX y, triK z⟩ := by
  have a1 := triX_bd x
  have a2 := triX_bd y
  have a3 := triK_bd z
  unfold TrB; simp only; omega

/-- The law's shift. -/
def shX (z : Int) : Int := pickI z 101 - 50
theorem shX_bd (z : Int) : -50 ≤ shX z ∧ shX z ≤ 50 := by have := pickI_bd z 101 (by omega); unfold shX; omega
theorem at_shift (x y : Int) (hx : i64B x) (hy : i64B y) (w : World) :
    Calls Try.prog 10 #[.int .i64 x, .int .i64 y, .int .i64 50] w fun e w' => e = .returned (.complex .f64 (Z.of (shX x)).bits (Z.of (shX y)).bits) ∧ w' = w :=
  at_any x y 50 (by omega) (by omega) hx.1 hx.2 hy.1 hy.2 w

theorem moved_b {n : Nat} {t : Tr} (h : TrB n t) (x y : Int) : TrB (n + 1) ⟨t.u + shX x, t.v + shX y, t.k⟩ := by
  have := shX_bd x
  have := shX_bd y
  unfold TrB at h ⊢; simp only; omega

/-- A triangle's corners are moved one by one. -/
theorem moved_runs {n : Nat} {t : Tr} (h : TrB n t) (hn : n < 5000) (x y : Int) : ∃ a1 a2 b1 b2 c1 c2 r1 r2 s1 s2 u1 u2, trC t = #[.complex .f64 a1 a2, .complex .f64 b1 b2, .complex .f64 c1 c2] ∧
    trC ⟨t.u + shX x, t.v + shX y, t.k⟩ = #[.complex .f64 r1 r2, .complex .f64 s1 s2, .complex .f64 u1 u2] ∧
    (∀ ty w, (binOp .add ty (.complex .f64 a1 a2) (.complex .f64 (Z.of (shX x)).bits (Z.of (shX y)).bits)).run Try.prog w = .ok (.complex .f64 r1 r2) w) ∧
    (∀ ty w, (binOp .add ty (.complex .f64 b1 b2) (.complex .f64 (Z.of (shX x)).bits (Z.of (shX y)).bits)).run Try.prog w = .ok (.complex .f64 s1 s2) w) ∧
    (∀ ty w, (binOp .add ty (.complex .f64 c1 c2) (.complex .f64 (Z.of (shX x)).bits (Z.of (shX y)).bits)).run Try.prog w = .ok (.complex .f64 u1 u2) w) := by
  have q1 := shX_bd x
  have q2 := shX_bd y
  have e1 : t.u + shX x + t.k = t.u + t.k + shX x := by omega
  have e2 : t.v + shX y + t.k = t.v + t.k + shX y := by omega
  unfold TrB at h
  refine ⟨_, _, _, _, _, _, _, _, _, _, _, _, rfl, rfl, fun ty w => ?_, fun ty w => ?_, fun ty w => ?_⟩
  · exact add_run t.u t.v (shX x) (shX y) (by omega) (by omega) (by omega) (by omega) (by omega) (by omega) ty w
  · have := add_run (t.u + t.k) t.v (shX x) (shX y) (by omega) (by omega) (by omega) (by omega) (by omega) (by omega) ty w
    rw [← e1] at this; exact this
  · have := add_run t.u (t.v + t.k) (shX x) (shX y) (by omega) (by omega) (by omega) (by omega) (by omega) (by omega) ty w
    rw [← e2] at this; exact this

theorem pickN (c n : Int) (hc : i64B c) (hn : 0 < n) (hn' : n < 1000) (w : World) :
    Calls Try.prog 11 #[.int .i64 c, .int .i64 n] w fun e w' => e = .returned (.int .i64 ((pickI c n).toNat : Int)) ∧ w' = w := by
  have h := pick_any c n (by omega) (by omega) hc.1 hc.2 w
  have := pickI_bd c n (by omega)
  rw [Int.toNat_of_nonneg this.1]; exact h
theorem atP (x y : Int) (hx : i64B x) (hy : i64B y) (w : World) :
    Calls Try.prog 10 #[.int .i64 x, .int .i64 y, .int .i64 400] w fun e w' => e = .returned (qe (mkQ (pickI x 801 - 400) (pickI y 801 - 400))) ∧ w' = w := by
  have h := at_any x y 400 (by omega) (by omega) hx.1 hx.2 hy.1 hy.2 w
  have a1 := pickI_bd x 801 (by omega)
  have a2 := pickI_bd y 801 (by omega)
  rw [qe_mk _ _ (by omega) (by omega)]
  exact h

theorem infoSt : (Try.prog.info? 72).map (fun i => (i.zero, i.size, i.bytes)) = some (some (.agg (List.replicate 30 (.slice none 0 0)).toArray), 30, 720) := by kernel_rfl
theorem infoS : (Try.prog.info? 72).map (·.size) = some 30 := by kernel_rfl

theorem fold_at (l : List Value) (k : Nat) (Z : Array Value) (j : Nat) : ((l.zipIdx k).foldl (fun (cs : Array Value) (x : Value × Nat) => cs.setIfInBounds (0 * 30 + x.2) x.1) Z)[j]? = if k ≤ j ∧ j < k + l.length ∧ j < Z.size then l[j - k]? else Z[j]? := by
  induction l generalizing k Z with
  | nil => simp; intro h1 h2; omega
  | cons v r ih =>
    rw [List.zipIdx_cons, List.foldl_cons, ih]
    simp only [Array.size_setIfInBounds, List.length_cons]
    by_cases h1 : k + 1 ≤ j ∧ j < k + 1 + r.length ∧ j < Z.size
    · rw [if_pos h1, if_pos (by omega)]
      rw [show j - k = (j - (k + 1)) + 1 by omega, List.getElem?_cons_succ]
    · rw [if_neg h1]
      by_cases h2 : j = k
      · subst h2
        by_cases h3 : j < Z.size
        · rw [if_pos (by omega)]; simp [h3]
        · rw [if_neg (by omega)]; simp [h3]
      · rw [if_neg (by omega), Array.getElem?_setIfInBounds, if_neg (by omega)]

theorem fold_row (R Z : Array Value) (h : Z.size = R.size) : R.zipIdx.foldl (fun (cs : Array Value) (x : Value × Nat) => cs.setIfInBounds (0 * 30 + x.2) x.1) Z = R := by
  rw [← Array.foldl_toList, Array.toList_zipIdx]
  apply Array.ext_getElem?
  intro j
  rw [fold_at]
  by_cases h1 : j < R.size
  · rw [if_pos (by simp; omega)]; simp
  · rw [if_neg (by simp; omega)]
    rw [Array.getElem?_eq_none (by omega), Array.getElem?_eq_none (by omega)]

theorem fill_row (R Z : Array Value) (h : Z.size = 30) (hR : R.size = 30) : Instr.fill (fun i => some (i * 30, 30)) Z [(0, .agg R)] = some R := by
  have hc : (Value.agg R).cells = R := rfl
  unfold Instr.fill
  simp only [hc, hR, h]
  unfold Instr.fill
  simp only [ne_eq, not_true, decide_false, Bool.false_or, gt_iff_lt]
  rw [if_neg (by decide)]
  exact congrArg some (fold_row R Z (by omega))

theorem build_stand {ops : Array Oper} {rest : List Oper} {o : Oper} {a : Act} {w : World} {Q : Exit → Act → World → Prop} (hg : o.guard = none) (s : Operand) (ho : o.op = .buildSlice 73 1 #[(0, s)])
    (L : List Value) (hL : L.length = 30) (hs : a.eval s = .agg L.toArray) (h : wpList Try.prog ops Q rest (a.put o.dst (.slice (some ⟨w.heap.size, 0, none⟩) 1 1)) (w.alloc (.cells L.toArray 72))) : wpList Try.prog ops Q (o :: rest) a w := by
  obtain ⟨i0, hi0, hz0, hz1, hz2⟩ := info_parts infoSt
  refine wpList_buildSlice hg 73 72 1 #[(0, s)] ho L.toArray i0 _ Try.underlying73 hi0 hz0 (by rw [hz1]; decide) (by rw [hz1]; decide) ?_ h
  rw [hz1]
  rw [Array.toList_map]
  simp only [List.map_cons, List.map_nil, hs]
  exact fill_row _ _ (by simp) (by simpa using hL)

theorem load_stand {ops : Array Oper} {rest : List Oper} {o : Oper} {a : Act} {w : World} {Q : Exit → Act → World → Prop} (hg : o.guard = none) (s : Operand) (ho : o.op = .load 72 s) (b : Nat)
    (L : List Value) (hL : L.length = 30) (hs : a.eval s = .pointer (some ⟨b, 0, none⟩)) (hb : w.heap[b]? = some (.cells L.toArray 72)) (h : wpList Try.prog ops Q rest (a.put o.dst (.agg L.toArray)) w) : wpList Try.prog ops Q (o :: rest) a w := by
  refine wpList_load_mid hg 72 s ho b 0 hs L _ (fun j v hj => ?_) Try.underlying72 rfl (by rw [hL]; exact infoS) h
  rw [Nat.zero_add, cell_of_row _ _ j _ _ _ hb, List.getElem?_toArray]; exact hj

theorem flat_at (vs : List (Option Nat × List Value)) (h : ∀ x ∈ vs, x.2.length = 30) (j : Nat) (hj : j < vs.length) (m : Nat) (hm : m < 30) : (vs.flatMap (·.2))[j * 30 + m]? = vs[j].2[m]? := by
  induction vs generalizing j with
  | nil => simp at hj
  | cons v r ih =>
    have hv := h v (by simp)
    rw [List.flatMap_cons]
    cases j with
    | zero => rw [List.getElem?_append_left (by omega), Nat.zero_mul, Nat.zero_add]; rfl
    | succ j =>
      rw [List.getElem?_append_right (by omega), hv, show (j + 1) * 30 + m - 30 = j * 30 + m by omega]
      exact ih (fun x hx => h x (by simp [hx])) j (by simpa using hj)

/-- The cells of a version. -/
theorem was_range {w : World} {base gw cap : Nat} {vs : List (Option Nat × List Value)} (h : w.ownsRow base 72 30 (.slice (some ⟨gw, 0, none⟩) vs.length cap) vs.length (vs.flatMap (·.2))) (hl : ∀ x ∈ vs, x.2.length = 30) (j : Nat) (hj : j < vs.length) : w.rangeAt gw (j * 30) vs[j].2 := fun m v hm => by
  have hml : m < 30 := by have := (List.getElem?_eq_some_iff.1 hm).1; have := hl vs[j] (List.getElem_mem hj); omega
  rcases h.2 with ⟨q, -⟩ | ⟨g', c', cur, q1, -, q3, -, -, -, ht⟩
  · cases q
  · cases q1
    rw [cell_of_row _ _ _ _ _ _ q3, ← Array.getElem?_toList, ← hm, ← flat_at vs hl j hj m hml, ← ht, List.getElem?_take, if_pos (by have : (j + 1) * 30 ≤ vs.length * 30 := Nat.mul_le_mul_right 30 hj; omega)]
theorem range_block {w : World} {b : Nat} {L : List Value} {t : TypeId} (h : w.heap[b]? = some (.cells L.toArray t)) : w.rangeAt b 0 L := fun m v hm => by
  rw [Nat.zero_add, cell_of_row _ _ _ _ _ _ h, List.getElem?_toArray]; exact hm
theorem range_below {w w' : World} {b o : Nat} {L : List Value} (h : w.rangeAt b o L) (hb : Below w.heap.size w w') : w'.rangeAt b o L := fun m v hm =>
  (hb.cell (p := ⟨b, o + m, none⟩) (World.block_lt_of_cell? _ _ (h m v hm))).trans (h m v hm)
theorem load_range {b o : Nat} {L : List Value} (hL : L.length = 30) (w : World) (h : w.rangeAt b o L) : (Instr.loadAt 72 (.pointer (some ⟨b, o, none⟩))).run Try.prog w = .ok (.agg L.toArray) w :=
  run_loadAt_mid w b o 72 L _ h Try.underlying72 rfl (by rw [hL]; exact infoS)

/-- THE BEGINNING of a region that draws its order, by hand. -/
theorem region_plain {P : Program} {ops : Array Oper} {Q : Exit → Act → World → Prop} {S : World → Prop} {id : Nat} {a : Act} {w : World} (N : Nat) (hN : ops.size = N) (hm : P.follows .mixedOrders = true)
    (h : wpAnyH P .any ops Q S N (Array.replicate N false) a w.drew) : (Code.region id ops true).wp P Q a w := by
  subst hN; exact wp_region_held hm h

end Go.Proofs.Ytnlkalbkjocoaaa
