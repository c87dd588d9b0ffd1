/-
  What Hull answers on 1 to 64 points: what goes around them, in new memory.
-/
import Derived.Test.YtnlkalbkjocoaaaWay
import Derived.Test.YtnlkalbkjocoaaaPoly
namespace Go.Proofs.Ytnlkalbkjocoaaa
open Go.Shelf Go.RowKit

theorem grown_below {w w' : World} {row : Option Nat} {B : Nat} (h : w.grownBy w' row) (hB : B ≤ w.heap.size) (hr : ∀ k, row = some k → B ≤ k) : Below B w w' := (Below.refl B w).grown h hB hr
theorem owns_below {B : Nat} {e : TypeId} {k : Nat} {v : Value} {n : Nat} {xs : List Value} {w w' : World} (h : w.ownsRow B e k v n xs) (hb : Below w.heap.size w w') : w'.ownsRow B e k v n xs :=
  h.kept (row := none) ⟨hb.os, hb.tape, hb.output, hb.size, fun j hj _ => hb.block j hj⟩ (by cases hv : v.ownBlock <;> simp)

theorem own_mono {w : World} {B B' : Nat} {e : TypeId} {k : Nat} {v : Value} {n : Nat} {xs : List Value} (h : w.ownsRow B e k v n xs) (hb : B' ≤ B) : w.ownsRow B' e k v n xs := by
  refine ⟨h.1, ?_⟩
  rcases h.2 with h2 | ⟨g, cap, cur, h1, h2, h3⟩
  · exact .inl h2
  · exact .inr ⟨g, cap, cur, h1, Nat.le_trans hb h2, h3⟩

/-- The way there without its last point. -/
theorem take_rev (st : List Q) : st.reverse.take (st.length - 1) = st.tail.reverse := by
  cases st with
  | nil => rfl
  | cons x r => simp

theorem popW_len (z : Q) (st : List Q) : (popW qx qy z st).length ≤ st.length := by
  fun_induction popW qx qy z st with
  | case1 => simp
  | case2 => simp
  | case3 => simp
  | case4 x y r h ih => simp only [List.length_cons] at *; omega
theorem wayW_len (l : List Q) (st : List Q) : (wayW qx qy st l).length ≤ st.length + l.length := by
  induction l generalizing st with
  | nil => simp [wayW]
  | cons z r ih =>
    have h1 := ih (z :: popW qx qy z st)
    have h2 := popW_len z st
    show (wayW qx qy (z :: popW qx qy z st) r).length ≤ _
    simp only [List.length_cons] at *; omega

set_option maxRecDepth 100000 in
set_option maxHeartbeats 1600000 in
theorem planeHull_any (l : List Q) (b off cap0 : Nat) (w : World) (hl : Lies w b off (l.map qc)) (h0 : 0 < l.length) (hn : l.length ≤ 64) :
    Calls Try.prog 41 #[.slice (some ⟨b, off, none⟩) l.length cap0] w fun e w' => ∃ (s : List Q) (g cap : Nat), e = .returned (.slice (some ⟨g, 0, none⟩) (hullL qx qy s).length cap) ∧ Rise qx qy s ∧ (∀ x, x ∈ s ↔ x ∈ l) ∧
      s.length ≤ l.length ∧ (hullL qx qy s).length ≤ cap ∧ At w' g 0 (hullL qx qy s) ∧ g < w'.heap.size ∧ Below w.heap.size w w' := by
  obtain ⟨i0, hi0, hz0, hz1, hz2⟩ := info_parts Try.info26
  have c1 := clone_q (cap := cap0) hn h0 hl
  clear hl
  go_enter Try.func41, Try.ntmps41
  go_wp2_with fail
  refine c1.mono ?_
  rintro e w1 ⟨g, cap, rfl, hO1, hB1⟩
  clear c1
  have c2 := sort_q hO1 hn
  clear hO1
  go_wp2_with fail
  refine c2.mono ?_
  rintro e w2 ⟨rfl, l', hp, hs, hO2, hB2⟩
  clear c2
  have hll : l'.length = l.length := hp.length_eq
  have c3 := compact_q hO2 (by omega) hs
  rw [hll] at c3
  clear hs hO2
  go_wp2_with fail
  refine c3.mono ?_
  rintro e w3 ⟨s, rfl, hr, hm, hsl, hO3, hB3⟩
  clear c3
  have hm' : ∀ x, x ∈ s ↔ x ∈ l := fun x => (hm x).trans hp.mem_iff
  clear hm
  have hg0 : w.heap.size ≤ g ∧ g < w3.heap.size := hO3.lt g rfl
  have hcap : s.length ≤ cap := by
    rcases hO3.2 with ⟨e, -⟩ | ⟨g', cap', cur, e, -, -, hc, -⟩
    · cases e
    · cases e; exact hc
  have hB13 : Below w.heap.size w w3 := (hB1.trans hB2).trans hB3
  clear hB1 hB2 hB3
  have hs0 : 0 < s.length := by
    refine Nat.pos_of_ne_zero fun e => ?_
    have : s = [] := List.length_eq_zero_iff.1 e
    have h := (hm' (l[0]'h0)).2 (List.getElem_mem h0)
    rw [this] at h; cases h
  by_cases h1 : s.length = 1
  · have hh : hullL qx qy s = s := by unfold hullL; rw [if_pos h1]
    have h1' : (s.length : Int) = 1 := by omega
    have hA := owns_at hO3
    have HO : Hid (hullL qx qy s = s) := hh
    clear hh hO3
    go_wp2
    go_ret
    exact ⟨s, g, cap, by rw [HO.out, h1]; rfl, hr, hm', hsl, by rw [HO.out]; omega, by rw [HO.out]; exact hA, hg0.2, hB13⟩
  · have h1' : ¬ (s.length : Int) = 1 := by omega
    have hh : Hid (hullL qx qy s = ring (wayW qx qy [] s).reverse (wayW qx qy [] s.reverse).reverse) := by unfold hullL; rw [if_neg h1]; exact rfl
    have hR := rings_of hr (by omega)
    have la := hR.la
    have lb := hR.lb
    rw [List.length_reverse] at la lb
    have c4 := way_any s g 0 cap w3 (owns_at hO3) hg0.2 (by omega)
    have b1 : (wayW qx qy [] s).length ≤ 64 := Nat.le_trans (wayW_len s []) (by simp; omega)
    have b2 : (wayW qx qy [] s.reverse).length ≤ 64 := Nat.le_trans (wayW_len s.reverse []) (by simp; omega)
    generalize wayW qx qy [] s = A at c4 hh la b1
    clear hR
    go_wp2_with fail
    refine c4.mono ?_
    rintro e w4 ⟨a1, cap1, rfl, hW1⟩
    clear c4
    have hO4 : Owns w4 w.heap.size (.slice (some ⟨g, 0, none⟩) s.length cap) s := owns_below hO3 hW1.below
    clear hO3
    have c5 := reverse_q hO4 (by omega)
    clear hO4
    go_wp2_with fail
    refine c5.mono ?_
    rintro e w5 ⟨rfl, hO5, hg5⟩
    clear c5
    obtain ⟨g1, rfl, hcap1, hg1, hg1'⟩ := hW1.form (by omega)
    have hB4 := hW1.below
    have own1 : w5.ownsRow w3.heap.size 26 1 (.slice (some ⟨g1, 0, none⟩) A.length cap1) A.length (A.reverse.map qe) := hW1.own.kept hg5 (.inr (by simp [Value.ownBlock]; omega))
    have hB5 : Below w.heap.size w4 w5 := grown_below hg5 (Nat.le_trans hB13.size hB4.size) (fun k e => by cases e; exact hg0.1)
    have hz5 : w4.heap.size ≤ w5.heap.size := hg5.size
    clear hg5 hW1
    have c6 := way_any s.reverse g 0 cap w5 (owns_at hO5) (by have := hB4.size; omega) (by rw [List.length_reverse]; omega)
    rw [List.length_reverse] at c6
    generalize wayW qx qy [] s.reverse = B at c6 hh lb b2
    clear hO5
    go_wp2_with fail
    refine c6.mono ?_
    rintro e w6 ⟨a2, cap2, rfl, hW2⟩
    clear c6
    obtain ⟨g2, rfl, hcap2, hg2, hg2'⟩ := hW2.form (by omega)
    have own1' := owns_below own1 hW2.below
    have hB6 := hW2.below
    have own2 := hW2.own
    clear hW2 own1
    have hring : Hid (hullL qx qy s = A.tail.reverse ++ B.tail.reverse) := by
      have := hh.out
      unfold ring at this
      rw [List.length_reverse, List.length_reverse, take_rev, take_rev] at this
      exact this
    clear hh
    -- the way there without its last point
    have ownA : w6.ownsRow w.heap.size 26 1 (.slice (some ⟨g1, 0, none⟩) (A.length - 1) cap1) (A.length - 1) (A.tail.reverse.map qe) := by
      cases A with
      | nil => simp at la
      | cons x r =>
        rw [List.reverse_cons, List.map_append] at own1'
        exact own_mono (ownsRow_pop (by simp) own1') hB13.size
    have ownB : Owns w6 w5.heap.size (.slice (some ⟨g2, 0, none⟩) (B.length - 1) cap2) B.tail.reverse := by
      cases B with
      | nil => simp at lb
      | cons x r =>
        rw [List.reverse_cons, List.map_append] at own2
        have := ownsRow_pop (by simp) own2
        unfold Owns
        simpa using this
    have atB := owns_at ownB
    have lB : (B.tail.reverse.map qe).length = (B.length - 1) * 1 := by simp
    have news : ∀ j u, (B.tail.reverse.map qe)[j]? = some u → w6.cell? ((⟨g2, 0, none⟩ : Addr).add j) = some u := fun j u hj => by
      have hj' : j < B.tail.reverse.length := by have := (List.getElem?_eq_some_iff.1 hj).1; simpa using this
      have := atB j hj'
      rw [add_zero_none]
      rw [Nat.zero_add] at this
      rw [this, ← hj, List.getElem?_map, List.getElem?_eq_getElem hj']; rfl
    have onesB := qe_ones B.tail.reverse
    obtain ⟨NB, hNB⟩ : ∃ NB, NB = B.tail.reverse.map qe := ⟨_, rfl⟩
    obtain ⟨NA, hNA⟩ : ∃ NA, NA = A.tail.reverse.map qe := ⟨_, rfl⟩
    rw [← hNB] at lB news onesB
    rw [← hNA] at ownA
    have HN : Hid (NA ++ NB = (A.tail.reverse ++ B.tail.reverse).map qe) := by rw [hNA, hNB, List.map_append]; exact rfl
    have hLL : Hid (A.length - 1 + (B.length - 1) = (A.tail.reverse ++ B.tail.reverse).length) := by simp [Hid]
    clear hNA hNB atB ownB own1' own2
    have hz6 : w.heap.size ≤ w6.heap.size := by have := hB13.size; have := hB4.size; have := hB6.size; omega
    have HB : Hid (Below w.heap.size w w6) := (hB13.trans (hB4.mono hB13.size)).trans (hB5.trans (hB6.mono (by have := hB13.size; have := hB4.size; omega)))
    have hgg1 : w.heap.size ≤ g1 := by have := hB13.size; omega
    clear hB13 hB4 hB5 hB6 hz5 hg2 hg2' hg1 hg1'
    generalize A.length = n1 at *
    generalize B.length = n2 at *
    have f1 : IntKind.i64.wrap ((n1 : Int) - 1) = (n1 : Int) - 1 := by rw [IntKind.wrap_i64]; omega
    have f2 : IntKind.i64.wrap ((n2 : Int) - 1) = (n2 : Int) - 1 := by rw [IntKind.wrap_i64]; omega
    have f3 : (0 : Int) ≤ (n1 : Int) - 1 := by omega
    have f4 : (0 : Int) ≤ (n2 : Int) - 1 := by omega
    have f5 : (n1 : Int) - 1 ≤ (cap1 : Int) := by omega
    have f6 : (n2 : Int) - 1 ≤ (cap2 : Int) := by omega
    have f9 : (1 : Int) ≤ (n1 : Int) := by omega
    have f10 : (1 : Int) ≤ (n2 : Int) := by omega
    have f11 : (n1 : Int) ≤ (cap1 : Int) + 1 := by omega
    have f12 : (n2 : Int) ≤ (cap2 : Int) + 1 := by omega
    have f7 : ((n1 : Int) - 1).toNat = n1 - 1 := by omega
    have f8 : ((n2 : Int) - 1).toNat = n2 - 1 := by omega
    go_wp2_with fail
    go_region_held3 (fun _ => True) (first | trivial | go_keep)
        (first | (refine step_append_lies _ (by rfl) _ _ _ (by rfl) w.heap.size 26 i0 _ 1 16 Try.underlying24 hi0 hz0 hz1 hz2 rfl (by omega) (.slice (some ⟨g1, 0, none⟩) (n1 - 1) cap1) (n1 - 1) NA (by rfl) (ownA.drew) ⟨g2, 0, none⟩ (n2 - 1) cap2 NB (by rfl) lB news onesB (by omega) (by unfold maxLen; omega) (by omega) (by simp; omega) w6.heap.size (by simp) ?_; intro gg cap' w7 hown1 hgrow hatt hlt))
    have hcp : n1 - 1 + (n2 - 1) ≤ cap' := by
      rcases hown1.2 with ⟨e, -⟩ | ⟨g', cap'', cur, e, -, -, hc, -⟩
      · cases e
      · cases e; exact hc
    have hOE : Owns w7 w.heap.size (.slice (some ⟨gg, 0, none⟩) (n1 - 1 + (n2 - 1)) cap') (A.tail.reverse ++ B.tail.reverse) := by
      unfold Owns; rw [← HN.out, ← hLL.out]; exact hown1
    have hAt := owns_at hOE
    have hBE : Below w.heap.size w w7 := HB.out.drew.grown hgrow (by show w.heap.size ≤ w6.heap.size; exact hz6) (fun k e => by cases e; exact hgg1)
    clear hown1 hgrow hatt hOE
    go_wp2
    go_ret
    exact ⟨s, gg, cap', by rw [hring.out, ← hLL.out]; rfl, hr, hm', hsl, by rw [hring.out, ← hLL.out]; exact hcp, by rw [hring.out]; exact hAt, hlt, hBE⟩

set_option maxHeartbeats 800000 in
theorem hull_any (l : List Q) (b off cap0 : Nat) (w : World) (hl : Lies w b off (l.map qc)) (h0 : 0 < l.length) (hn : l.length ≤ 64) :
    Calls Try.prog 18 #[.slice (some ⟨b, off, none⟩) l.length cap0] w fun e w' => ∃ (s : List Q) (g cap : Nat), e = .returned (.tuple #[.slice (some ⟨g, 0, none⟩) (hullL qx qy s).length cap, .int .i64 0]) ∧ Rise qx qy s ∧ (∀ x, x ∈ s ↔ x ∈ l) ∧
      s.length ≤ l.length ∧ (hullL qx qy s).length ≤ cap ∧ At w' g 0 (hullL qx qy s) ∧ g < w'.heap.size ∧ Below w.heap.size w w' := by
  have c1 := checkPoints_ok (l.map qc) b off cap0 w hl (qs_lim l) 1 64 (by rw [List.length_map]; omega) (by simpa using hn) (by decide)
  rw [List.length_map] at c1
  have c2 := planeHull_any l b off cap0 w hl h0 hn
  clear hl
  go_enter Try.func18, Try.ntmps18
  go_wp2_with fail
  refine c1.mono ?_
  rintro e w' ⟨rfl, rfl⟩
  go_wp2_with fail
  refine c2.mono ?_
  rintro e w' ⟨s, g, cap, rfl, r1, r2, r3, r4, r5, r6, r7⟩
  go_wp2_with fail
  go_ret2
  exact ⟨s, g, cap, rfl, r1, r2, r3, r4, r5, r6, r7⟩
end Go.Proofs.Ytnlkalbkjocoaaa
