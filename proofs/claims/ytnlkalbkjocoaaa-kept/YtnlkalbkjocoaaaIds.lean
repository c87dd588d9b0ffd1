/-
  ids: which shapes of a view are asked for.
-/
import Derived.Test.YtnlkalbkjocoaaaAsk
import Derived.Test.YtnlkalbkjocoaaaNear
namespace Go.Proofs.Ytnlkalbkjocoaaa
open Go.Shelf Go.RowKit

attribute [local go_sem] Oper.semAt_some

/-- What is known of an item. -/
def GR (g : Nat → Option Nat) (x : Nat × Nat) : Prop := x.1 < 1000 ∧ g x.1 = some x.2
theorem gR (g : Nat → Option Nat) : ∀ i k, i < 1000 → g i = some k → GR g (i, k) := fun _ _ h e => ⟨h, e⟩
/-- The ids of those items that are asked for. -/
def picks {R : Nat × Nat → Prop} (P : Nat → Bool) (pre : List (It R)) : List Nat := (pre.map fun x => x.1.1).filter P
theorem picks_len {R : Nat × Nat → Prop} (P : Nat → Bool) (pre : List (It R)) : (picks P pre).length ≤ pre.length := by
  unfold picks; exact Nat.le_trans (List.length_filter_le _ _) (by simp)
theorem picks_no {R : Nat × Nat → Prop} {P : Nat → Bool} {pre : List (It R)} {x : It R} (h : P x.1.1 = false) : picks P (pre ++ [x]) = picks P pre := by
  unfold picks; rw [List.map_append, List.filter_append]; simp [h]
theorem picks_yes {R : Nat × Nat → Prop} {P : Nat → Bool} {pre : List (It R)} {x : It R} (h : P x.1.1 = true) : picks P (pre ++ [x]) = picks P pre ++ [x.1.1] := by
  unfold picks; rw [List.map_append, List.filter_append]; simp [h]

/-- What the range has gathered. -/
def Picked {R : Nat × Nat → Prop} (w : World) (fv : Value) (P : Nat → Bool) (pre : List (It R)) (W : World) : Prop :=
  (∃ v, Go.Boxed W (w.heap.size + 1) 22 v ∧ W.ownsRow (w.heap.size + 3) 3 1 v (picks P pre).length ((picks P pre).map fun i : Nat => .int .i64 (i : Int))) ∧ Go.Boxed W w.heap.size 139 fv ∧ Below w.heap.size w W ∧ w.heap.size + 3 ≤ W.heap.size

theorem picked_own {R : Nat × Nat → Prop} {w : World} {fv : Value} {P : Nat → Bool} {B : Nat} (hB : w.heap.size ≤ B := by simp; omega) : OwnFrom B (fun (pre : List (It R)) W => Picked w fv P pre W) := fun s X Y row ⟨⟨v, h1, h2⟩, h3, h4, h5⟩ hg hr =>
  ⟨⟨v, (Own.from (boxed_own _ _ (fun _ : Unit => v)) B) () X Y row h1 hg hr, (ownsRow_from B _ _ _ v (fun s : List (It R) => (picks P s).length) (fun s => (picks P s).map fun i : Nat => .int .i64 (i : Int))) s X Y row h2 hg hr⟩,
    (Own.from (boxed_own _ _ (fun _ : Unit => _)) B) () X Y row h3 hg hr, (ownFrom_below (β := Unit) (Nat.le_refl _) hB) () X Y row h4 hg hr, Nat.le_trans h5 hg.size⟩

theorem picked_start {R : Nat × Nat → Prop} (w : World) (fv : Value) (P : Nat → Bool) (pro : Option Addr) : Picked (R := R) w fv P [] (((w.alloc (.cells #[fv] 139)).alloc (.cells #[.slice none 0 0] 22)).alloc (.cells #[.pointer pro] 94)) :=
  ⟨⟨_, by have := (Go.Boxed.new (w.alloc (.cells #[fv] 139)) 22 (.slice none 0 0)).alloc (.cells #[.pointer pro] 94); rwa [World.size_alloc] at this, rfl, .inl ⟨rfl, rfl⟩⟩, ((Go.Boxed.new _ _ _).alloc _).alloc _, (((Below.refl _ _).alloc (Nat.le_refl _) _).alloc (by simp) _).alloc (by simp; omega) _, by simp⟩

theorem keepsOthers_below {W w1 : World} (h : Below W.heap.size W w1) : KeepsOthers W w1 := ⟨h.size, fun k _ hk _ => (h.block k (Array.getElem?_eq_some_iff.1 hk).1).trans hk⟩

theorem picked_skip {R : Nat × Nat → Prop} {w W w1 : World} {fv : Value} {P : Nat → Bool} {pre : List (It R)} {x : It R} (h : Picked w fv P pre W) (h1 : Below W.heap.size W w1) (hp : P x.1.1 = false) :
    KeepsOthers W w1 ∧ KeepsB (w.heap.size + 3) (w.heap.size + 1) W w1 ∧ Picked w fv P (pre ++ [x]) w1 := by
  obtain ⟨⟨v, hbx, hrow⟩, hfx, hB, hW⟩ := h
  refine ⟨keepsOthers_below h1, ⟨h1.size, fun j hj _ => h1.block j (by omega)⟩, ⟨v, (h1.block _ hbx.lt).trans hbx, ?_⟩, (h1.block _ hfx.lt).trans hfx, hB.trans (h1.mono hB.size), Nat.le_trans hW h1.size⟩
  rw [picks_no hp]; exact owns_below hrow h1

theorem picked_end {R : Nat × Nat → Prop} {w W w1 w3 : World} {fv : Value} {P : Nat → Bool} {pre : List (It R)} {x : It R} {v : Value} {g' cap' : Nat} (hbx : Go.Boxed W (w.heap.size + 1) 22 v) (hrow : W.ownsRow (w.heap.size + 3) 3 1 v (picks P pre).length ((picks P pre).map fun i : Nat => .int .i64 (i : Int)))
    (hfx : Go.Boxed W w.heap.size 139 fv) (hB : Below w.heap.size w W) (hW : w.heap.size + 3 ≤ W.heap.size) (hb : Below W.heap.size W w1) (hp : P x.1.1 = true)
    (h3 : w3.ownsRow (w.heap.size + 3) 3 1 (.slice (some ⟨g', 0, none⟩) ((picks P pre).length + 1) cap') ((picks P pre).length + 1) ((picks P pre).map (fun i : Nat => .int .i64 (i : Int)) ++ [.int .i64 (x.1.1 : Int)])) (h4 : (w1.alloc (.cells #[.int .i64 (x.1.1 : Int)] 3)).grownBy w3 v.ownBlock) :
    (w3.cell? ⟨w.heap.size + 1, 0, none⟩ = some v ∧ w3.frozen? ⟨w.heap.size + 1, 0, none⟩ = false) ∧
    KeepsOthers W (w3.setCell ⟨w.heap.size + 1, 0, none⟩ (.slice (some ⟨g', 0, none⟩) ((picks P pre).length + 1) cap')) ∧ KeepsB (w.heap.size + 3) (w.heap.size + 1) W (w3.setCell ⟨w.heap.size + 1, 0, none⟩ (.slice (some ⟨g', 0, none⟩) ((picks P pre).length + 1) cap')) ∧
      Picked w fv P (pre ++ [x]) (w3.setCell ⟨w.heap.size + 1, 0, none⟩ (.slice (some ⟨g', 0, none⟩) ((picks P pre).length + 1) cap')) := by
  have hkeep : ∀ j, j < W.heap.size → v.ownBlock ≠ some j → w3.heap[j]? = W.heap[j]? := fun j hj hn => by
    rw [h4.block j (by simp; have := hb.size; omega) (fun e => hn e.symm)]
    exact (heap_old _ _ (by have := hb.size; omega) rfl).trans (hb.block j hj)
  have hlow : ∀ j, j < w.heap.size + 3 → v.ownBlock ≠ some j := fun j hj e => by have := ownBlock_ge hrow e; omega
  have hs3 : W.heap.size ≤ w3.heap.size := by have := h4.size; simp at this; have := hb.size; omega
  have hg' : w.heap.size + 3 ≤ g' := ownBlock_ge h3 rfl
  have hbx3 : Go.Boxed w3 (w.heap.size + 1) 22 v := (hkeep _ hbx.lt (hlow _ (by omega))).trans hbx
  have hsetK : KeepsB (w.heap.size + 3) (w.heap.size + 1) W (w3.setCell ⟨w.heap.size + 1, 0, none⟩ (.slice (some ⟨g', 0, none⟩) ((picks P pre).length + 1) cap')) :=
    ⟨by simpa [World.setCell] using hs3, fun j hj hn => (heap_setCell_other _ _ _ _ hn).trans (hkeep j (by omega) (hlow j hj))⟩
  refine ⟨⟨hbx3.cell, hbx3.frozen⟩, ⟨hsetK.size, fun k o hk ho => ?_⟩, hsetK, ⟨⟨_, hbx3.set _, ?_⟩, ?_, ?_, Nat.le_trans hW hsetK.size⟩⟩
  · have hkl : k < W.heap.size := (Array.getElem?_eq_some_iff.1 hk).1
    have hne : k ≠ w.heap.size + 1 := by
      rintro rfl
      rw [show W.heap[w.heap.size + 1]? = _ from hbx] at hk; cases hk; cases ho
    refine (heap_setCell_other _ _ _ _ hne).trans ?_
    refine (hkeep k hkl ?_).trans hk
    intro e
    rcases hrow.2 with ⟨hv, -⟩ | ⟨g, cap, cur, hv, -, hgb, -⟩
    · rw [hv] at e; cases e
    · rw [hv] at e
      have : g = k := by simpa [Value.ownBlock] using e
      subst this
      rw [hgb] at hk; cases hk; cases ho
  · rw [picks_yes hp, List.length_append, List.map_append]
    refine World.ownsRow.kept (row := some (w.heap.size + 1)) h3 ?_ (.inr ?_)
    · exact ⟨rfl, rfl, rfl, by simp [World.setCell], fun j _ hn => heap_setCell_other _ _ _ _ (fun e => hn (by rw [e]))⟩
    · intro e; have : g' = w.heap.size + 1 := by simpa [Value.ownBlock] using e
      omega
  · exact ((heap_setCell_other _ _ _ _ (by show w.heap.size ≠ w.heap.size + 1; omega)).trans (hkeep _ hfx.lt (hlow _ (by omega)))).trans hfx
  · have hs := hsetK.size
    refine ⟨?_, ?_, ?_, Nat.le_trans hB.size hs, fun j hj => ((hsetK.block j (by omega) (by omega)).trans (hB.block j hj))⟩
    · show w3.os = w.os; rw [h4.os, show (w1.alloc _).os = w1.os from rfl, hb.os, hB.os]
    · show w3.tape = w.tape; rw [h4.tape, show (w1.alloc _).tape = w1.tape from rfl, hb.tape, hB.tape]
    · show w3.output = w.output; rw [h4.output, show (w1.alloc _).output = w1.output from rfl, hb.output, hB.output]

set_option maxRecDepth 100000 in
set_option maxHeartbeats 1000000 in
theorem idsWindow_any (w : World) (bv bb : Nat) (r : Option Nat) (g : Nat → Option Nat) (hS : ShelfAt w bv r g) (P : Nat → Bool)
    (hq : ∀ W i k, Below w.heap.size w W → i < 1000 → g i = some k → Calls Try.prog 79 #[.pointer (some ⟨k, 0, none⟩), .pointer (some ⟨bb, 0, none⟩)] W fun e W' => e = .returned (.bool (P i)) ∧ Below W.heap.size W W') :
    Calls Try.prog 78 #[.pointer (some ⟨bv, 0, none⟩), (.func (.func 79) #[] #[.pointer (some ⟨bb, 0, none⟩)])] w fun e w' => NearAns w w' (picks P (allItems g (gR g))) e := by
  obtain ⟨ro, hview, hS⟩ := hS.view
  have hlt : bv < w.heap.size := (Array.getElem?_eq_some_iff.1 hview).1
  have hv : ∀ o1 o2, ((w.alloc o1).alloc o2).cell? ⟨bv, 0, none⟩ = some (ptr ro) := fun o1 o2 => by rw [World.cell?_alloc_lt _ _ _ (by simp; omega), World.cell?_alloc_lt _ _ _ hlt, cell_of_row w bv 0 _ _ _ hview]; rfl
  have HP : Hid (ptr ro = .pointer (ro.map fun k => ⟨k, 0, none⟩)) := rfl
  rw [HP.out] at hv
  generalize ro.map (fun k => (⟨k, 0, none⟩ : Addr)) = pro at hv HP
  refine (callsIn_wide (n := 5)).1 ?_
  refine callsIn_of_wp_marks Try.func78 rfl trivial ?_ rfl
  simp only [Try.ntmps78, List.size_toArray, List.length_cons, List.length_nil, Nat.reduceAdd, Nat.reduceSub, Array.replicate_succ, Array.replicate_zero, List.push_toArray, List.append_toArray, List.nil_append, List.cons_append]
  gi_wp2_with (refine ⟨trivial, ?_⟩; gi_at_call 49; refine (callsIn_wide.2 (all_any _ _)).mono ?_; rintro e w' ⟨rfl, rfl⟩)
  have hb1 : Below w.heap.size w (((w.alloc (.cells #[(.func (.func 79) #[] #[.pointer (some ⟨bb, 0, none⟩)])] 139)).alloc (.cells #[.slice none 0 0] 22)).alloc (.cells #[.pointer pro] 94)) := (((Below.refl _ _).alloc (Nat.le_refl _) _).alloc (by simp) _).alloc (by simp; omega) _
  have hcnt : (((w.alloc (.cells #[(.func (.func 79) #[] #[.pointer (some ⟨bb, 0, none⟩)])] 139)).alloc (.cells #[.slice none 0 0] 22)).alloc (.cells #[.pointer pro] 94)).heap[w.heap.size + 1]? = some (.cells #[.slice none 0 0] 22) := heap_old _ _ (by simp) (heap_last _ _ _ (by simp))
  refine wpIn_rangeFunc_ownF (α := It (GR g)) rfl (by omega) (gf := 75) (lb := #[.pointer (some ⟨w.heap.size + 1 + 1, 0, none⟩)]) rfl trivial (enters_of Try.func75 (by kernel_rfl) rfl)
    (all_stops 4 (w.heap.size + 1 + 1) (w.heap.size + 1) ro r g (gR g) (by omega) _ (by rw [HP.out]; exact heap_last _ _ _ (by simp)) (fun j c t hj ht => ne_of_type hj hcnt (by rcases ht with rfl | rfl | rfl <;> decide)) (hS.below hb1))
    (fun h k => h.trans k) (keepsB_b (Nat.le_refl _)) (Below.refl _ _) (fun _ => rfl)
    (fun pre W => Picked w (.func (.func 79) #[] #[.pointer (some ⟨bb, 0, none⟩)]) P pre W) (fun _ _ _ => False) picked_own
    (fun _ _ _ _ _ h _ _ => h)
    (picked_start w (.func (.func 79) #[] #[.pointer (some ⟨bb, 0, none⟩)]) P pro)
    (fun x => { tmps := #[.pointer (some ⟨bv, 0, none⟩), (.func (.func 79) #[] #[.pointer (some ⟨bb, 0, none⟩)]), undef, .pointer (some ⟨w.heap.size, 0, none⟩), .slice none 0 0, .pointer (some ⟨w.heap.size + 1, 0, none⟩), .int .i64 x.1.1, .pointer (some ⟨x.1.2, 0, none⟩), .pointer (some ⟨bv, 0, none⟩), .pointer (some ⟨bv, 0, none⟩), .pointer (some ⟨bv, 0, none⟩), .agg #[.pointer pro], .func (.func 75) #[] #[.pointer (some ⟨w.heap.size + 1 + 1, 0, none⟩)], .int .i64 x.1.1, .pointer (some ⟨x.1.2, 0, none⟩), undef, undef, undef, undef, undef, undef, undef, undef], defers := [] }) ?assign ?body ?done ?stop
  case assign =>
    intro l x W K hK
    unfold itE
    rw [zip2]
    gi_wp2
    exact hK
  case body =>
    rintro l pre x W hG hN
    obtain ⟨⟨v, hbx, hrow⟩, hfx, hB, hW⟩ := hG
    have hcF : W.cell? ⟨w.heap.size, 0, none⟩ = some (.func (.func 79) #[] #[.pointer (some ⟨bb, 0, none⟩)]) := hfx.cell
    have hask := hq W x.1.1 x.1.2 hB x.2.1 x.2.2
    have HE : Hid (∀ w1, Below W.heap.size W w1 → P x.1.1 = false → KeepsOthers W w1 ∧ KeepsB (((w.alloc (.cells #[(.func (.func 79) #[] #[.pointer (some ⟨bb, 0, none⟩)])] 139)).alloc (.cells #[.slice none 0 0] 22)).alloc (.cells #[.pointer pro] 94)).heap.size (w.heap.size + 1) W w1 ∧ Picked w (.func (.func 79) #[] #[.pointer (some ⟨bb, 0, none⟩)]) P (pre ++ [x]) w1) := fun w1 h1 hp => by
      rw [show (((w.alloc (.cells #[(.func (.func 79) #[] #[.pointer (some ⟨bb, 0, none⟩)])] 139)).alloc (.cells #[.slice none 0 0] 22)).alloc (.cells #[.pointer pro] 94)).heap.size = w.heap.size + 3 by simp]
      exact picked_skip ⟨⟨v, hbx, hrow⟩, hfx, hB, hW⟩ h1 hp
    have HG : Hid (∀ w1 w3 g' cap', Below W.heap.size W w1 → P x.1.1 = true → w3.ownsRow (w.heap.size + 3) 3 1 (.slice (some ⟨g', 0, none⟩) ((picks P pre).length + 1) cap') ((picks P pre).length + 1) ((picks P pre).map (fun i : Nat => .int .i64 (i : Int)) ++ [.int .i64 (x.1.1 : Int)]) → (w1.alloc (.cells #[.int .i64 (x.1.1 : Int)] 3)).grownBy w3 v.ownBlock →
        (w3.cell? ⟨w.heap.size + 1, 0, none⟩ = some v ∧ w3.frozen? ⟨w.heap.size + 1, 0, none⟩ = false) ∧
        (KeepsOthers W (w3.setCell ⟨w.heap.size + 1, 0, none⟩ (.slice (some ⟨g', 0, none⟩) ((picks P pre).length + 1) cap')) ∧ KeepsB (((w.alloc (.cells #[(.func (.func 79) #[] #[.pointer (some ⟨bb, 0, none⟩)])] 139)).alloc (.cells #[.slice none 0 0] 22)).alloc (.cells #[.pointer pro] 94)).heap.size (w.heap.size + 1) W (w3.setCell ⟨w.heap.size + 1, 0, none⟩ (.slice (some ⟨g', 0, none⟩) ((picks P pre).length + 1) cap')) ∧ Picked w (.func (.func 79) #[] #[.pointer (some ⟨bb, 0, none⟩)]) P (pre ++ [x]) (w3.setCell ⟨w.heap.size + 1, 0, none⟩ (.slice (some ⟨g', 0, none⟩) ((picks P pre).length + 1) cap')))) := fun w1 w3 g' cap' h1 hp h3 h4 => by
      rw [show (((w.alloc (.cells #[(.func (.func 79) #[] #[.pointer (some ⟨bb, 0, none⟩)])] 139)).alloc (.cells #[.slice none 0 0] 22)).alloc (.cells #[.pointer pro] 94)).heap.size = w.heap.size + 3 by simp]
      exact picked_end hbx hrow hfx hB hW h1 hp h3 h4
    have hA : ∀ w1, Below W.heap.size W w1 → w1.cell? ⟨w.heap.size + 1, 0, none⟩ = some v ∧ (w1.alloc (.cells #[.int .i64 (x.1.1 : Int)] 3)).ownsRow (w.heap.size + 3) 3 1 v (picks P pre).length ((picks P pre).map fun i : Nat => .int .i64 (i : Int)) ∧ w.heap.size + 3 ≤ w1.heap.size := fun w1 h1 =>
      ⟨(h1.cell (p := ⟨w.heap.size + 1, 0, none⟩) hbx.lt).trans hbx.cell, (owns_below hrow h1).alloc _, Nat.le_trans hW h1.size⟩
    have hlen : (picks P pre).length ≤ pre.length := picks_len P pre
    clear hbx hrow hfx hB
    generalize (picks P pre).length = m at *
    generalize (picks P pre).map (fun i : Nat => Value.int .i64 (i : Int)) = M at *
    obtain ⟨i0, hi0, hz0, hz1, hz2⟩ := info_parts infoI
    cases hp : P x.1.1 with
    | false =>
      rw [hp] at hask
      gi_wp2_with (refine ⟨trivial, ?_⟩; gi_at_call 79; refine (CallsIn.inRound l (callsIn_wide.2 hask)).mono ?_; rintro e w1 ⟨rfl, hb1'⟩)
      exact HE.out _ hb1' hp
    | true =>
      rw [hp] at hask
      gi_wp2_with (first | (refine ⟨trivial, ?_⟩; gi_at_call 79; refine (CallsIn.inRound l (callsIn_wide.2 hask)).mono ?_; rintro e w1 ⟨rfl, hb1'⟩; obtain ⟨hA1, hA2, hA3⟩ := hA _ hb1') | (gi_at_builtin; refine wpListIn_append_own _ rfl (.tmp 18) (.tmp 20) 22 rfl (w.heap.size + 3) 3 i0 _ 1 8 Try.underlying22 hi0 hz0 hz1 hz2 rfl (by decide) _ m _ rfl hA2 ⟨w1.heap.size, 0, none⟩ 1 1 [.int .i64 (x.1.1 : Int)] rfl rfl (fun j u hu => by rw [add_zero_none, cell_of_row _ _ j _ _ _ (heap_last _ _ _ rfl)]; simpa using hu) (by simp [Value.oneCell']) (by simp [maxLen]; omega) (by omega) (by simp; omega) ?_; intro v' w3 hO3 hgr _; obtain ⟨g', cap', rfl⟩ := ownsRow_succ hO3; obtain ⟨⟨hc3, hf3⟩, HH⟩ := HG.out _ _ _ _ hb1' hp hO3 hgr))
      exact HH
  case done =>
    rintro D ys W hD rfl ⟨⟨v, hbx, hrow⟩, hfx, hB, hW⟩ hK
    have hc := hbx.cell
    have HO : Hid (W.ownsRow (w.heap.size + 3) 3 1 v (picks P (allItems g (gR g))).length ((picks P (allItems g (gR g))).map fun i : Nat => .int .i64 (i : Int))) := hrow
    have HB : Hid (Below w.heap.size w W) := hB
    clear hrow hB hfx hbx
    gi_wp2
    refine ⟨by simp, .inl ⟨_, _, rfl, run_takeDeferred hK, ?_⟩⟩
    refine ⟨_, results_tmp rfl _ _ _, _, rfl, ?_, HB.out.trans (belowK_b (w := w) (Nat.le_refl _) W D _ _ (by simp at hD; omega) hK rfl rfl)⟩
    refine World.ownsRow.kept (own_mono HO.out (by omega)) (grownBy_putObj' W D _) ?_
    rcases HO.out.2 with ⟨hv, -⟩ | ⟨g', cap', cur', hv, -, hgb, -⟩
    · left; rw [hv]; rfl
    · right; rw [hv]; intro e
      have : g' = D := by simpa [Value.ownBlock] using e
      subst this
      rw [hgb] at hK; cases hK
  case stop =>
    rintro D c pre W _ _ h _
    exact h.elim
set_option maxRecDepth 100000 in
set_option maxHeartbeats 1000000 in
theorem idsHits_any (w : World) (bv bb : Nat) (r : Option Nat) (g : Nat → Option Nat) (hS : ShelfAt w bv r g) (P : Nat → Bool)
    (hq : ∀ W i k, Below w.heap.size w W → i < 1000 → g i = some k → Calls Try.prog 81 #[.pointer (some ⟨k, 0, none⟩), .pointer (some ⟨bb, 0, none⟩)] W fun e W' => e = .returned (.bool (P i)) ∧ Below W.heap.size W W') :
    Calls Try.prog 78 #[.pointer (some ⟨bv, 0, none⟩), (.func (.func 81) #[] #[.pointer (some ⟨bb, 0, none⟩)])] w fun e w' => NearAns w w' (picks P (allItems g (gR g))) e := by
  obtain ⟨ro, hview, hS⟩ := hS.view
  have hlt : bv < w.heap.size := (Array.getElem?_eq_some_iff.1 hview).1
  have hv : ∀ o1 o2, ((w.alloc o1).alloc o2).cell? ⟨bv, 0, none⟩ = some (ptr ro) := fun o1 o2 => by rw [World.cell?_alloc_lt _ _ _ (by simp; omega), World.cell?_alloc_lt _ _ _ hlt, cell_of_row w bv 0 _ _ _ hview]; rfl
  have HP : Hid (ptr ro = .pointer (ro.map fun k => ⟨k, 0, none⟩)) := rfl
  rw [HP.out] at hv
  generalize ro.map (fun k => (⟨k, 0, none⟩ : Addr)) = pro at hv HP
  refine (callsIn_wide (n := 5)).1 ?_
  refine callsIn_of_wp_marks Try.func78 rfl trivial ?_ rfl
  simp only [Try.ntmps78, List.size_toArray, List.length_cons, List.length_nil, Nat.reduceAdd, Nat.reduceSub, Array.replicate_succ, Array.replicate_zero, List.push_toArray, List.append_toArray, List.nil_append, List.cons_append]
  gi_wp2_with (refine ⟨trivial, ?_⟩; gi_at_call 49; refine (callsIn_wide.2 (all_any _ _)).mono ?_; rintro e w' ⟨rfl, rfl⟩)
  have hb1 : Below w.heap.size w (((w.alloc (.cells #[(.func (.func 81) #[] #[.pointer (some ⟨bb, 0, none⟩)])] 139)).alloc (.cells #[.slice none 0 0] 22)).alloc (.cells #[.pointer pro] 94)) := (((Below.refl _ _).alloc (Nat.le_refl _) _).alloc (by simp) _).alloc (by simp; omega) _
  have hcnt : (((w.alloc (.cells #[(.func (.func 81) #[] #[.pointer (some ⟨bb, 0, none⟩)])] 139)).alloc (.cells #[.slice none 0 0] 22)).alloc (.cells #[.pointer pro] 94)).heap[w.heap.size + 1]? = some (.cells #[.slice none 0 0] 22) := heap_old _ _ (by simp) (heap_last _ _ _ (by simp))
  refine wpIn_rangeFunc_ownF (α := It (GR g)) rfl (by omega) (gf := 75) (lb := #[.pointer (some ⟨w.heap.size + 1 + 1, 0, none⟩)]) rfl trivial (enters_of Try.func75 (by kernel_rfl) rfl)
    (all_stops 4 (w.heap.size + 1 + 1) (w.heap.size + 1) ro r g (gR g) (by omega) _ (by rw [HP.out]; exact heap_last _ _ _ (by simp)) (fun j c t hj ht => ne_of_type hj hcnt (by rcases ht with rfl | rfl | rfl <;> decide)) (hS.below hb1))
    (fun h k => h.trans k) (keepsB_b (Nat.le_refl _)) (Below.refl _ _) (fun _ => rfl)
    (fun pre W => Picked w (.func (.func 81) #[] #[.pointer (some ⟨bb, 0, none⟩)]) P pre W) (fun _ _ _ => False) picked_own
    (fun _ _ _ _ _ h _ _ => h)
    (picked_start w (.func (.func 81) #[] #[.pointer (some ⟨bb, 0, none⟩)]) P pro)
    (fun x => { tmps := #[.pointer (some ⟨bv, 0, none⟩), (.func (.func 81) #[] #[.pointer (some ⟨bb, 0, none⟩)]), undef, .pointer (some ⟨w.heap.size, 0, none⟩), .slice none 0 0, .pointer (some ⟨w.heap.size + 1, 0, none⟩), .int .i64 x.1.1, .pointer (some ⟨x.1.2, 0, none⟩), .pointer (some ⟨bv, 0, none⟩), .pointer (some ⟨bv, 0, none⟩), .pointer (some ⟨bv, 0, none⟩), .agg #[.pointer pro], .func (.func 75) #[] #[.pointer (some ⟨w.heap.size + 1 + 1, 0, none⟩)], .int .i64 x.1.1, .pointer (some ⟨x.1.2, 0, none⟩), undef, undef, undef, undef, undef, undef, undef, undef], defers := [] }) ?assign ?body ?done ?stop
  case assign =>
    intro l x W K hK
    unfold itE
    rw [zip2]
    gi_wp2
    exact hK
  case body =>
    rintro l pre x W hG hN
    obtain ⟨⟨v, hbx, hrow⟩, hfx, hB, hW⟩ := hG
    have hcF : W.cell? ⟨w.heap.size, 0, none⟩ = some (.func (.func 81) #[] #[.pointer (some ⟨bb, 0, none⟩)]) := hfx.cell
    have hask := hq W x.1.1 x.1.2 hB x.2.1 x.2.2
    have HE : Hid (∀ w1, Below W.heap.size W w1 → P x.1.1 = false → KeepsOthers W w1 ∧ KeepsB (((w.alloc (.cells #[(.func (.func 81) #[] #[.pointer (some ⟨bb, 0, none⟩)])] 139)).alloc (.cells #[.slice none 0 0] 22)).alloc (.cells #[.pointer pro] 94)).heap.size (w.heap.size + 1) W w1 ∧ Picked w (.func (.func 81) #[] #[.pointer (some ⟨bb, 0, none⟩)]) P (pre ++ [x]) w1) := fun w1 h1 hp => by
      rw [show (((w.alloc (.cells #[(.func (.func 81) #[] #[.pointer (some ⟨bb, 0, none⟩)])] 139)).alloc (.cells #[.slice none 0 0] 22)).alloc (.cells #[.pointer pro] 94)).heap.size = w.heap.size + 3 by simp]
      exact picked_skip ⟨⟨v, hbx, hrow⟩, hfx, hB, hW⟩ h1 hp
    have HG : Hid (∀ w1 w3 g' cap', Below W.heap.size W w1 → P x.1.1 = true → w3.ownsRow (w.heap.size + 3) 3 1 (.slice (some ⟨g', 0, none⟩) ((picks P pre).length + 1) cap') ((picks P pre).length + 1) ((picks P pre).map (fun i : Nat => .int .i64 (i : Int)) ++ [.int .i64 (x.1.1 : Int)]) → (w1.alloc (.cells #[.int .i64 (x.1.1 : Int)] 3)).grownBy w3 v.ownBlock →
        (w3.cell? ⟨w.heap.size + 1, 0, none⟩ = some v ∧ w3.frozen? ⟨w.heap.size + 1, 0, none⟩ = false) ∧
        (KeepsOthers W (w3.setCell ⟨w.heap.size + 1, 0, none⟩ (.slice (some ⟨g', 0, none⟩) ((picks P pre).length + 1) cap')) ∧ KeepsB (((w.alloc (.cells #[(.func (.func 81) #[] #[.pointer (some ⟨bb, 0, none⟩)])] 139)).alloc (.cells #[.slice none 0 0] 22)).alloc (.cells #[.pointer pro] 94)).heap.size (w.heap.size + 1) W (w3.setCell ⟨w.heap.size + 1, 0, none⟩ (.slice (some ⟨g', 0, none⟩) ((picks P pre).length + 1) cap')) ∧ Picked w (.func (.func 81) #[] #[.pointer (some ⟨bb, 0, none⟩)]) P (pre ++ [x]) (w3.setCell ⟨w.heap.size + 1, 0, none⟩ (.slice (some ⟨g', 0, none⟩) ((picks P pre).length + 1) cap')))) := fun w1 w3 g' cap' h1 hp h3 h4 => by
      rw [show (((w.alloc (.cells #[(.func (.func 81) #[] #[.pointer (some ⟨bb, 0, none⟩)])] 139)).alloc (.cells #[.slice none 0 0] 22)).alloc (.cells #[.pointer pro] 94)).heap.size = w.heap.size + 3 by simp]
      exact picked_end hbx hrow hfx hB hW h1 hp h3 h4
    have hA : ∀ w1, Below W.heap.size W w1 → w1.cell? ⟨w.heap.size + 1, 0, none⟩ = some v ∧ (w1.alloc (.cells #[.int .i64 (x.1.1 : Int)] 3)).ownsRow (w.heap.size + 3) 3 1 v (picks P pre).length ((picks P pre).map fun i : Nat => .int .i64 (i : Int)) ∧ w.heap.size + 3 ≤ w1.heap.size := fun w1 h1 =>
      ⟨(h1.cell (p := ⟨w.heap.size + 1, 0, none⟩) hbx.lt).trans hbx.cell, (owns_below hrow h1).alloc _, Nat.le_trans hW h1.size⟩
    have hlen : (picks P pre).length ≤ pre.length := picks_len P pre
    clear hbx hrow hfx hB
    generalize (picks P pre).length = m at *
    generalize (picks P pre).map (fun i : Nat => Value.int .i64 (i : Int)) = M at *
    obtain ⟨i0, hi0, hz0, hz1, hz2⟩ := info_parts infoI
    cases hp : P x.1.1 with
    | false =>
      rw [hp] at hask
      gi_wp2_with (refine ⟨trivial, ?_⟩; gi_at_call 81; refine (CallsIn.inRound l (callsIn_wide.2 hask)).mono ?_; rintro e w1 ⟨rfl, hb1'⟩)
      exact HE.out _ hb1' hp
    | true =>
      rw [hp] at hask
      gi_wp2_with (first | (refine ⟨trivial, ?_⟩; gi_at_call 81; refine (CallsIn.inRound l (callsIn_wide.2 hask)).mono ?_; rintro e w1 ⟨rfl, hb1'⟩; obtain ⟨hA1, hA2, hA3⟩ := hA _ hb1') | (gi_at_builtin; refine wpListIn_append_own _ rfl (.tmp 18) (.tmp 20) 22 rfl (w.heap.size + 3) 3 i0 _ 1 8 Try.underlying22 hi0 hz0 hz1 hz2 rfl (by decide) _ m _ rfl hA2 ⟨w1.heap.size, 0, none⟩ 1 1 [.int .i64 (x.1.1 : Int)] rfl rfl (fun j u hu => by rw [add_zero_none, cell_of_row _ _ j _ _ _ (heap_last _ _ _ rfl)]; simpa using hu) (by simp [Value.oneCell']) (by simp [maxLen]; omega) (by omega) (by simp; omega) ?_; intro v' w3 hO3 hgr _; obtain ⟨g', cap', rfl⟩ := ownsRow_succ hO3; obtain ⟨⟨hc3, hf3⟩, HH⟩ := HG.out _ _ _ _ hb1' hp hO3 hgr))
      exact HH
  case done =>
    rintro D ys W hD rfl ⟨⟨v, hbx, hrow⟩, hfx, hB, hW⟩ hK
    have hc := hbx.cell
    have HO : Hid (W.ownsRow (w.heap.size + 3) 3 1 v (picks P (allItems g (gR g))).length ((picks P (allItems g (gR g))).map fun i : Nat => .int .i64 (i : Int))) := hrow
    have HB : Hid (Below w.heap.size w W) := hB
    clear hrow hB hfx hbx
    gi_wp2
    refine ⟨by simp, .inl ⟨_, _, rfl, run_takeDeferred hK, ?_⟩⟩
    refine ⟨_, results_tmp rfl _ _ _, _, rfl, ?_, HB.out.trans (belowK_b (w := w) (Nat.le_refl _) W D _ _ (by simp at hD; omega) hK rfl rfl)⟩
    refine World.ownsRow.kept (own_mono HO.out (by omega)) (grownBy_putObj' W D _) ?_
    rcases HO.out.2 with ⟨hv, -⟩ | ⟨g', cap', cur', hv, -, hgb, -⟩
    · left; rw [hv]; rfl
    · right; rw [hv]; intro e
      have : g' = D := by simpa [Value.ownBlock] using e
      subst this
      rw [hgb] at hK; cases hK
  case stop =>
    rintro D c pre W _ _ h _
    exact h.elim
end Go.Proofs.Ytnlkalbkjocoaaa
