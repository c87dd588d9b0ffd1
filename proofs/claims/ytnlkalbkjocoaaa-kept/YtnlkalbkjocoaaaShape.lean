/-
  What the law's own 'shape' makes of raw numbers: some 3 to 32 points, none further than 'most', in new memory.
-/
import Derived.Test.YtnlkalbkjocoaaaBegin
import Derived.Deep.RegionHeld3
import Derived.Deep.AppendLies
import Derived.OwnWalk
namespace Go.Proofs.Ytnlkalbkjocoaaa
open Go.RowKit

theorem vals_one (L : List C) : ∀ u ∈ L.map C.v, u.oneCell' = true := by
  intro u hu; obtain ⟨c, -, rfl⟩ := List.mem_map.1 hu; rfl

/-- The length in a slot (for a loop's measure). -/
def lenOf : Value → Nat | .slice _ n _ => n | _ => 0

/-- What shape's loops keep: 'out' is a slice of the call's own that holds the points of L. -/
structure Outs (w wr : World) (most : Int) (a : Option Addr) (cap : Nat) (L : List C) : Prop where
  below : Below w.heap.size w wr
  own : wr.ownsRow w.heap.size 26 1 (.slice a L.length cap) L.length (L.map C.v)
  lim : ∀ c ∈ L, c.lim most

theorem outs_step {w wr w1 : World} {most : Int} {a : Option Addr} {cap g cap' : Nat} {L : List C} {c : C} {o : Obj} (h : Outs w wr most a cap L) (hc : c.lim most)
    (hown : w1.ownsRow w.heap.size 26 1 (.slice (some ⟨g, 0, none⟩) (L.length + 1) cap') (L.length + 1) (L.map C.v ++ [c.v]))
    (hg : ((wr.alloc o).drew).grownBy w1 (Value.slice a L.length cap).ownBlock) : Outs w w1 most (some ⟨g, 0, none⟩) cap' (L ++ [c]) := by
  refine ⟨?_, by simpa using hown, ?_⟩
  · refine ((h.below.alloc h.below.size o).drew).grown hg (by have := h.below.size; simp; omega) (fun k hk => (h.own.lt k hk).1)
  · intro d hd
    rcases List.mem_append.1 hd with hd | hd
    · exact h.lim d hd
    · simp at hd; rw [hd]; exact hc

theorem outs_step' {w wr w1 : World} {most : Int} {a : Option Addr} {cap g cap' : Nat} {L : List C} {c : C} {o : Obj} (h : Outs w wr most a cap L) (hc : c.lim most)
    (hown : w1.ownsRow w.heap.size 26 1 (.slice (some ⟨g, 0, none⟩) (L.length + 1) cap') (L.length + 1) (L.map C.v ++ [c.v]))
    (hg : (wr.alloc o).grownBy w1 (Value.slice a L.length cap).ownBlock) : Outs w w1 most (some ⟨g, 0, none⟩) cap' (L ++ [c]) := by
  refine ⟨?_, by simpa using hown, ?_⟩
  · refine (h.below.alloc h.below.size o).grown hg (by have := h.below.size; simp; omega) (fun k hk => (h.own.lt k hk).1)
  · intro d hd
    rcases List.mem_append.1 hd with hd | hd
    · exact h.lim d hd
    · simp at hd; rw [hd]; exact hc

theorem add_zero_none (g k : Nat) : (⟨g, 0, none⟩ : Addr).add k = ⟨g, k, none⟩ := by unfold Addr.add; split <;> simp_all

theorem own_lies {wr : World} {base : Nat} {a : Option Addr} {cap : Nat} {L : List C} (h : wr.ownsRow base 26 1 (.slice a L.length cap) L.length (L.map C.v)) (h0 : 0 < L.length) :
    ∃ g, a = some ⟨g, 0, none⟩ ∧ base ≤ g ∧ L.length ≤ cap ∧ g < wr.heap.size ∧ Lies wr g 0 L := by
  have hl := h.lt
  have hc := fun g => h.cells (g := g)
  rcases h.2 with h2 | ⟨g, cap', cur, hv, hg, -, hcap, -⟩
  · omega
  · injection hv with e1 _ e2
    subst e1 e2
    obtain ⟨l1, l2⟩ := hl g rfl
    refine ⟨g, rfl, l1, hcap, l2, fun k hk => ?_⟩
    have := hc g rfl k L[k].v (by simp [hk])
    rw [add_zero_none] at this
    rw [Nat.zero_add]; exact this

theorem outs_end {w wr : World} {most : Int} {a : Option Addr} {cap : Nat} {L : List C} (h : Outs w wr most a cap L) (h0 : 0 < L.length) :
    ∃ g, a = some ⟨g, 0, none⟩ ∧ L.length ≤ cap ∧ g < wr.heap.size ∧ Lies wr g 0 L := by
  obtain ⟨g, h1, -, h2, h3, h4⟩ := own_lies h.own h0
  exact ⟨g, h1, h2, h3, h4⟩

/-- No zero of them has a sign. -/
def Can (L : List C) : Prop := ∀ c ∈ L, c = C.of c.X c.Y
theorem can_app {L : List C} {c : C} (h : Can L) (hc : c = C.of c.X c.Y) : Can (L ++ [c]) := by
  intro d hd
  rcases List.mem_append.1 hd with hd | hd
  · exact h d hd
  · simp at hd; rw [hd]; exact hc
theorem can_at (x y most : Int) : atC x y most = C.of (atC x y most).X (atC x y most).Y := by unfold atC; rw [C.X_of, C.Y_of]

set_option maxRecDepth 100000 in
set_option maxHeartbeats 1600000 in
theorem shapeC_any (zs : List Int) (most : Int) (A : Option Addr) (b off cp : Nat) (w : World) (h0 : 0 ≤ most) (h0' : most < 400000) (hb : b < w.heap.size ∨ zs.length = 0)
    (hcell : ∀ k (h : k < zs.length), A = some ⟨b, off, none⟩ ∧ w.cell? ⟨b, off + k, none⟩ = some (.int .i64 zs[k])) (hz : ∀ z ∈ zs, -9223372036854775808 ≤ z ∧ z ≤ 9223372036854775807)
    (_hn : zs.length ≤ 9223372036854775807) :
    Calls Try.prog 9 #[.slice A zs.length cp, .int .i64 most] w fun e w' => ∃ (L : List C) (g cap : Nat), e = .returned (.slice (some ⟨g, 0, none⟩) L.length cap) ∧ 3 ≤ L.length ∧ L.length ≤ 32 ∧ (∀ c ∈ L, c.lim most) ∧
      Lies w' g 0 L ∧ g < w'.heap.size ∧ L.length ≤ cap ∧ Below w.heap.size w w' ∧ Can L := by
  obtain ⟨i0, hi0, hz0, hz1, hz2⟩ := info_parts Try.info26
  go_enter Try.func9, Try.ntmps9
  go_wp2
  go_loopw [5, 6] (fun v i wr => ∃ (L : List C) (j : Nat) (a : Option Addr) (cap : Nat), j ≤ 64 ∧ L.length ≤ 32 ∧ Hid (j = 2 * L.length) ∧ i = .int .i64 j ∧ v = .slice a L.length cap ∧ Outs w wr most a cap L ∧ Hid (Can L))
    (fun _ i _ => 64 - (intOf i).toNat)
  case atStart => exact ⟨[], 0, none, 0, by omega, by simp, rfl, rfl, rfl, ⟨Below.refl _ _, World.ownsRow_nil _ _ _ _, by simp⟩, fun c hc => by cases hc⟩
  case round =>
    obtain ⟨L, j, a, cap, hj, hL, HJ, rfl, rfl, hO, HC⟩ := hrel
    by_cases hgo : j + 1 < zs.length ∧ L.length < 32
    · obtain ⟨h1, h2⟩ := hgo
      have h1' : (j : Int) + 1 < (zs.length : Int) := by omega
      have h2' : (L.length : Int) < 32 := by omega
      obtain ⟨hA, hc1⟩ := hcell j (by omega)
      obtain ⟨-, hc2⟩ := hcell (j + 1) h1
      have hbb : b < w.heap.size := by omega
      have k1 : wr.cell? ⟨b, off + j, none⟩ = some (.int .i64 zs[j]) := by rw [hO.below.cell (p := ⟨b, off + j, none⟩) hbb]; exact hc1
      have k2 : wr.cell? ⟨b, off + (j + 1), none⟩ = some (.int .i64 zs[j + 1]) := by rw [hO.below.cell (p := ⟨b, off + (j + 1), none⟩) hbb]; exact hc2
      have z1 := hz _ (List.getElem_mem (show j < zs.length by omega))
      have z2 := hz _ (List.getElem_mem h1)
      have hat := fun w => at_any zs[j] zs[j + 1] most h0 h0' z1.1 z1.2 z2.1 z2.2 w
      have hlim := atC_lim zs[j] zs[j + 1] most h0
      have hcan := can_at zs[j] zs[j + 1] most
      generalize atC zs[j] zs[j + 1] most = c at hat hlim hcan
      have HC2 : Hid (Can (L ++ [c])) := can_app HC.out hcan
      clear hcan HC
      generalize zs[j] = x1 at k1 hat
      generalize zs[j + 1] = x2 at k2 hat
      subst hA
      clear hc1 hc2 z1 z2 hcell hz
      have hown := hO.own
      have hbase := hO.below.size
      have hbr : b < wr.heap.size := by omega
      have e1 : (0 : Int) ≤ (j : Int) := by omega
      have e2 : (j : Int) < (zs.length : Int) := by omega
      have e3 : (0 : Int) ≤ (j : Int) + 1 := by omega
      have e4 : IntKind.i64.wrap ((j : Int) + 1) = (j : Int) + 1 := by rw [IntKind.wrap_i64]; omega
      have e5 : ((j : Int) + 1).toNat = j + 1 := by omega
      have HO : Hid (Outs w wr most a cap L) := hO
      clear hO
      go_wp2_with fail
      go_region_held3 (fun w' => w'.cell? ⟨b, off + j, none⟩ = some (.int .i64 x1) ∧ w'.cell? ⟨b, off + (j + 1), none⟩ = some (.int .i64 x2))
        (first
          | go_keep
          | (go_split_ands
             refine ⟨?_, ?_⟩
             · (rw [hgrow.cell_far _ (by simp; omega) (fun e => by have := hown.lt b e.symm; omega)]; assumption)
             · (rw [hgrow.cell_far _ (by simp; omega) (fun e => by have := hown.lt b e.symm; omega)]; assumption)))
        (first
          | (go_at_call 10; refine (hat _).mono ?_; rintro e w' ⟨rfl, rfl⟩)
          | (refine step_append_lies _ (by rfl) _ _ _ (by rfl) w.heap.size 26 i0 _ 1 16 Try.underlying24 hi0 hz0 hz1 hz2 rfl (by omega) (.slice a L.length cap) L.length (L.map C.v) (by rfl) ((hown.alloc _).drew)
              ⟨wr.heap.size, 0, none⟩ 1 1 [c.v] (by rfl) (by rfl) (World.news_of_block (cs := #[c.v]) (t := 26) (fr := (0, 0)) (heap_alloc_new wr _)) (by simp [Value.oneCell'])
              (by omega) (by unfold maxLen; omega) (by omega) (by simp; omega) (wr.heap.size + 1) (by simp) ?_; intro gg cap' w1 hown1 hgrow hatt hlt))
      have hO' := outs_step HO.out hlim hown1 hgrow
      have hj' : j + 2 ≤ 64 := by have := HJ.out; omega
      have HJ' : Hid (j + 2 = 2 * (L ++ [c]).length) := by rw [HJ.out, List.length_append]; rfl
      clear hown1 hgrow hatt hown HO HJ k1 k2 hat
      go_wp2
      go_roundw
      case rel => exact ⟨L ++ [c], j + 2, some ⟨gg, 0, none⟩, cap', hj', by simp; omega, HJ', by go_num, by simp, hO', HC2⟩
      case measure => simp [intOf]; omega
    · have hD : ((j : Int) + 1 < (zs.length : Int) ∧ ¬ (L.length : Int) < 32) ∨ (¬ (j : Int) + 1 < (zs.length : Int) ∧ L.length ≤ 32) := by omega
      clear hcell hz hb hgo HJ
      rcases hD with ⟨h1, h2⟩ | ⟨h1, h2⟩
      all_goals
        go_wp2
        clear h1 h2
        go_loopw [5] (fun v wr => ∃ (L : List C) (a : Option Addr) (cap : Nat), L.length ≤ 32 ∧ v = .slice a L.length cap ∧ Outs w wr most a cap L ∧ Hid (Can L)) (fun v _ => 3 - lenOf v)
        case atStart => exact ⟨L, a, cap, hL, rfl, hO, HC⟩
        case round =>
          clear hO hL HC
          obtain ⟨L, a, cap, hL, rfl, hO, HC⟩ := hrel
          by_cases h3 : L.length < 3
          · have h3' : (L.length : Int) < 3 := by omega
            have hm : (L.length : Int) * (L.length : Int) ≤ 4 ∧ 0 ≤ (L.length : Int) * (L.length : Int) := by
              rcases (by omega : L.length = 0 ∨ L.length = 1 ∨ L.length = 2) with h | h | h <;> simp [h]
            have hwr : IntKind.i64.wrap ((L.length : Int) * (L.length : Int)) = (L.length : Int) * (L.length : Int) := by rw [IntKind.wrap_i64]; omega
            have hat := fun w => at_any ((L.length : Int) * 3) ((L.length : Int) * (L.length : Int)) most h0 h0' (by omega) (by omega) (by omega) (by omega) w
            have hlim := atC_lim ((L.length : Int) * 3) ((L.length : Int) * (L.length : Int)) most h0
            have hcan := can_at ((L.length : Int) * 3) ((L.length : Int) * (L.length : Int)) most
            generalize atC ((L.length : Int) * 3) ((L.length : Int) * (L.length : Int)) most = c at hat hlim hcan
            have HC2 : Hid (Can (L ++ [c])) := can_app HC.out hcan
            clear hcan HC
            have hown := hO.own
            have hbase := hO.below.size
            have HO : Hid (Outs w wr most a cap L) := hO
            clear hO
            go_wp2_with fail
            refine (hat _).mono ?_
            rintro e w' ⟨rfl, rfl⟩
            go_wp2_with (at_builtin; refine wpList_append_lies _ rfl _ _ 24 rfl w.heap.size 26 i0 _ 1 16 Try.underlying24 hi0 hz0 hz1 hz2 rfl (by omega) (.slice a L.length cap) L.length (L.map C.v) rfl (hown.alloc _) ⟨w'.heap.size, 0, none⟩ 1 1 [c.v] rfl rfl (World.news_of_block (cs := #[c.v]) (t := 26) (fr := (0, 0)) (heap_alloc_new w' _)) (by simp [Value.oneCell']) (by omega) (by unfold maxLen; omega) (by omega) (by simp; omega) (w'.heap.size + 1) (by simp) ?_)
            intro gg cap' w1 hown1 hgrow hatt hlt
            have hO' := outs_step' HO.out hlim hown1 hgrow
            clear hown1 hgrow hatt hown HO hat
            go_wp2
            go_roundw
            case rel => exact ⟨L ++ [c], some ⟨gg, 0, none⟩, cap', by simp; omega, by simp, hO', HC2⟩
            case measure => simp [lenOf]; omega
          · have h3' : ¬ (L.length : Int) < 3 := by omega
            obtain ⟨g, hg, hgb, hgs, hli⟩ := outs_end hO (by omega)
            subst hg
            go_wp2
            go_ret
            exact ⟨L, g, cap, rfl, by omega, hL, hO.lim, hli, hgs, hgb, hO.below, HC.out⟩

theorem shape_any (zs : List Int) (most : Int) (A : Option Addr) (b off cp : Nat) (w : World) (h0 : 0 ≤ most) (h0' : most < 400000) (hb : b < w.heap.size ∨ zs.length = 0)
    (hcell : ∀ k (h : k < zs.length), A = some ⟨b, off, none⟩ ∧ w.cell? ⟨b, off + k, none⟩ = some (.int .i64 zs[k])) (hz : ∀ z ∈ zs, -9223372036854775808 ≤ z ∧ z ≤ 9223372036854775807)
    (hn : zs.length ≤ 9223372036854775807) :
    Calls Try.prog 9 #[.slice A zs.length cp, .int .i64 most] w fun e w' => ∃ (L : List C) (g cap : Nat), e = .returned (.slice (some ⟨g, 0, none⟩) L.length cap) ∧ 3 ≤ L.length ∧ L.length ≤ 32 ∧ (∀ c ∈ L, c.lim most) ∧
      Lies w' g 0 L ∧ g < w'.heap.size ∧ L.length ≤ cap ∧ Below w.heap.size w w' :=
  (shapeC_any zs most A b off cp w h0 h0' hb hcell hz hn).mono fun _ _ ⟨L, g, cap, r1, r2, r3, r4, r5, r6, r7, r8, _⟩ => ⟨L, g, cap, r1, r2, r3, r4, r5, r6, r7, r8⟩
end Go.Proofs.Ytnlkalbkjocoaaa
