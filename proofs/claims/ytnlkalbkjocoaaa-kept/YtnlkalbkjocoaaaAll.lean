/-
  All: what the range over a shelf goes through.
-/
import Derived.Test.YtnlkalbkjocoaaaLays
import Derived.RangeFuncNested
import Derived.RangeFuncBound
import Derived.RangeFuncCalls
import Derived.RangeFuncLeaves
import Derived.RangeFuncBox
import Derived.Shelf.RegionOpen
import Derived.OwnWalkIn
import Derived.TacticsInMore
import Derived.LoopNIn
import Derived.LoopIn
import Derived.Maps.AppendAt
namespace Go.Proofs.Ytnlkalbkjocoaaa
open Go.Shelf Go.RowKit

attribute [local go_sem] Oper.semAt_some

/-- What comes out of a range: an id, and the block of its shape. -/
abbrev It (R : Nat × Nat → Prop) : Type := { x : Nat × Nat // R x }
abbrev itE {R : Nat × Nat → Prop} (x : It R) : Array Value := #[.int .i64 x.1.1, .pointer (some ⟨x.1.2, 0, none⟩)]
/-- The items with ids less than n. -/
def items {R : Nat × Nat → Prop} (g : Nat → Option Nat) (hR : ∀ i k, i < 1000 → g i = some k → R (i, k)) : Nat → List (It R)
  | 0 => []
  | n + 1 => items g hR n ++ (if h : n < 1000 then (match hg : g n with | none => [] | some k => [⟨(n, k), hR n k h hg⟩]) else [])
theorem items_none {R : Nat × Nat → Prop} {g : Nat → Option Nat} {hR : ∀ i k, i < 1000 → g i = some k → R (i, k)} {n : Nat} (hg : g n = none) : items g hR (n + 1) = items g hR n := by
  rw [items]
  split
  · split
    · simp
    · rename_i k hk; rw [hg] at hk; cases hk
  · simp
theorem items_some {R : Nat × Nat → Prop} {g : Nat → Option Nat} {hR : ∀ i k, i < 1000 → g i = some k → R (i, k)} {n k : Nat} (h : n < 1000) (hg : g n = some k) : items g hR (n + 1) = items g hR n ++ [⟨(n, k), hR n k h hg⟩] := by
  rw [items]
  split
  · split
    · rename_i hk; rw [hg] at hk; cases hk
    · rename_i k' hk; rw [hg] at hk; cases hk; rfl
  · exact absurd h ‹_›
theorem items_len {R : Nat × Nat → Prop} {g : Nat → Option Nat} {hR : ∀ i k, i < 1000 → g i = some k → R (i, k)} (n : Nat) : (items g hR n).length ≤ n := by
  induction n with
  | zero => simp [items]
  | succ n ih =>
    rw [items]
    split
    · split <;> simp <;> omega
    · simp; omega

theorem items_pre {R : Nat × Nat → Prop} {g : Nat → Option Nat} {hR : ∀ i k, i < 1000 → g i = some k → R (i, k)} {k : Nat} (m : Nat) : items g hR k <+: items g hR (k + m) := by
  induction m with
  | zero => exact List.prefix_refl _
  | succ m ih => exact ih.trans (by rw [← Nat.add_assoc, items]; exact List.prefix_append _ _)

/-- What a round keeps: all that lay below n, but for one block. -/
structure KeepsB (n own : Nat) (A B : World) : Prop where
  size : A.heap.size ≤ B.heap.size
  block : ∀ j, j < n → j ≠ own → B.heap[j]? = A.heap[j]?
theorem KeepsB.trans {n own : Nat} {A B C : World} (h : KeepsB n own A B) (k : KeepsB n own B C) : KeepsB n own A C :=
  ⟨Nat.le_trans h.size k.size, fun j hj ho => (k.block j hj ho).trans (h.block j hj ho)⟩
theorem keepsB_b {n own : Nat} {w : World} (hn : n ≤ w.heap.size) (W : World) (l : Nat) (o o' : Obj) (hl : w.heap.size ≤ l) (_h : W.heap[l]? = some o) (_ : o.isCells = false) (_ : o.isWalk = false) : KeepsB n own W (W.putObj l o') := by
  have hg := grownBy_putObj' W l o'
  exact ⟨hg.size, fun j hj _ => hg.block j (by have := (Array.getElem?_eq_some_iff.1 _h).1; omega) (by intro e; cases e; omega)⟩

set_option maxHeartbeats 400000 in
theorem all_any (x : Option Addr) (w : World) : Calls Try.prog 49 #[.agg #[.pointer x]] w fun e w' => e = .returned (.func (.func 75) #[] #[.pointer (some ⟨w.heap.size, 0, none⟩)]) ∧ w' = w.alloc (.cells #[.pointer x] 94) := by
  go_enter Try.func49, Try.ntmps49
  go_wp2
  go_ret
  exact ⟨rfl, rfl⟩

theorem abides_alloc {β : Type} {B : Nat} {J : β → World → Prop} (h : AbidesFrom B J) {s : β} {W : World} (o : Obj) (hs : J s W) : J s (W.alloc o) :=
  h s W _ none hs (World.grownBy_alloc W o none) (fun r e => by cases e)
theorem KeepsB.alloc {n own : Nat} {A B : World} (h : KeepsB n own A B) (hn : n ≤ A.heap.size) (o : Obj) : KeepsB n own A (B.alloc o) :=
  ⟨by have := h.size; simp; omega, fun j hj ho => (heap_old B o (by have := h.size; omega) rfl).trans (h.block j hj ho)⟩

/-- The block own is none of those that a shelf lies in. -/
def OwnApart (w : World) (own : Nat) : Prop := ∀ (j : Nat) (c : Array Value) (t : TypeId), w.heap[j]? = some (Obj.cells c t) → (t = 94 ∨ t = 150 ∨ t = 153) → j ≠ own

set_option maxRecDepth 100000 in
set_option maxHeartbeats 1000000 in
theorem all1_in (n l Bs own : Nat) (ro r : Option Nat) (g : Nat → Option Nat) {R : Nat × Nat → Prop} (hR : ∀ i k, i < 1000 → g i = some k → R (i, k)) (hn : 1 ≤ n) (w : World) (J Jx : List (It R) → World → Prop)
    (hY : ∀ pre x W, J pre W → pre.length < 1000 → YieldAt Fence.wide (n - 1) Try.prog l (itE x) W fun e W' =>
      (e = .returned (.bool true) ∧ J (pre ++ [x]) W' ∧ KeepsB w.heap.size own W W') ∨ (e = .returned (.bool false) ∧ Jx (pre ++ [x]) W'))
    (W : World) (hW : KeepsB w.heap.size own w W) {B : Nat} (hJ0 : AbidesFrom B J) (hBs : w.heap[Bs]? = some (.cells #[ptr ro] 94)) (hO : OwnApart w own) (hS : ShelfOf w ro r g) (h0 : J [] W) :
    CallsIn Fence.wide n Try.prog 75 #[.func (.yield l) #[] #[], .pointer (some ⟨Bs, 0, none⟩)] W fun e W' => (∃ v, e = .returned v) ∧
      ((∃ ys, ys = items g hR 1000 ∧ J ys W') ∨ (∃ pre, pre <+: items g hR 1000 ∧ Jx pre W')) := by
  have hBl : Bs < w.heap.size := (Array.getElem?_eq_some_iff.1 hBs).1
  have c1 := fun W1 (hk : KeepsB w.heap.size own w W1) i (hi : i < 1000) => callsIn_wide (n := n - 1) |>.2 (find_any W1 ro r g (hS.kept fun j c t hj ht => hk.block _ (Array.getElem?_eq_some_iff.1 hj).1 (hO j c t hj (.inr ht))) i hi)
  have c2 : ∀ W1, KeepsB w.heap.size own w W1 → W1.cell? ⟨Bs, 0, none⟩ = some (ptr ro) := fun W1 hk => by
    rw [cell_of_row W1 Bs 0 _ _ _ ((hk.block _ hBl (hO _ _ _ hBs (.inl rfl))).trans hBs)]; rfl
  obtain ⟨pro, hpro⟩ : ∃ x, ptr ro = .pointer x := ⟨_, rfl⟩
  rw [hpro] at c1 c2
  clear hpro hO hS
  have HJ : Hid (∀ (s : List (It R)) (W : World) (o : Obj), J s W → J s (W.alloc o)) := fun s W o h => abides_alloc hJ0 o h
  clear hJ0
  refine callsIn_of_wp Try.func75 rfl trivial ?_ rfl
  simp only [Try.ntmps75, List.size_toArray, List.length_cons, List.length_nil, Nat.reduceAdd, Nat.reduceSub, Array.replicate_succ, Array.replicate_zero, List.push_toArray, List.append_toArray, List.nil_append, List.cons_append]
  gi_wp2
  gi_loopw [5] (fun p wr => ∃ k : Nat, k ≤ 1000 ∧ p = .int .i64 k ∧ KeepsB w.heap.size own w wr ∧ J (items g hR k) wr) (fun p _ => 1000 - (intOf p).toNat)
  case atStart => exact ⟨0, by omega, rfl, hW, h0⟩
  case round =>
    obtain ⟨k, hk, rfl, hK, hJ⟩ := hrel
    by_cases hlt : k < 1000
    · have hlt' : (k : Int) < 1000 := by omega
      have c1' := c1 wr hK k hlt
      have c2' := c2 wr hK
      have hJ' := HJ.out _ _ (.cells #[.pointer pro] 94) hJ
      have hK' : KeepsB w.heap.size own w (wr.alloc (.cells #[.pointer pro] 94)) := hK.alloc (Nat.le_refl _) _
      clear c1 c2 hBs hJ hK
      cases hg : g k with
      | none =>
        rw [hg] at c1'
        unfold ptr at c1'
        simp only [Option.map_none] at c1'
        rw [← items_none hg] at hJ'
        gi_wp2_with (refine ⟨trivial, ?_⟩; gi_at_call 67; refine c1'.mono ?_; rintro e w' ⟨rfl, rfl⟩)
        refine ⟨fun _ h => (by cases h), ?_⟩
        gi_wp2
        go_roundw
        case rel => exact ⟨k + 1, by omega, by go_num, hK', hJ'⟩
        case measure => simp [intOf]; omega
      | some s =>
        rw [hg] at c1'
        unfold ptr at c1'
        simp only [Option.map_some] at c1'
        obtain ⟨fn, tmps, assign, body, hy, hRd⟩ := hY (items g hR k) ⟨(k, s), hR k s hlt hg⟩ _ hJ' (Nat.lt_of_le_of_lt (items_len k) hlt)
        rw [← items_some hlt hg] at hRd
        unfold itE at hy
        dsimp only at hy
        gi_wp2_with (refine ⟨trivial, ?_⟩; gi_at_call 67; refine c1'.mono ?_; rintro e w' ⟨rfl, rfl⟩)
        refine hRd.mono ?_
        rintro e W3 (⟨rfl, hJ3, hk3⟩ | ⟨rfl, hJx3⟩)
        · gi_wp2
          go_roundw
          case rel => exact ⟨k + 1, by omega, by go_num, hK'.trans hk3, hJ3⟩
          case measure => simp [intOf]; omega
        · gi_wp2
          refine bodyPost_ret (results_none rfl _ _ _) rfl ?_
          refine ⟨⟨_, rfl⟩, .inr ⟨_, ?_, hJx3⟩⟩
          have := items_pre (g := g) (hR := hR) (k := k + 1) (1000 - (k + 1))
          rwa [show k + 1 + (1000 - (k + 1)) = 1000 by omega] at this
    · obtain rfl : k = 1000 := by omega
      gi_wp2
      go_end0
      exact ⟨⟨_, rfl⟩, .inl ⟨_, rfl, hJ⟩⟩

/-- All items. -/
noncomputable def allItems {R : Nat × Nat → Prop} (g : Nat → Option Nat) (hR : ∀ i k, i < 1000 → g i = some k → R (i, k)) : List (It R) := Classical.choose (⟨items g hR 1000, rfl⟩ : ∃ l, l = items g hR 1000)
theorem allItems_eq {R : Nat × Nat → Prop} (g : Nat → Option Nat) (hR : ∀ i k, i < 1000 → g i = some k → R (i, k)) : allItems g hR = items g hR 1000 := Classical.choose_spec (⟨items g hR 1000, rfl⟩ : ∃ l, l = items g hR 1000)

/-- A range over a shelf: all its shapes, in rising order of their ids. -/
theorem all_stops (n Bs own : Nat) (ro r : Option Nat) (g : Nat → Option Nat) {R : Nat × Nat → Prop} (hR : ∀ i k, i < 1000 → g i = some k → R (i, k)) (hn : 1 ≤ n) (w : World)
    (hBs : w.heap[Bs]? = some (.cells #[ptr ro] 94)) (hO : OwnApart w own) (hS : ShelfOf w ro r g) :
    SeqStopsK Fence.wide n Try.prog 75 #[.pointer (some ⟨Bs, 0, none⟩)] (itE (R := R)) (KeepsB w.heap.size own) (fun ys => ys = allItems g hR) (fun pre => pre <+: allItems g hR) 1000 w := fun l J Jx W hW hJ _ hY h0 => by
  rw [allItems_eq]
  exact all1_in n l Bs own ro r g hR hn w J Jx hY W ⟨hW.size, fun j hj _ => hW.block j hj⟩ hJ hBs hO hS h0
end Go.Proofs.Ytnlkalbkjocoaaa
