/-
  Maps of the law's triangles: what a view and a map have, by ids; what stays; what lay, Put, Drop do.
-/
import Derived.Test.YtnlkalbkjocoaaaIds
import Derived.Test.YtnlkalbkjocoaaaTold2
import Derived.Test.YtnlkalbkjocoaaaTri2
namespace Go.Proofs.Ytnlkalbkjocoaaa
open Go.Shelf Go.RowKit

/-- A triangle: a corner, and how far it goes to the right and up. -/
structure Tr where
  u : Int
  v : Int
  k : Int
def Tr.l (t : Tr) : List Q := triQ t.u t.v t.k
def Tr.lo (t : Tr) : Q := mkQ t.u t.v
def Tr.hi (t : Tr) : Q := mkQ (t.u + t.k) (t.v + t.k)
def Tr.ok (t : Tr) : Prop := TriOk t.u t.v t.k
def updT (T : Nat → Option Tr) (i : Nat) (o : Option Tr) : Nat → Option Tr := fun j => if j = i then o else T j

/-- The kinds of blocks that nobody writes into once they are made. -/
def KeepT (t : TypeId) : Prop := t = 150 ∨ t = 153 ∨ t = 125 ∨ t = 26
structure Keeps (w w' : World) : Prop where
  size : w.heap.size ≤ w'.heap.size
  block : ∀ (j : Nat) (c : Array Value) (t : TypeId), w.heap[j]? = some (Obj.cells c t) → KeepT t → w'.heap[j]? = w.heap[j]?
theorem Keeps.of_below {w w' : World} (h : Below w.heap.size w w') : Keeps w w' := ⟨h.size, fun j _ _ hj _ => h.block j (Array.getElem?_eq_some_iff.1 hj).1⟩
theorem Keeps.trans {w w' w'' : World} (h : Keeps w w') (k : Keeps w' w'') : Keeps w w'' :=
  ⟨Nat.le_trans h.size k.size, fun j c t hj ht => (k.block j c t ((h.block j c t hj ht).trans hj) ht).trans (h.block j c t hj ht)⟩

/-- A shelf with the triangles T. -/
structure ShelfT (w : World) (ro : Option Nat) (T : Nat → Option Tr) : Prop where
  ex : ∃ r g, ShelfOf w ro r g ∧ (∀ i, T i = none → g i = none) ∧ ∀ i t, T i = some t → t.ok ∧ ∃ k, g i = some k ∧ ShapeHas w k t.l (t.lo, t.hi)

theorem ShapeHas.kept {w w' : World} {s : Nat} {l : List Q} {V : Q × Q} (h : ShapeHas w s l V) (hk : Keeps w w') : ShapeHas w' s l V := by
  obtain ⟨gc, cap, cur, h1, h2, h3, h4⟩ := h
  exact ⟨gc, cap, cur, (hk.block _ _ _ h1 (by unfold KeepT; simp)).trans h1, (hk.block _ _ _ h2 (by unfold KeepT; simp)).trans h2, h3, h4⟩
theorem ShelfT.kept {w w' : World} {ro : Option Nat} {T : Nat → Option Tr} (h : ShelfT w ro T) (hk : Keeps w w') : ShelfT w' ro T := by
  obtain ⟨r, g, h1, h2, h3⟩ := h.ex
  refine ⟨r, g, h1.kept fun j c t hj ht => hk.block j c t hj (by rcases ht with rfl | rfl <;> (unfold KeepT; simp)), h2, fun i t e => ?_⟩
  obtain ⟨q1, k, q2, q3⟩ := h3 i t e
  exact ⟨q1, k, q2, q3.kept hk⟩

/-- The view in block bv. -/
def ViewT (w : World) (bv : Nat) (T : Nat → Option Tr) : Prop := ∃ ro, w.heap[bv]? = some (.cells #[ptr ro] 96) ∧ ShelfT w ro T
theorem ViewT.lt {w : World} {bv : Nat} {T : Nat → Option Tr} (h : ViewT w bv T) : bv < w.heap.size := by obtain ⟨ro, h1, -⟩ := h; exact (Array.getElem?_eq_some_iff.1 h1).1
theorem ViewT.below {w w' : World} {bv : Nat} {T : Nat → Option Tr} (h : ViewT w bv T) (hb : Below w.heap.size w w') : ViewT w' bv T := by
  have hl := h.lt
  obtain ⟨ro, h1, h2⟩ := h; exact ⟨ro, (hb.block _ hl).trans h1, h2.kept (.of_below hb)⟩
theorem ViewT.shelf {w : World} {bv : Nat} {T : Nat → Option Tr} (h : ViewT w bv T) : ∃ r g, ShelfAt w bv r g ∧ (∀ i, T i = none → g i = none) ∧ ∀ i t, T i = some t → t.ok ∧ ∃ k, g i = some k ∧ ShapeHas w k t.l (t.lo, t.hi) := by
  obtain ⟨ro, h1, ⟨r, g, h2, h3⟩⟩ := h; exact ⟨r, g, ⟨ro, h1, h2⟩, h3⟩

/-- The map in block bm, with the shelves of its versions. -/
structure MapT (w : World) (base bm : Nat) (T : Nat → Option Tr) (vs : List (Option Nat)) : Prop where
  ge : base ≤ bm
  ex : ∃ bv v, w.heap[bm]? = some (.cells #[.pointer (some ⟨bv, 0, none⟩), v] 67) ∧ ViewT w bv T ∧ w.ownsRow base 96 1 v vs.length (vs.map ptr) ∧ v.ownBlock ≠ some bv
theorem MapT.lt {w : World} {base bm : Nat} {T : Nat → Option Tr} {vs : List (Option Nat)} (h : MapT w base bm T vs) : bm < w.heap.size := by
  obtain ⟨bv, v, h1, -⟩ := h.ex; exact (Array.getElem?_eq_some_iff.1 h1).1
theorem MapT.below {w w' : World} {base bm : Nat} {T : Nat → Option Tr} {vs : List (Option Nat)} (h : MapT w base bm T vs) (hb : Below w.heap.size w w') : MapT w' base bm T vs := by
  have hl := h.lt
  obtain ⟨bv, v, h1, h2, h3, h4⟩ := h.ex
  exact ⟨h.ge, bv, v, (hb.block _ hl).trans h1, h2.below hb, owns_below h3 hb, h4⟩

/-- What a map's call leaves as it was: all but blocks of maps and views. -/
structure MOp (base : Nat) (w w' : World) : Prop where
  below : Below base w w'
  block : ∀ (j : Nat) (c : Array Value) (t : TypeId), w.heap[j]? = some (Obj.cells c t) → t ≠ 67 → t ≠ 96 → w'.heap[j]? = w.heap[j]?
theorem MOp.keeps {base : Nat} {w w' : World} (h : MOp base w w') : Keeps w w' := ⟨h.below.size, fun j c t hj ht => h.block j c t hj (by unfold KeepT at ht; rcases ht with rfl | rfl | rfl | rfl <;> decide) (by unfold KeepT at ht; rcases ht with rfl | rfl | rfl | rfl <;> decide)⟩
theorem MOp.of_below {base : Nat} {w w' : World} (h : Below w.heap.size w w') (hb : base ≤ w.heap.size) : MOp base w w' := ⟨h.mono hb, fun j _ _ hj _ _ => h.block j (Array.getElem?_eq_some_iff.1 hj).1⟩
theorem MOp.trans {base : Nat} {w w' w'' : World} (h : MOp base w w') (k : MOp base w' w'') : MOp base w w'' :=
  ⟨h.below.trans k.below, fun j c t hj h1 h2 => (k.block j c t ((h.block j c t hj h1 h2).trans hj) h1 h2).trans (h.block j c t hj h1 h2)⟩
theorem MOp.of_but {base bm : Nat} {w w' : World} {c : Array Value} (h : KeptBut bm w w') (hm : w.heap[bm]? = some (.cells c 67)) (hb : base ≤ bm) : MOp base w w' := by
  have hl : bm < w.heap.size := (Array.getElem?_eq_some_iff.1 hm).1
  exact ⟨⟨h.os, h.tape, h.output, h.size, fun j hj => h.block j (by omega) (by omega)⟩, fun j c t hj h1 _ => h.block j (Array.getElem?_eq_some_iff.1 hj).1 (ne_of_type hj hm h1)⟩

theorem own_block {w : World} {base : Nat} {e : TypeId} {k : Nat} {v : Value} {n : Nat} {xs : List Value} (h : w.ownsRow base e k v n xs) {g : Nat} (hg : v.ownBlock = some g) : base ≤ g ∧ ∃ cur, w.heap[g]? = some (.cells cur e) := by
  rcases h.2 with ⟨hv, -⟩ | ⟨g', cap, cur, hv, hb, hgb, -⟩
  · rw [hv] at hg; cases hg
  · rw [hv] at hg; cases hg; exact ⟨hb, cur, hgb⟩
theorem KeptBut.grown {own : Nat} {w w' : World} (h : KeptBut own w w') : w.grownBy w' (some own) := ⟨h.os, h.tape, h.output, h.size, fun j hj hn => h.block j hj (fun e => hn (by rw [e]))⟩

theorem lay_T (w : World) (base bm i : Nat) (so : Option Nat) (T : Nat → Option Tr) (to : Option Tr) (vs : List (Option Nat)) (h : MapT w base bm T vs) (hi : i < 32) (hn : to = none → so = none)
    (hs : ∀ t, to = some t → t.ok ∧ ∃ s, so = some s ∧ ShapeHas w s t.l (t.lo, t.hi)) :
    Calls Try.prog 45 #[.pointer (some ⟨bm, 0, none⟩), .int .i64 i, ptr so] w fun e w' => e = .returned (.tuple #[]) ∧ MapT w' base bm (updT T i to) vs ∧ MOp base w w' := by
  have hlt := h.lt
  have hge := h.ge
  obtain ⟨bv, v, h1, h2, h3, h4⟩ := h.ex
  obtain ⟨r, g, hS, hS1, hS2⟩ := h2.shelf
  refine (lay_any w bm bv i so r g ⟨⟨_, h1, rfl⟩, hS, hlt⟩ hi).mono ?_
  rintro e w' ⟨he, bv', r', hM', hK, hC, hnew⟩
  have hop : MOp base w w' := .of_but hK h1 hge
  refine ⟨he, ⟨hge, bv', v, hC _ h1, ?_, ?_, ?_⟩, hop⟩
  · obtain ⟨ro', q1, q2⟩ := hM'.shelf.view
    refine ⟨ro', q1, r', _, q2, fun j hj => ?_, fun j t hj => ?_⟩
    · unfold updT at hj; unfold upd
      by_cases e : j = i
      · rw [if_pos e] at hj ⊢; exact hn hj
      · rw [if_neg e] at hj ⊢; exact hS1 j hj
    · unfold updT at hj; unfold upd
      by_cases e : j = i
      · rw [if_pos e] at hj
        obtain ⟨k1, s, k2, k3⟩ := hs t hj
        exact ⟨k1, s, by rw [if_pos e]; exact k2, k3.kept hop.keeps⟩
      · rw [if_neg e] at hj
        obtain ⟨k1, s, k2, k3⟩ := hS2 j t hj
        exact ⟨k1, s, by rw [if_neg e]; exact k2, k3.kept hop.keeps⟩
  · refine World.ownsRow.kept h3 hK.grown (.inr fun e => ?_)
    obtain ⟨-, cur, hcur⟩ := own_block h3 e
    rw [h1] at hcur; cases hcur
  · intro e
    obtain ⟨-, cur, hcur⟩ := own_block h3 e
    have := (Array.getElem?_eq_some_iff.1 hcur).1
    omega

theorem MapT.find {w : World} {base bm : Nat} {T : Nat → Option Tr} {vs : List (Option Nat)} (h : MapT w base bm T vs) (i : Nat) (hi : i < 1000) :
    ∃ bv, w.cell? ⟨bm, 0, none⟩ = some (.pointer (some ⟨bv, 0, none⟩)) ∧ ViewT w bv T ∧
      Calls Try.prog 44 #[.pointer (some ⟨bv, 0, none⟩), .int .i64 i] w fun e w' => (∃ p, e = .returned (.tuple #[.pointer p, .int .i64 (if (T i).isSome then 0 else 8)])) ∧ Below w.heap.size w w' := by
  obtain ⟨bv, v, h1, h2, -⟩ := h.ex
  obtain ⟨r, g, hS, hS1, hS2⟩ := h2.shelf
  refine ⟨bv, by rw [cell_of_row w bm 0 _ _ _ h1]; rfl, h2, (viewFind_any w bv r g hS i hi).mono ?_⟩
  rintro e w' ⟨rfl, hb⟩
  refine ⟨⟨(g i).map fun k => ⟨k, 0, none⟩, ?_⟩, hb⟩
  have : (g i).isSome = (T i).isSome := by
    cases hT : T i with
    | none => rw [hS1 i hT]; rfl
    | some t => obtain ⟨-, k, e, -⟩ := hS2 i t hT; rw [e]; rfl
  rw [this]; rfl

theorem tr_len (t : Tr) : t.l.length = 3 := rfl

set_option maxRecDepth 100000 in
set_option maxHeartbeats 800000 in
theorem put_T_there (t : Tr) (b : Nat) (w : World) (base bm i : Nat) (T : Nat → Option Tr) (vs : List (Option Nat)) (h : MapT w base bm T vs) (hi : i < 32) (hT : (T i).isSome = true) (hl : At w b 0 t.l) :
    Calls Try.prog 23 #[.pointer (some ⟨bm, 0, none⟩), .int .i64 i, .slice (some ⟨b, 0, none⟩) 3 3] w fun e w' => e = .returned (.int .i64 7) ∧ Below w.heap.size w w' := by
  obtain ⟨bv, hm, -, c3⟩ := h.find i (by omega)
  rw [hT] at c3
  simp only [if_true] at c3
  have c1 := fun w => isID_any i (by omega) w
  have c2 := checkShape_ok (t.l.map qc) b 0 3 w (at_lies hl) (qs_lim t.l) (by rw [List.length_map, tr_len]; omega) (by rw [List.length_map, tr_len]; omega)
  rw [List.length_map, tr_len] at c2
  clear h hl
  go_enter Try.func23, Try.ntmps23
  go_wp2_with (first | (go_at_call 43; refine (c1 _).mono ?_; rintro e w' ⟨rfl, rfl⟩) | (go_at_call 32; refine c2.mono ?_; rintro e w' ⟨rfl, rfl⟩) | (go_at_call 44; refine c3.mono ?_; rintro e w0 ⟨⟨p, rfl⟩, hBW⟩))
  go_ret
  exact ⟨rfl, hBW⟩

theorem newShape_T (t : Tr) (ht : t.ok) (b cap0 : Nat) (w : World) (hl : At w b 0 t.l) (hb : b < w.heap.size) (hcap : 3 ≤ cap0) :
    Calls Try.prog 46 #[.slice (some ⟨b, 0, none⟩) 3 cap0] w fun e w' => (∃ s, e = .returned (.pointer (some ⟨s, 0, none⟩)) ∧ ShapeHas w' s t.l (t.lo, t.hi)) ∧ Below w.heap.size w w' := by
  have := newShape_full t.l b 0 cap0 w hl hb (by rw [tr_len]; omega) (by rw [tr_len]; omega) (by rw [tr_len]; omega)
  rw [tr_len] at this
  refine this.mono ?_
  rintro e w' ⟨s, V, h1, h2, h3, h4, h5⟩
  obtain ⟨e1, e2⟩ := box_uniq h4 (triQ_box ht)
  refine ⟨⟨s, h1, ?_⟩, h5⟩
  have : V = (t.lo, t.hi) := by cases V; simp only at e1 e2; rw [e1, e2]; rfl
  rw [← this]; exact h3

set_option maxRecDepth 100000 in
set_option maxHeartbeats 800000 in
theorem put_T_new (t : Tr) (ht : t.ok) (b : Nat) (w : World) (base bm i : Nat) (T : Nat → Option Tr) (vs : List (Option Nat)) (h : MapT w base bm T vs) (hi : i < 32) (hT : (T i).isSome = false) (hl : At w b 0 t.l) (hb : b < w.heap.size) :
    Calls Try.prog 23 #[.pointer (some ⟨bm, 0, none⟩), .int .i64 i, .slice (some ⟨b, 0, none⟩) 3 3] w fun e w' => e = .returned (.int .i64 0) ∧ MapT w' base bm (updT T i (some t)) vs ∧ MOp base w w' := by
  obtain ⟨bv, hm, -, c3⟩ := h.find i (by omega)
  rw [hT] at c3
  simp only [Bool.false_eq_true, if_false] at c3
  have c1 := fun w => isID_any i (by omega) w
  have c2 := checkShape_ok (t.l.map qc) b 0 3 w (at_lies hl) (qs_lim t.l) (by rw [List.length_map, tr_len]; omega) (by rw [List.length_map, tr_len]; omega)
  rw [List.length_map, tr_len] at c2
  have c4 : ∀ w0, Below w.heap.size w w0 → _ := fun w0 hw => newShape_T t ht b 3 w0 (hl.below hw hb) (Nat.lt_of_lt_of_le hb hw.size) (by omega)
  have c5 : ∀ (w1 : World) (s : Nat), Below w.heap.size w w1 → ShapeHas w1 s t.l (t.lo, t.hi) → Calls Try.prog 45 #[.pointer (some ⟨bm, 0, none⟩), .int .i64 i, .pointer (some ⟨s, 0, none⟩)] w1 fun e w' => e = .returned (.tuple #[]) ∧ MapT w' base bm (updT T i (some t)) vs ∧ MOp base w1 w' :=
    fun w1 s hw q => lay_T w1 base bm i (some s) T (some t) vs (h.below hw) hi (fun e => nomatch e) (fun t' e => by cases e; exact ⟨ht, s, rfl, q⟩)
  have hbase : base ≤ w.heap.size := Nat.le_trans h.ge (Nat.le_of_lt h.lt)
  have HG : Hid (∀ w1 w2 : World, Below w.heap.size w w1 → MOp base w1 w2 → MOp base w w2) := fun w1 w2 q1 q2 => (MOp.of_below q1 hbase).trans q2
  clear hl h
  go_enter Try.func23, Try.ntmps23
  go_wp2_with (first | (go_at_call 43; refine (c1 _).mono ?_; rintro e w' ⟨rfl, rfl⟩) | (go_at_call 32; refine c2.mono ?_; rintro e w' ⟨rfl, rfl⟩) | (go_at_call 44; refine c3.mono ?_; rintro e w0 ⟨⟨p, rfl⟩, hB0⟩) | (go_at_call 46; refine (c4 _ hB0).mono ?_; rintro e w1 ⟨⟨s, rfl, hS⟩, hBw⟩; replace hBw := hB0.trans (hBw.mono hB0.size); clear hB0) | (go_at_call 45; refine (c5 _ _ (by assumption) (by assumption)).mono ?_; rintro e w2 ⟨rfl, hL, hop⟩))
  go_ret
  exact ⟨rfl, hL, HG.out _ _ hBw hop⟩

set_option maxRecDepth 100000 in
set_option maxHeartbeats 800000 in
theorem drop_T_none (w : World) (base bm i : Nat) (T : Nat → Option Tr) (vs : List (Option Nat)) (h : MapT w base bm T vs) (hi : i < 32) (hT : (T i).isSome = false) :
    Calls Try.prog 28 #[.pointer (some ⟨bm, 0, none⟩), .int .i64 i] w fun e w' => e = .returned (.int .i64 8) ∧ Below w.heap.size w w' := by
  obtain ⟨bv, hm, -, c3⟩ := h.find i (by omega)
  rw [hT] at c3
  simp only [Bool.false_eq_true, if_false] at c3
  clear h
  go_enter Try.func28, Try.ntmps28
  go_wp2_with (first | (go_at_call 44; refine c3.mono ?_; rintro e w0 ⟨⟨p, rfl⟩, hB0⟩))
  go_ret
  exact ⟨rfl, hB0⟩

set_option maxRecDepth 100000 in
set_option maxHeartbeats 800000 in
theorem drop_T_there (w : World) (base bm i : Nat) (T : Nat → Option Tr) (vs : List (Option Nat)) (h : MapT w base bm T vs) (hi : i < 32) (hT : (T i).isSome = true) :
    Calls Try.prog 28 #[.pointer (some ⟨bm, 0, none⟩), .int .i64 i] w fun e w' => e = .returned (.int .i64 0) ∧ MapT w' base bm (updT T i none) vs ∧ MOp base w w' := by
  obtain ⟨bv, hm, -, c3⟩ := h.find i (by omega)
  rw [hT] at c3
  simp only [if_true] at c3
  have c5 : ∀ (w1 : World), Below w.heap.size w w1 → Calls Try.prog 45 #[.pointer (some ⟨bm, 0, none⟩), .int .i64 i, .pointer none] w1 fun e w' => e = .returned (.tuple #[]) ∧ MapT w' base bm (updT T i none) vs ∧ MOp base w1 w' :=
    fun w1 hw => lay_T w1 base bm i none T none vs (h.below hw) hi (fun _ => rfl) (fun t' e => nomatch e)
  have hbase : base ≤ w.heap.size := Nat.le_trans h.ge (Nat.le_of_lt h.lt)
  have HG : Hid (∀ w1 w2 : World, Below w.heap.size w w1 → MOp base w1 w2 → MOp base w w2) := fun w1 w2 q1 q2 => (MOp.of_below q1 hbase).trans q2
  clear h
  go_enter Try.func28, Try.ntmps28
  go_wp2_with (first | (go_at_call 44; refine c3.mono ?_; rintro e w0 ⟨⟨p, rfl⟩, hB0⟩) | (go_at_call 45; refine (c5 _ (by assumption)).mono ?_; rintro e w2 ⟨rfl, hL, hop⟩))
  go_ret
  exact ⟨rfl, hL, HG.out _ _ hB0 hop⟩
end Go.Proofs.Ytnlkalbkjocoaaa
