/-
  What New makes, what Put does.
-/
import Derived.Test.YtnlkalbkjocoaaaShp
import Derived.Test.YtnlkalbkjocoaaaHull
namespace Go.Proofs.Ytnlkalbkjocoaaa
open Go.Shelf Go.RowKit

/-- What NewShape answers: a new block with a shape's box. -/
def NewAns (l : List Q) (w : World) (e : Ending) (w' : World) : Prop := ∃ (s : Nat) (V : Q × Q), e = .returned (.pointer (some ⟨s, 0, none⟩)) ∧ w.heap.size ≤ s ∧ ShapeAt w' s V ∧ BoxOf l V.1 V.2 ∧ Below w.heap.size w w'
/-- .. with its corners. -/
def NewFull (l : List Q) (w : World) (e : Ending) (w' : World) : Prop := ∃ (s : Nat) (V : Q × Q), e = .returned (.pointer (some ⟨s, 0, none⟩)) ∧ w.heap.size ≤ s ∧ ShapeHas w' s l V ∧ BoxOf l V.1 V.2 ∧ Below w.heap.size w w'

set_option maxHeartbeats 400000 in
theorem isID_any (i : Nat) (hi : i < 1000) (w : World) : Calls Try.prog 43 #[.int .i64 i] w fun e w' => e = .returned (.bool true) ∧ w' = w := by
  have h1 : (0 : Int) ≤ (i : Int) := by omega
  have h2 : (i : Int) ≤ 999 := by omega
  go_enter Try.func43, Try.ntmps43
  go_wp2
  go_ret
  exact ⟨rfl, rfl⟩

set_option maxHeartbeats 400000 in
theorem viewFind_any (w : World) (b : Nat) (r : Option Nat) (g : Nat → Option Nat) (h : ShelfAt w b r g) (i : Nat) (hi : i < 1000) :
    Calls Try.prog 44 #[.pointer (some ⟨b, 0, none⟩), .int .i64 i] w fun e w' => e = .returned (.tuple #[ptr (g i), .int .i64 (if (g i).isSome then 0 else 8)]) ∧ Below w.heap.size w w' := by
  have c1 := fun w => isID_any i hi w
  obtain ⟨ro, hview, hS⟩ := h.view
  have c2 := find_any w ro r g hS i hi
  have hv : w.cell? ⟨b, 0, none⟩ = some (ptr ro) := by rw [cell_of_row w b 0 _ _ _ hview]; rfl
  have HW : Hid (∀ o, Below w.heap.size w (w.alloc o)) := fun o => (Below.refl _ _).alloc (Nat.le_refl _) _
  obtain ⟨pro, hpro⟩ : ∃ x, ptr ro = .pointer x := ⟨_, rfl⟩
  rw [hpro] at c2 hv
  clear h hS hview hpro
  cases hg : g i with
  | none =>
    rw [hg] at c2
    unfold ptr at *
    simp only [Option.map_none, Option.isSome_none, Bool.false_eq_true, if_false] at *
    go_enter Try.func44, Try.ntmps44
    go_wp2_with (first | (go_at_call 43; refine (c1 _).mono ?_; rintro e w' ⟨rfl, rfl⟩) | (go_at_call 67; refine c2.mono ?_; rintro e w' ⟨rfl, rfl⟩))
    go_ret2
    exact ⟨rfl, HW.out _⟩
  | some k =>
    rw [hg] at c2
    unfold ptr at *
    simp only [Option.map_some, Option.isSome_some, if_true] at *
    go_enter Try.func44, Try.ntmps44
    go_wp2_with (first | (go_at_call 43; refine (c1 _).mono ?_; rintro e w' ⟨rfl, rfl⟩) | (go_at_call 67; refine c2.mono ?_; rintro e w' ⟨rfl, rfl⟩))
    go_ret2
    exact ⟨rfl, HW.out _⟩

theorem own_cur {w : World} {base g cap : Nat} {l : List Q} (h : Owns w base (.slice (some ⟨g, 0, none⟩) l.length cap) l) :
    ∃ cur : Array Value, w.heap[g]? = some (.cells cur 26) ∧ l.length ≤ cap ∧ ∀ k (h : k < l.length), cur[k]? = some (qe l[k]) := by
  rcases h.2 with ⟨h, -⟩ | ⟨g', cap', cur, he, -, hg, hc, -, -, ht⟩
  · cases h
  · cases he
    refine ⟨cur, hg, hc, fun k hk => ?_⟩
    have h1 := congrArg (fun l => l[k]?) ht
    simp only [List.getElem?_take, Nat.mul_one] at h1
    rw [if_pos hk] at h1
    rw [← Array.getElem?_toList, h1, List.getElem?_map, List.getElem?_eq_getElem hk]; rfl

set_option maxRecDepth 100000 in
set_option maxHeartbeats 800000 in
theorem newShape_full (l : List Q) (b off cap0 : Nat) (w : World) (hl : At w b off l) (hb : b < w.heap.size) (h3 : 3 ≤ l.length) (hn : l.length ≤ 32) (hcap : l.length ≤ cap0) :
    Calls Try.prog 46 #[.slice (some ⟨b, off, none⟩) l.length cap0] w fun e w' => NewFull l w e w' := by
  have c1 := clone_q (cap := cap0) (by omega : l.length ≤ 64) (by omega) (at_lies hl)
  have c2 := fun w1 (hw : Below w.heap.size w w1) => planeBounds_any l b off cap0 w1 (hl.below hw hb) (Nat.lt_of_lt_of_le hb hw.size) (by omega) hn hcap
  clear hl
  go_enter Try.func46, Try.ntmps46
  go_wp2_with fail
  refine c1.mono ?_
  rintro e w1 ⟨g, cap, rfl, hO1, hB1⟩
  have c3 := c2 _ hB1
  have HO : Hid (∃ cur : Array Value, w1.heap[g]? = some (.cells cur 26) ∧ l.length ≤ cap ∧ ∀ k (h : k < l.length), cur[k]? = some (qe l[k])) := own_cur hO1
  clear c1 c2 hO1
  go_wp2_with fail
  refine c3.mono ?_
  rintro e w2 ⟨⟨lo, hi, rfl, hX⟩, hB2⟩
  clear c3
  obtain ⟨a1, a2, ha⟩ : ∃ a1 a2, qe lo = .complex .f64 a1 a2 := ⟨_, _, rfl⟩
  obtain ⟨b1, b2, hbb⟩ : ∃ b1 b2, qe hi = .complex .f64 b1 b2 := ⟨_, _, rfl⟩
  have HA : Hid (qe lo = .complex .f64 a1 a2 ∧ qe hi = .complex .f64 b1 b2) := ⟨ha, hbb⟩
  have HB : Hid (Below w.heap.size w w2) := hB1.trans (hB2.mono hB1.size)
  have HO2 : Hid (∃ cur : Array Value, w2.heap[g]? = some (.cells cur 26) ∧ l.length ≤ cap ∧ ∀ k (h : k < l.length), cur[k]? = some (qe l[k])) := by
    obtain ⟨cur, q1, q2, q3⟩ := HO.out
    exact ⟨cur, (hB2.block _ (Array.getElem?_eq_some_iff.1 q1).1).trans q1, q2, q3⟩
  rw [ha, hbb]
  clear ha hbb hB1 hB2
  go_wp2_with fail
  go_ret
  obtain ⟨cur, q1, q2, q3⟩ := HO2.out
  refine ⟨_, (lo, hi), rfl, HB.out.size, ⟨g, cap, cur, ?_, heap_old _ _ (Array.getElem?_eq_some_iff.1 q1).1 q1, q2, q3⟩, hX, HB.out.trans ((Below.refl _ _).alloc HB.out.size _)⟩
  show (w2.alloc _).heap[w2.heap.size]? = _
  rw [HA.out.1, HA.out.2]
  exact heap_alloc_last _ _

theorem newShape_any (l : List Q) (b off cap0 : Nat) (w : World) (hl : At w b off l) (hb : b < w.heap.size) (h3 : 3 ≤ l.length) (hn : l.length ≤ 32) (hcap : l.length ≤ cap0) :
    Calls Try.prog 46 #[.slice (some ⟨b, off, none⟩) l.length cap0] w fun e w' => NewAns l w e w' :=
  (newShape_full l b off cap0 w hl hb h3 hn hcap).mono fun _ _ ⟨s, V, h1, h2, h3, h4, h5⟩ => ⟨s, V, h1, h2, h3.box, h4, h5⟩

/-- A map in block bm that has shapes in the blocks g, with the boxes V. -/
structure MapHas (w : World) (bm bv : Nat) (r : Option Nat) (g : Nat → Option Nat) (V : Nat → Q × Q) : Prop where
  map : MapAt w bm bv r g
  shapes : ∀ i k, g i = some k → k ≠ bm ∧ ShapeAt w k (V i)

theorem MapHas.below {w w' : World} {bm bv : Nat} {r : Option Nat} {g : Nat → Option Nat} {V : Nat → Q × Q} (h : MapHas w bm bv r g V) (hb : Below w.heap.size w w') : MapHas w' bm bv r g V :=
  ⟨h.map.below hb, fun i k e => ⟨(h.shapes i k e).1, (h.shapes i k e).2.kept (hb.block _ (h.shapes i k e).2.lt)⟩⟩

/-- The map has one shape more. -/
def PutAns (l : List Q) (w w' : World) (bm i : Nat) (g : Nat → Option Nat) (V : Nat → Q × Q) : Prop :=
  ∃ (s bv : Nat) (r : Option Nat) (B : Q × Q), BoxOf l B.1 B.2 ∧ MapHas w' bm bv r (upd g i (some s)) (fun j => if j = i then B else V j) ∧ KeptBut bm w w'

set_option maxRecDepth 100000 in
set_option maxHeartbeats 800000 in
theorem put_there (l : List Q) (b off cap0 : Nat) (w : World) (bm bv i k : Nat) (r : Option Nat) (g : Nat → Option Nat) (h : MapAt w bm bv r g) (hi : i < 32) (hg : g i = some k)
    (hl : At w b off l) (h3 : 3 ≤ l.length) (hn : l.length ≤ 32) :
    Calls Try.prog 23 #[.pointer (some ⟨bm, 0, none⟩), .int .i64 i, .slice (some ⟨b, off, none⟩) l.length cap0] w fun e w' => e = .returned (.int .i64 7) ∧ Below w.heap.size w w' := by
  have hm := h.ptr
  have c1 := fun w => isID_any i (by omega) w
  have c2 := checkShape_ok (l.map qc) b off cap0 w (at_lies hl) (qs_lim l) (by simpa using h3) (by simpa using hn)
  simp only [List.length_map] at c2
  have c3 := viewFind_any w bv r g h.shelf i (by omega)
  rw [hg] at c3
  unfold ptr at c3
  simp only [Option.map_some, Option.isSome_some, if_true] at c3
  clear h hl
  go_enter Try.func23, Try.ntmps23
  go_wp2_with (first | (go_at_call 43; refine (c1 _).mono ?_; rintro e w' ⟨rfl, rfl⟩) | (go_at_call 32; refine c2.mono ?_; rintro e w' ⟨rfl, rfl⟩) | (go_at_call 44; refine c3.mono ?_; rintro e w0 ⟨rfl, hBW⟩))
  go_ret
  exact ⟨rfl, hBW⟩

set_option maxRecDepth 100000 in
set_option maxHeartbeats 800000 in
theorem put_new (l : List Q) (b off cap0 : Nat) (w : World) (bm bv i : Nat) (r : Option Nat) (g : Nat → Option Nat) (V : Nat → Q × Q) (h : MapHas w bm bv r g V) (hi : i < 32) (hg : g i = none)
    (hl : At w b off l) (hb : b < w.heap.size) (h3 : 3 ≤ l.length) (hn : l.length ≤ 32) (hcap : l.length ≤ cap0) :
    Calls Try.prog 23 #[.pointer (some ⟨bm, 0, none⟩), .int .i64 i, .slice (some ⟨b, off, none⟩) l.length cap0] w fun e w' => e = .returned (.int .i64 0) ∧ PutAns l w w' bm i g V := by
  have hm := h.map.ptr
  have c1 := fun w => isID_any i (by omega) w
  have c2 := checkShape_ok (l.map qc) b off cap0 w (at_lies hl) (qs_lim l) (by simpa using h3) (by simpa using hn)
  simp only [List.length_map] at c2
  have c3 := viewFind_any w bv r g h.map.shelf i (by omega)
  rw [hg] at c3
  unfold ptr at c3
  simp only [Option.map_none, Option.isSome_none, Bool.false_eq_true, if_false] at c3
  have c4 : ∀ w0, Below w.heap.size w w0 → _ := fun w0 hw => newShape_any l b off cap0 w0 (hl.below hw hb) (Nat.lt_of_lt_of_le hb hw.size) h3 hn hcap
  have c5 : ∀ (w1 : World) (s : Nat), Below w.heap.size w w1 → Calls Try.prog 45 #[.pointer (some ⟨bm, 0, none⟩), .int .i64 i, .pointer (some ⟨s, 0, none⟩)] w1 fun e w' => e = .returned (.tuple #[]) ∧ Laid w1 w' bm (upd g i (some s)) := fun w1 s hw => lay_any w1 bm bv i (some s) r g (h.map.below hw) hi
  have hbm := h.map.lt
  clear hl
  have HM : Hid (MapHas w bm bv r g V) := h
  clear h
  go_enter Try.func23, Try.ntmps23
  go_wp2_with (first | (go_at_call 43; refine (c1 _).mono ?_; rintro e w' ⟨rfl, rfl⟩) | (go_at_call 32; refine c2.mono ?_; rintro e w' ⟨rfl, rfl⟩) | (go_at_call 44; refine c3.mono ?_; rintro e w0 ⟨rfl, hB0⟩) | (go_at_call 46; refine (c4 _ hB0).mono ?_; rintro e w1 ⟨s, B, rfl, hs, hS, hB, hBw⟩; replace hBw := hB0.trans (hBw.mono hB0.size); replace hs := Nat.le_trans hB0.size hs; clear hB0) | (go_at_call 45; refine (c5 _ _ (by assumption)).mono ?_; rintro e w2 ⟨rfl, hL⟩))
  go_ret
  refine ⟨rfl, ?_⟩
  obtain ⟨bv', r', hM', hK, -⟩ := hL
  have hsl := hS.lt
  have hsb : s ≠ bm := by omega
  refine ⟨s, bv', r', B, hB, ⟨hM', fun j k e => ?_⟩, (KeptBut.of_below hBw).trans hK⟩
  unfold upd at e
  by_cases hj : j = i
  · rw [if_pos hj] at e
    cases e
    refine ⟨hsb, ?_⟩
    simp only [if_pos hj]
    exact hS.kept (hK.block _ hsl hsb)
  · rw [if_neg hj] at e
    have hk := HM.out.shapes j k e
    refine ⟨hk.1, ?_⟩
    simp only [if_neg hj]
    have h1 : ShapeAt w1 k (V j) := hk.2.kept (hBw.block _ hk.2.lt)
    exact h1.kept (hK.block _ h1.lt hk.1)

/-- A map without shapes, made in w, with one version. -/
def NewMap (w w' : World) : Prop := MapHas w' (w.heap.size + 2) w.heap.size none (fun _ => none) (fun _ => (q0, q0)) ∧
  w'.heap[w.heap.size + 1]? = some (.cells #[.pointer none] 96) ∧ w'.heap[w.heap.size + 2]? = some (.cells #[.pointer (some ⟨w.heap.size, 0, none⟩), .slice (some ⟨w.heap.size + 1, 0, none⟩) 1 1] 67) ∧ w'.heap.size = w.heap.size + 3

set_option maxRecDepth 100000 in
set_option maxHeartbeats 800000 in
theorem new_any (w : World) : Calls Try.prog 21 #[] w fun e w' => e = .returned (.pointer (some ⟨w.heap.size + 2, 0, none⟩)) ∧ NewMap w w' ∧ Below w.heap.size w w' := by
  go_enter Try.func21, Try.ntmps21
  go_wp2
  go_ret
  refine ⟨rfl, ⟨⟨⟨⟨_, heap_last _ _ _ (by simp), rfl⟩, ⟨none, heap_old _ _ (by simp; omega) (heap_old _ _ (by simp) (heap_last _ _ _ rfl)), (fun k e => nomatch e), (fun k e => nomatch e), fun _ => rfl, fun _ _ => rfl, fun _ _ => rfl⟩, by simp⟩, (fun i k e => nomatch e)⟩, heap_old _ _ (by simp) (heap_last _ _ _ (by simp)), heap_last _ _ _ (by simp), by simp⟩, (((Below.refl _ _).alloc (Nat.le_refl _) _).alloc (by simp) _).alloc (by simp; omega) _⟩
end Go.Proofs.Ytnlkalbkjocoaaa
