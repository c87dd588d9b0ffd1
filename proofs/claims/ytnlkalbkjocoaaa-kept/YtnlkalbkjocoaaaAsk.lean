/-
  What a kept shape answers: is it hit, does a window meet it.
-/
import Derived.Test.YtnlkalbkjocoaaaOrder
import Derived.Test.YtnlkalbkjocoaaaShp
namespace Go.Proofs.Ytnlkalbkjocoaaa
open Go.Shelf Go.RowKit

set_option maxRecDepth 100000 in
set_option maxHeartbeats 800000 in
theorem isHit_core (s gc cap n p1 p2 a1 a2 b1 b2 : Nat) (has on : Bool) (t : Int) (w : World)
    (k0 : w.cell? ⟨s, 0, none⟩ = some (.slice (some ⟨gc, 0, none⟩) n cap)) (k1 : w.cell? ⟨s, 1, none⟩ = some (.complex .f64 a1 a2)) (k2 : w.cell? ⟨s, 2, none⟩ = some (.complex .f64 b1 b2))
    (c1 : Calls Try.prog 94 #[.agg #[.complex .f64 a1 a2, .complex .f64 b1 b2], .complex .f64 p1 p2] w fun e w' => e = .returned (.bool has) ∧ Below w.heap.size w w')
    (c2 : ∀ w1, Below w.heap.size w w1 → Calls Try.prog 35 #[.slice (some ⟨gc, 0, none⟩) n cap, .complex .f64 p1 p2] w1 fun e w' => e = .returned (.tuple #[.int .i64 t, .bool on]) ∧ w' = w1) :
    Calls Try.prog 82 #[.pointer (some ⟨s, 0, none⟩), .complex .f64 p1 p2] w fun e w' => e = .returned (.bool (has && (on || decide (t ≠ 0)))) ∧ Below w.heap.size w w' := by
  have hs : s < w.heap.size := World.block_lt_of_cell? _ _ k0
  go_enter Try.func82, Try.ntmps82
  go_wp2_with fail
  refine c1.mono ?_
  rintro e w1 ⟨rfl, hB⟩
  cases has with
  | false =>
    go_wp2
    go_ret
    exact ⟨rfl, hB⟩
  | true =>
    have k0' : w1.cell? ⟨s, 0, none⟩ = some (.slice (some ⟨gc, 0, none⟩) n cap) := (hB.cell (p := ⟨s, 0, none⟩) hs).trans k0
    have c2' := c2 _ hB
    clear c2 c1
    have HB : Hid (Below w.heap.size w w1) := hB
    clear hB
    go_wp2_with fail
    refine c2'.mono ?_
    rintro e w2 ⟨rfl, rfl⟩
    cases on with
    | true =>
      go_wp2
      go_ret
      exact ⟨rfl, HB.out⟩
    | false =>
      by_cases ht : t = 0
      · subst ht
        go_wp2
        go_ret
        exact ⟨rfl, HB.out⟩
      · have H1 : Hid ((true && (false || decide (t ≠ 0))) = true) := by show _ = _; simp [ht]
        go_wp2
        go_ret
        exact ⟨by rw [H1.out]; show Ending.returned (Value.bool (t != 0)) = _; simp [ht], HB.out⟩

/-- Does a shape with these corners and this box have p? -/
def hitB (p : Q) (l : List Q) (V : Q × Q) : Bool := hasB V.1 V.2 p && (if h : 0 < (l.map qc).length then (windsL (qc p) (l.map qc) h).2 || decide ((windsL (qc p) (l.map qc) h).1 ≠ 0) else false)

theorem isHit_any (w : World) (s : Nat) (l : List Q) (V : Q × Q) (p : Q) (h : ShapeHas w s l V) (h3 : 3 ≤ l.length) (hn : l.length ≤ 32) :
    Calls Try.prog 82 #[.pointer (some ⟨s, 0, none⟩), qe p] w fun e w' => e = .returned (.bool (hitB p l V)) ∧ Below w.heap.size w w' := by
  obtain ⟨gc, cap, cur, h1, h2, h4, h5⟩ := h
  have h0 : 0 < (l.map qc).length := by simp; omega
  have e : hitB p l V = (hasB V.1 V.2 p && ((windsL (qc p) (l.map qc) h0).2 || decide ((windsL (qc p) (l.map qc) h0).1 ≠ 0))) := by unfold hitB; rw [dif_pos h0]
  rw [e]
  have hgl : gc < w.heap.size := (Array.getElem?_eq_some_iff.1 h2).1
  have hA : At w gc 0 l := fun k hk => by
    rw [Nat.zero_add, cell_of_row w gc k _ _ _ h2]; exact h5 k hk
  refine isHit_core s gc cap l.length _ _ _ _ _ _ _ _ _ w (by rw [cell_of_row w s 0 _ _ _ h1]; rfl) (by rw [cell_of_row w s 1 _ _ _ h1]; rfl) (by rw [cell_of_row w s 2 _ _ _ h1]; rfl) (has_any V.1 V.2 p w) (fun w1 hb => ?_)
  have := planeWinds_any (l.map qc) (qc p) gc 0 cap w1 (at_lies (hA.below hb hgl)) (qs_lim l) (qc_lim p) (by simpa using hn) h0
  change Calls Try.prog 35 #[.slice (some ⟨gc, 0, none⟩) (l.map qc).length cap, qe p] w1 fun e w' => e = .returned (.tuple #[.int .i64 (windsL (qc p) (l.map qc) h0).1, .bool (windsL (qc p) (l.map qc) h0).2]) ∧ w' = w1 at this
  generalize windsL (qc p) (l.map qc) h0 = R at this ⊢
  rw [List.length_map] at this
  exact this

set_option maxRecDepth 100000 in
set_option maxHeartbeats 800000 in
theorem windowAsk_core (s bb a1 a2 b1 b2 c1 c2 d1 d2 : Nat) (res : Bool) (w : World) (k0 : w.cell? ⟨bb, 0, none⟩ = some (.complex .f64 c1 c2)) (k1 : w.cell? ⟨bb, 1, none⟩ = some (.complex .f64 d1 d2))
    (q1 : ∀ w1, Below w.heap.size w w1 → Calls Try.prog 69 #[.pointer (some ⟨s, 0, none⟩)] w1 fun e w' => e = .returned (.agg #[.complex .f64 a1 a2, .complex .f64 b1 b2]) ∧ Below w1.heap.size w1 w')
    (q2 : ∀ w, Calls Try.prog 80 #[.agg #[.complex .f64 a1 a2, .complex .f64 b1 b2], .agg #[.complex .f64 c1 c2, .complex .f64 d1 d2]] w fun e w' => e = .returned (.bool res) ∧ Below w.heap.size w w') :
    Calls Try.prog 79 #[.pointer (some ⟨s, 0, none⟩), .pointer (some ⟨bb, 0, none⟩)] w fun e w' => e = .returned (.bool res) ∧ Below w.heap.size w w' := by
  have hbb : bb < w.heap.size := World.block_lt_of_cell? _ _ k0
  have q1' := q1 w.drew (Below.refl _ _).drew
  have HB : Hid (Below w.heap.size w w.drew) := (Below.refl _ _).drew
  have k0' : w.drew.cell? ⟨bb, 0, none⟩ = some (.complex .f64 c1 c2) := k0
  have k1' : w.drew.cell? ⟨bb, 1, none⟩ = some (.complex .f64 d1 d2) := k1
  clear q1
  go_enter Try.func79, Try.ntmps79
  go_wp2_with fail
  go_region_held3 (fun w' => w'.cell? ⟨bb, 0, none⟩ = some (.complex .f64 c1 c2) ∧ w'.cell? ⟨bb, 1, none⟩ = some (.complex .f64 d1 d2)) (go_keep) (first | (go_at_call 69; refine q1'.mono ?_; rintro e w5 ⟨rfl, hb5⟩; have hk0 := hb5.cell (p := ⟨bb, 0, none⟩) hbb; have hk1 := hb5.cell (p := ⟨bb, 1, none⟩) hbb) | (go_at_call 80; refine (q2 _).mono ?_; rintro e w6 ⟨rfl, hb6⟩; have hk2 := hb6.cell (p := ⟨bb, 0, none⟩) (Nat.lt_of_lt_of_le hbb hb5.size); have hk3 := hb6.cell (p := ⟨bb, 1, none⟩) (Nat.lt_of_lt_of_le hbb hb5.size)))
  have HB6 : Hid (Below w.heap.size w w6) := (HB.out.trans (hb5.mono (Nat.le_refl _))).trans (hb6.mono hb5.size)
  clear hb5 hb6 hk0 hk1 hk2 hk3 HB
  go_wp2
  go_ret
  exact ⟨rfl, HB6.out⟩

theorem windowAsk_any (w : World) (s bb : Nat) (V : Q × Q) (c d : Q) (h : ShapeAt w s V) (k0 : w.cell? ⟨bb, 0, none⟩ = some (qe c)) (k1 : w.cell? ⟨bb, 1, none⟩ = some (qe d)) :
    Calls Try.prog 79 #[.pointer (some ⟨s, 0, none⟩), .pointer (some ⟨bb, 0, none⟩)] w fun e w' => e = .returned (.bool (meetB V.1 V.2 c d)) ∧ Below w.heap.size w w' :=
  windowAsk_core s bb _ _ _ _ _ _ _ _ _ w k0 k1 (fun w1 hb => box_any w1 s V (h.kept (hb.block _ h.lt))) (fun w => meet_any V.1 V.2 c d w)

set_option maxRecDepth 100000 in
set_option maxHeartbeats 800000 in
theorem hitsAsk_core (s bb p1 p2 : Nat) (res : Bool) (w : World) (k0 : w.cell? ⟨bb, 0, none⟩ = some (.complex .f64 p1 p2))
    (q1 : Calls Try.prog 82 #[.pointer (some ⟨s, 0, none⟩), .complex .f64 p1 p2] w fun e w' => e = .returned (.bool res) ∧ Below w.heap.size w w') :
    Calls Try.prog 81 #[.pointer (some ⟨s, 0, none⟩), .pointer (some ⟨bb, 0, none⟩)] w fun e w' => e = .returned (.bool res) ∧ Below w.heap.size w w' := by
  go_enter Try.func81, Try.ntmps81
  go_wp2_with fail
  refine q1.mono ?_
  rintro e w1 ⟨rfl, hB⟩
  go_wp2
  go_ret
  exact ⟨rfl, hB⟩
theorem hitsAsk_any (w : World) (s bb : Nat) (l : List Q) (V : Q × Q) (p : Q) (h : ShapeHas w s l V) (h3 : 3 ≤ l.length) (hn : l.length ≤ 32) (k0 : w.cell? ⟨bb, 0, none⟩ = some (qe p)) :
    Calls Try.prog 81 #[.pointer (some ⟨s, 0, none⟩), .pointer (some ⟨bb, 0, none⟩)] w fun e w' => e = .returned (.bool (hitB p l V)) ∧ Below w.heap.size w w' :=
  hitsAsk_core s bb _ _ _ w k0 (isHit_any w s l V p h h3 hn)
end Go.Proofs.Ytnlkalbkjocoaaa
