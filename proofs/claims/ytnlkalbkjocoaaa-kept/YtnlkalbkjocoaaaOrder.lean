/-
  Boxes compared whole; what is in order, what meets, what a box has, what is a box.
-/
import Derived.Test.YtnlkalbkjocoaaaBox
import Derived.ChangeKeysEq
import Derived.Laws.StructEq
namespace Go.Proofs.Ytnlkalbkjocoaaa
open Go.Shelf Go.RowKit

theorem infoC : ∃ i, Try.prog.info? 26 = some i := info_of_underlying Try.underlying26
theorem cellsC : Try.prog.cellsOf 26 = 1 := by kernel_rfl

theorem eqIn_q (x y : Q) (d : Nat) (w : World) : (Op.equalIn (d + 1) 26 (qe x) (qe y)).run Try.prog w = .ok (decide (x = y)) w := by
  rw [← eq_q x y]
  simp [Op.equalIn, qe, go_sem, Op.floatEq]

theorem part_q (a b : Q) (w : World) : (part 26 #[qe a, qe b] 0).run Try.prog w = .ok (qe a) w ∧ (part 26 #[qe a, qe b] 1).run Try.prog w = .ok (qe b) w := by
  obtain ⟨i, hi⟩ := infoC
  constructor <;> simp [part, go_sem]

theorem eq_box (a b c d : Q) (w : World) : (binOp .eql 45 (.agg #[qe a, qe b]) (.agg #[qe c, qe d])).run Try.prog w = .ok (.bool (decide (a = c ∧ b = d))) w := by
  obtain ⟨i, hi⟩ := infoC
  rw [run_eql_struct, run_equalIn_array w 9999 _ _ Try.underlying45 hi, cellsC]
  have e1 := fun w => (part_q a b w).1
  have e2 := fun w => (part_q a b w).2
  have e3 := fun w => (part_q c d w).1
  have e4 := fun w => (part_q c d w).2
  have q1 : ∀ w, (Op.equalIn 9999 26 (qe a) (qe c)).run Try.prog w = .ok (decide (a = c)) w := fun w => eqIn_q a c 9998 w
  have q2 : ∀ w, (Op.equalIn 9999 26 (qe b) (qe d)).run Try.prog w = .ok (decide (b = d)) w := fun w => eqIn_q b d 9998 w
  show ((Op.eqItems 9999 26 1 #[qe a, qe b] #[qe c, qe d] [0, 1]).run Try.prog w).andThen _ = _
  simp only [Op.eqItems, Sem.run_bind, Nat.zero_mul, e1, e3, q1, Result.andThen_ok]
  by_cases h1 : a = c
  · rw [decide_eq_true h1]
    simp only [Bool.not_true, Bool.false_eq_true, if_false, Sem.run_bind, Nat.one_mul, e2, e4, q2, Result.andThen_ok]
    by_cases h2 : b = d
    · simp [h1, h2]
    · simp [h2]
  · simp [h1]

/-- Is no part of b less than a's? -/
def ord (a b : Q) : Bool := decide (qx a ≤ qx b ∧ qy a ≤ qy b)

theorem box_two {a b lo hi : Q} (h : BoxOf [a, b] lo hi) : lo = qmin a b ∧ hi = qmax a b := by
  have h1 := h.has a (by simp)
  have h2 := h.has b (by simp)
  obtain ⟨t1, m1, k1⟩ := h.left
  obtain ⟨t2, m2, k2⟩ := h.right
  obtain ⟨t3, m3, k3⟩ := h.low
  obtain ⟨t4, m4, k4⟩ := h.high
  simp only [List.mem_cons, List.not_mem_nil, or_false] at m1 m2 m3 m4
  refine ⟨q_ext ?_ ?_, q_ext ?_ ?_⟩
  · rw [qx_min]; rcases m1 with rfl | rfl <;> omega
  · rw [qy_min]; rcases m3 with rfl | rfl <;> omega
  · rw [qx_max]; rcases m2 with rfl | rfl <;> omega
  · rw [qy_max]; rcases m4 with rfl | rfl <;> omega
theorem ord_box (a b : Q) : decide (a = qmin a b ∧ b = qmax a b) = ord a b := by
  unfold ord
  apply decide_eq_decide.2
  constructor
  · rintro ⟨h1, h2⟩
    have e1 := congrArg qx h1
    have e2 := congrArg qy h1
    rw [qx_min] at e1
    rw [qy_min] at e2
    omega
  · rintro ⟨h1, h2⟩
    exact ⟨q_ext (by rw [qx_min]; omega) (by rw [qy_min]; omega), q_ext (by rw [qx_max]; omega) (by rw [qy_max]; omega)⟩

theorem bounds_two (a b : Q) (g : Nat) (w : World) (h0 : w.cell? ⟨g, 0, none⟩ = some (qe a)) (h1 : w.cell? ⟨g, 1, none⟩ = some (qe b)) :
    Calls Try.prog 42 #[.slice (some ⟨g, 0, none⟩) 2 2] w fun e w' => e = .returned (.agg #[qe (qmin a b), qe (qmax a b)]) ∧ Below w.heap.size w w' := by
  have hl : At w g 0 [a, b] := fun k hk => by
    have : k = 0 ∨ k = 1 := by simp at hk; omega
    rcases this with rfl | rfl
    · exact h0
    · exact h1
  refine (planeBounds_any [a, b] g 0 2 w hl (World.block_lt_of_cell? _ _ h0) (by simp) (by simp) (by simp)).mono ?_
  rintro e w' ⟨⟨lo, hi, rfl, hX⟩, hb⟩
  obtain ⟨rfl, rfl⟩ := box_two hX
  exact ⟨rfl, hb⟩

set_option maxRecDepth 100000 in
set_option maxHeartbeats 800000 in
theorem inOrder_core (a1 a2 b1 b2 r1 r2 s1 s2 : Nat) (res : Bool) (w : World)
    (c1 : ∀ w1, w1.cell? ⟨w.heap.size, 0, none⟩ = some (.complex .f64 a1 a2) → w1.cell? ⟨w.heap.size, 1, none⟩ = some (.complex .f64 b1 b2) → Calls Try.prog 42 #[.slice (some ⟨w.heap.size, 0, none⟩) 2 2] w1 fun e w' => e = .returned (.agg #[.complex .f64 r1 r2, .complex .f64 s1 s2]) ∧ Below w1.heap.size w1 w')
    (heq : ∀ w, (binOp .eql 45 (.agg #[.complex .f64 a1 a2, .complex .f64 b1 b2]) (.agg #[.complex .f64 r1 r2, .complex .f64 s1 s2])).run Try.prog w = .ok (.bool res) w) :
    Calls Try.prog 93 #[.agg #[.complex .f64 a1 a2, .complex .f64 b1 b2]] w fun e w' => e = .returned (.bool res) ∧ Below w.heap.size w w' := by
  have hst := store_complex
  go_enter Try.func93, Try.ntmps93
  go_wp2_with fail
  have HB : Hid (Below w.heap.size w (w.alloc (.cells #[.complex .f64 a1 a2, .complex .f64 b1 b2] 45)).drew) := ((Below.refl _ _).alloc (Nat.le_refl _) _).drew
  have hsz : w.heap.size < (w.alloc (.cells #[.complex .f64 a1 a2, .complex .f64 b1 b2] 45)).drew.heap.size := by simp
  go_region_held3 (fun w' => w'.cell? ⟨w.heap.size, 0, none⟩ = some (.complex .f64 a1 a2) ∧ w'.cell? ⟨w.heap.size, 1, none⟩ = some (.complex .f64 b1 b2)) (go_keep) (first | (go_at_call 42; refine (c1 _ (by simp [go_sem]) (by simp [go_sem])).mono ?_; rintro e w6 ⟨rfl, hb6⟩; have hk0 := hb6.cell (p := ⟨w.heap.size, 0, none⟩) hsz; have hk1 := hb6.cell (p := ⟨w.heap.size, 1, none⟩) hsz))
  have HB6 : Hid (Below w.heap.size w w6) := HB.out.trans (hb6.mono (by simp))
  clear hb6 hk0 hk1 HB
  go_wp2
  go_ret
  exact ⟨rfl, HB6.out⟩

theorem inOrder_any (a b : Q) (w : World) : Calls Try.prog 93 #[.agg #[qe a, qe b]] w fun e w' => e = .returned (.bool (ord a b)) ∧ Below w.heap.size w w' := by
  rw [← ord_box]
  exact inOrder_core _ _ _ _ _ _ _ _ _ w (fun w1 h0 h1 => bounds_two a b w.heap.size w1 h0 h1) (fun w => eq_box a b (qmin a b) (qmax a b) w)

set_option maxRecDepth 100000 in
set_option maxHeartbeats 800000 in
theorem meet_core (a1 a2 b1 b2 c1 c2 d1 d2 r1 r2 s1 s2 : Nat) (res : Bool) (w : World)
    (k1 : ∀ w, Calls Try.prog 73 #[.complex .f64 a1 a2, .complex .f64 c1 c2] w fun e w' => e = .returned (.complex .f64 r1 r2) ∧ w' = w)
    (k2 : ∀ w, Calls Try.prog 72 #[.complex .f64 b1 b2, .complex .f64 d1 d2] w fun e w' => e = .returned (.complex .f64 s1 s2) ∧ w' = w)
    (k3 : ∀ w, Calls Try.prog 93 #[.agg #[.complex .f64 r1 r2, .complex .f64 s1 s2]] w fun e w' => e = .returned (.bool res) ∧ Below w.heap.size w w') :
    Calls Try.prog 80 #[.agg #[.complex .f64 a1 a2, .complex .f64 b1 b2], .agg #[.complex .f64 c1 c2, .complex .f64 d1 d2]] w fun e w' => e = .returned (.bool res) ∧ Below w.heap.size w w' := by
  have hst := store_complex
  go_enter Try.func80, Try.ntmps80
  go_wp2_with fail
  have HB : Hid (Below w.heap.size w ((w.alloc (.cells #[.complex .f64 a1 a2, .complex .f64 b1 b2] 45)).alloc (.cells #[.complex .f64 c1 c2, .complex .f64 d1 d2] 45)).drew) := (((Below.refl _ _).alloc (Nat.le_refl _) _).alloc (by simp) _).drew
  go_region_held3 (fun w' => w'.cell? ⟨w.heap.size, 0, none⟩ = some (.complex .f64 a1 a2) ∧ w'.cell? ⟨w.heap.size, 1, none⟩ = some (.complex .f64 b1 b2) ∧ w'.cell? ⟨w.heap.size + 1, 0, none⟩ = some (.complex .f64 c1 c2) ∧ w'.cell? ⟨w.heap.size + 1, 1, none⟩ = some (.complex .f64 d1 d2)) (go_keep) (first | (go_at_call 73; refine (k1 _).mono ?_; rintro e w' ⟨rfl, rfl⟩) | (go_at_call 72; refine (k2 _).mono ?_; rintro e w' ⟨rfl, rfl⟩) | (go_at_call 93; refine (k3 _).mono ?_; rintro e w6 ⟨rfl, hb6⟩; have hk0 := hb6.cell (p := ⟨w.heap.size, 0, none⟩) (by simp; omega); have hk1 := hb6.cell (p := ⟨w.heap.size, 1, none⟩) (by simp; omega); have hk2 := hb6.cell (p := ⟨w.heap.size + 1, 0, none⟩) (by simp); have hk3 := hb6.cell (p := ⟨w.heap.size + 1, 1, none⟩) (by simp)))
  have HB6 : Hid (Below w.heap.size w w6) := HB.out.trans (hb6.mono (by simp; omega))
  clear hb6 hk0 hk1 hk2 hk3 HB
  go_wp2
  go_ret
  exact ⟨rfl, HB6.out⟩

/-- Do two boxes meet? -/
def meetB (a b c d : Q) : Bool := ord (qmax a c) (qmin b d)
theorem meet_any (a b c d : Q) (w : World) : Calls Try.prog 80 #[.agg #[qe a, qe b], .agg #[qe c, qe d]] w fun e w' => e = .returned (.bool (meetB a b c d)) ∧ Below w.heap.size w w' :=
  meet_core _ _ _ _ _ _ _ _ _ _ _ _ _ w (fun w => greater_any a c w) (fun w => lesser_any b d w) (fun w => inOrder_any (qmax a c) (qmin b d) w)

set_option maxRecDepth 100000 in
set_option maxHeartbeats 800000 in
theorem has_core (a1 a2 b1 b2 p1 p2 r1 r2 s1 s2 : Nat) (res : Bool) (w : World)
    (k1 : ∀ w, Calls Try.prog 66 #[.agg #[.complex .f64 a1 a2, .complex .f64 b1 b2], .complex .f64 p1 p2] w fun e w' => e = .returned (.agg #[.complex .f64 r1 r2, .complex .f64 s1 s2]) ∧ Below w.heap.size w w')
    (heq : ∀ w, (binOp .eql 45 (.agg #[.complex .f64 r1 r2, .complex .f64 s1 s2]) (.agg #[.complex .f64 a1 a2, .complex .f64 b1 b2])).run Try.prog w = .ok (.bool res) w) :
    Calls Try.prog 94 #[.agg #[.complex .f64 a1 a2, .complex .f64 b1 b2], .complex .f64 p1 p2] w fun e w' => e = .returned (.bool res) ∧ Below w.heap.size w w' := by
  have hst := store_complex
  go_enter Try.func94, Try.ntmps94
  go_wp2_with fail
  have HB : Hid (Below w.heap.size w (w.alloc (.cells #[.complex .f64 a1 a2, .complex .f64 b1 b2] 45)).drew) := ((Below.refl _ _).alloc (Nat.le_refl _) _).drew
  go_region_held3 (fun w' => w'.cell? ⟨w.heap.size, 0, none⟩ = some (.complex .f64 a1 a2) ∧ w'.cell? ⟨w.heap.size, 1, none⟩ = some (.complex .f64 b1 b2)) (go_keep) (first | (go_at_call 66; refine (k1 _).mono ?_; rintro e w6 ⟨rfl, hb6⟩; have hk0 := hb6.cell (p := ⟨w.heap.size, 0, none⟩) (by simp); have hk1 := hb6.cell (p := ⟨w.heap.size, 1, none⟩) (by simp)))
  have HB6 : Hid (Below w.heap.size w w6) := HB.out.trans (hb6.mono (by simp))
  clear hb6 hk0 hk1 HB
  go_wp2
  go_ret
  exact ⟨rfl, HB6.out⟩

/-- Is z in the box? -/
def hasB (lo hi z : Q) : Bool := decide (qx lo ≤ qx z ∧ qx z ≤ qx hi ∧ qy lo ≤ qy z ∧ qy z ≤ qy hi)
theorem has_eq (lo hi z : Q) : decide (qmin lo z = lo ∧ qmax hi z = hi) = hasB lo hi z := by
  unfold hasB
  apply decide_eq_decide.2
  constructor
  · rintro ⟨h1, h2⟩
    have e1 := congrArg qx h1
    have e2 := congrArg qy h1
    have e3 := congrArg qx h2
    have e4 := congrArg qy h2
    rw [qx_min] at e1
    rw [qy_min] at e2
    rw [qx_max] at e3
    rw [qy_max] at e4
    omega
  · rintro ⟨h1, h2, h3, h4⟩
    exact ⟨q_ext (by rw [qx_min]; omega) (by rw [qy_min]; omega), q_ext (by rw [qx_max]; omega) (by rw [qy_max]; omega)⟩
theorem has_any (lo hi z : Q) (w : World) : Calls Try.prog 94 #[.agg #[qe lo, qe hi], qe z] w fun e w' => e = .returned (.bool (hasB lo hi z)) ∧ Below w.heap.size w w' := by
  rw [← has_eq]
  exact has_core _ _ _ _ _ _ _ _ _ _ _ w (fun w => widen_any lo hi z w) (fun w => eq_box _ _ _ _ w)

set_option maxRecDepth 100000 in
set_option maxHeartbeats 800000 in
theorem isBox_core (a1 a2 b1 b2 : Nat) (w : World)
    (k1 : ∀ w1, w1.cell? ⟨w.heap.size, 0, none⟩ = some (.complex .f64 a1 a2) → w1.cell? ⟨w.heap.size, 1, none⟩ = some (.complex .f64 b1 b2) → Calls Try.prog 38 #[.slice (some ⟨w.heap.size, 0, none⟩) 2 2] w1 fun e w' => e = .returned (.bool true) ∧ w' = w1)
    (k2 : ∀ w, Calls Try.prog 93 #[.agg #[.complex .f64 a1 a2, .complex .f64 b1 b2]] w fun e w' => e = .returned (.bool true) ∧ Below w.heap.size w w') :
    Calls Try.prog 77 #[.agg #[.complex .f64 a1 a2, .complex .f64 b1 b2]] w fun e w' => e = .returned (.bool true) ∧ Below w.heap.size w w' := by
  have hst := store_complex
  go_enter Try.func77, Try.ntmps77
  have HB : Hid (Below w.heap.size w (w.alloc (.cells #[.complex .f64 a1 a2, .complex .f64 b1 b2] 45))) := (Below.refl _ _).alloc (Nat.le_refl _) _
  go_wp2_with fail
  refine (k1 _ (by simp [go_sem]) (by simp [go_sem])).mono ?_
  rintro e w' ⟨rfl, rfl⟩
  go_wp2_with fail
  refine (k2 _).mono ?_
  rintro e w6 ⟨rfl, hb6⟩
  have HB6 : Hid (Below w.heap.size w w6) := HB.out.trans (hb6.mono (by simp))
  clear hb6 HB
  go_wp2
  go_ret
  exact ⟨rfl, HB6.out⟩
theorem isBox_any (a b : Q) (h : qx a ≤ qx b ∧ qy a ≤ qy b) (w : World) : Calls Try.prog 77 #[.agg #[qe a, qe b]] w fun e w' => e = .returned (.bool true) ∧ Below w.heap.size w w' := by
  have ho : ord a b = true := decide_eq_true h
  refine isBox_core _ _ _ _ w (fun w1 h0 h1 => ?_) (fun w => ho ▸ inOrder_any a b w)
  have hl : Lies w1 w.heap.size 0 [qc a, qc b] := fun k hk => by
    have : k = 0 ∨ k = 1 := by simp at hk; omega
    rcases this with rfl | rfl
    · exact h0
    · exact h1
  have ht : areB [qc a, qc b] = true := areB_true (qs_lim [a, b])
  have := arePoints_any [qc a, qc b] w.heap.size 0 2 w1 hl (fun c hc => by
    simp only [List.mem_cons, List.not_mem_nil, or_false] at hc
    rcases hc with rfl | rfl
    · exact ⟨qre_small a, qim_small a⟩
    · exact ⟨qre_small b, qim_small b⟩) (by simp)
  rw [ht] at this
  exact this
end Go.Proofs.Ytnlkalbkjocoaaa
