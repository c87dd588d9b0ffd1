/-
  The law's own word of a triangle: does its box meet a box (in).
-/
import Derived.Test.YtnlkalbkjocoaaaTV2
namespace Go.Proofs.Ytnlkalbkjocoaaa
open Go.Shelf Go.RowKit

set_option maxRecDepth 100000 in
set_option maxHeartbeats 4000000 in
theorem in_core (b a1 a2 b1 b2 c1 c2 d1 d2 e1 e2 : Nat) (x0 x1 y0 y2 bx0 by0 bx1 by1 : Int) (res : Bool) (w : World)
    (k0 : w.cell? ⟨b, 0, none⟩ = some (.complex .f64 a1 a2)) (k1 : w.cell? ⟨b, 1, none⟩ = some (.complex .f64 b1 b2)) (k2 : w.cell? ⟨b, 2, none⟩ = some (.complex .f64 c1 c2))
    (xa : ∀ w, Calls Try.prog 15 #[.complex .f64 a1 a2] w fun e w' => e = .returned (.int .i64 x0) ∧ w' = w)
    (xb : ∀ w, Calls Try.prog 15 #[.complex .f64 b1 b2] w fun e w' => e = .returned (.int .i64 x1) ∧ w' = w)
    (xd : ∀ w, Calls Try.prog 15 #[.complex .f64 d1 d2] w fun e w' => e = .returned (.int .i64 bx0) ∧ w' = w)
    (xe : ∀ w, Calls Try.prog 15 #[.complex .f64 e1 e2] w fun e w' => e = .returned (.int .i64 bx1) ∧ w' = w)
    (ya : ∀ w, Calls Try.prog 16 #[.complex .f64 a1 a2] w fun e w' => e = .returned (.int .i64 y0) ∧ w' = w)
    (yc : ∀ w, Calls Try.prog 16 #[.complex .f64 c1 c2] w fun e w' => e = .returned (.int .i64 y2) ∧ w' = w)
    (yd : ∀ w, Calls Try.prog 16 #[.complex .f64 d1 d2] w fun e w' => e = .returned (.int .i64 by0) ∧ w' = w)
    (ye : ∀ w, Calls Try.prog 16 #[.complex .f64 e1 e2] w fun e w' => e = .returned (.int .i64 by1) ∧ w' = w)
    (HR : Hid (res = decide (x0 ≤ bx1 ∧ bx0 ≤ x1 ∧ y0 ≤ by1 ∧ by0 ≤ y2))) :
    Calls Try.prog 53 #[.slice (some ⟨b, 0, none⟩) 3 3, .agg #[.complex .f64 d1 d2, .complex .f64 e1 e2]] w fun e w' => e = .returned (.bool res) ∧ Below w.heap.size w w' := by
  have hbl : b < w.heap.size := World.block_lt_of_cell? _ _ k0
  have hbel : ∀ o n, Below w.heap.size w ((w.alloc o).drewN n) := fun o n => below_drewN ((Below.refl _ _).alloc (Nat.le_refl _) _) n
  have q0 : ∀ o, (w.alloc o).cell? ⟨b, 0, none⟩ = some (.complex .f64 a1 a2) := fun o => by rw [World.cell?_alloc_lt _ _ _ hbl]; exact k0
  have q1 : ∀ o, (w.alloc o).cell? ⟨b, 1, none⟩ = some (.complex .f64 b1 b2) := fun o => by rw [World.cell?_alloc_lt _ _ _ hbl]; exact k1
  have q2 : ∀ o, (w.alloc o).cell? ⟨b, 2, none⟩ = some (.complex .f64 c1 c2) := fun o => by rw [World.cell?_alloc_lt _ _ _ hbl]; exact k2
  have hst := store_complex
  by_cases g1 : x0 ≤ bx1
  · by_cases g2 : bx0 ≤ x1
    · by_cases g3 : y0 ≤ by1
      · by_cases g4 : by0 ≤ y2
        · as_aux_lemma =>
            have f1 : decide (x0 ≤ bx1) = true := by simp [*]
            have f2 : decide (bx0 ≤ x1) = true := by simp [*]
            have f3 : decide (y0 ≤ by1) = true := by simp [*]
            have f4 : decide (by0 ≤ y2) = true := by simp [*]
            have H : Hid (res = true) := by show _ = _; rw [HR.out]; simp [*]
            clear HR
            go_enter Try.func53, Try.ntmps53
            go_wp2_with fail
            go_big_quiet (first | (go_at_call_of 15 (Value.complex .f64 a1 a2); first | exact quiet_more (xa _) | exact Calls.quiet_of_same (xa _)) | (go_at_call_of 15 (Value.complex .f64 b1 b2); first | exact quiet_more (xb _) | exact Calls.quiet_of_same (xb _)) | (go_at_call_of 15 (Value.complex .f64 d1 d2); first | exact quiet_more (xd _) | exact Calls.quiet_of_same (xd _)) | (go_at_call_of 15 (Value.complex .f64 e1 e2); first | exact quiet_more (xe _) | exact Calls.quiet_of_same (xe _)) | (go_at_call_of 16 (Value.complex .f64 a1 a2); first | exact quiet_more (ya _) | exact Calls.quiet_of_same (ya _)) | (go_at_call_of 16 (Value.complex .f64 c1 c2); first | exact quiet_more (yc _) | exact Calls.quiet_of_same (yc _)) | (go_at_call_of 16 (Value.complex .f64 d1 d2); first | exact quiet_more (yd _) | exact Calls.quiet_of_same (yd _)) | (go_at_call_of 16 (Value.complex .f64 e1 e2); first | exact quiet_more (ye _) | exact Calls.quiet_of_same (ye _)))
            go_wp2
            go_ret
            exact ⟨by rw [H.out]; rfl, hbel _ _⟩
        · as_aux_lemma =>
            have f1 : decide (x0 ≤ bx1) = true := by simp [*]
            have f2 : decide (bx0 ≤ x1) = true := by simp [*]
            have f3 : decide (y0 ≤ by1) = true := by simp [*]
            have f4 : decide (by0 ≤ y2) = false := by simp [*]
            have H : Hid (res = false) := by show _ = _; rw [HR.out]; simp [*]
            clear HR
            go_enter Try.func53, Try.ntmps53
            go_wp2_with fail
            go_big_quiet (first | (go_at_call_of 15 (Value.complex .f64 a1 a2); first | exact quiet_more (xa _) | exact Calls.quiet_of_same (xa _)) | (go_at_call_of 15 (Value.complex .f64 b1 b2); first | exact quiet_more (xb _) | exact Calls.quiet_of_same (xb _)) | (go_at_call_of 15 (Value.complex .f64 d1 d2); first | exact quiet_more (xd _) | exact Calls.quiet_of_same (xd _)) | (go_at_call_of 15 (Value.complex .f64 e1 e2); first | exact quiet_more (xe _) | exact Calls.quiet_of_same (xe _)) | (go_at_call_of 16 (Value.complex .f64 a1 a2); first | exact quiet_more (ya _) | exact Calls.quiet_of_same (ya _)) | (go_at_call_of 16 (Value.complex .f64 c1 c2); first | exact quiet_more (yc _) | exact Calls.quiet_of_same (yc _)) | (go_at_call_of 16 (Value.complex .f64 d1 d2); first | exact quiet_more (yd _) | exact Calls.quiet_of_same (yd _)) | (go_at_call_of 16 (Value.complex .f64 e1 e2); first | exact quiet_more (ye _) | exact Calls.quiet_of_same (ye _)))
            go_wp2
            go_ret
            exact ⟨by rw [H.out]; rfl, hbel _ _⟩
      · as_aux_lemma =>
          have f1 : decide (x0 ≤ bx1) = true := by simp [*]
          have f2 : decide (bx0 ≤ x1) = true := by simp [*]
          have f3 : decide (y0 ≤ by1) = false := by simp [*]
          have H : Hid (res = false) := by show _ = _; rw [HR.out]; simp [*]
          clear HR
          go_enter Try.func53, Try.ntmps53
          go_wp2_with fail
          go_big_quiet (first | (go_at_call_of 15 (Value.complex .f64 a1 a2); first | exact quiet_more (xa _) | exact Calls.quiet_of_same (xa _)) | (go_at_call_of 15 (Value.complex .f64 b1 b2); first | exact quiet_more (xb _) | exact Calls.quiet_of_same (xb _)) | (go_at_call_of 15 (Value.complex .f64 d1 d2); first | exact quiet_more (xd _) | exact Calls.quiet_of_same (xd _)) | (go_at_call_of 15 (Value.complex .f64 e1 e2); first | exact quiet_more (xe _) | exact Calls.quiet_of_same (xe _)) | (go_at_call_of 16 (Value.complex .f64 a1 a2); first | exact quiet_more (ya _) | exact Calls.quiet_of_same (ya _)) | (go_at_call_of 16 (Value.complex .f64 c1 c2); first | exact quiet_more (yc _) | exact Calls.quiet_of_same (yc _)) | (go_at_call_of 16 (Value.complex .f64 d1 d2); first | exact quiet_more (yd _) | exact Calls.quiet_of_same (yd _)) | (go_at_call_of 16 (Value.complex .f64 e1 e2); first | exact quiet_more (ye _) | exact Calls.quiet_of_same (ye _)))
          go_wp2
          go_ret
          exact ⟨by rw [H.out]; rfl, hbel _ _⟩
    · as_aux_lemma =>
        have f1 : decide (x0 ≤ bx1) = true := by simp [*]
        have f2 : decide (bx0 ≤ x1) = false := by simp [*]
        have H : Hid (res = false) := by show _ = _; rw [HR.out]; simp [*]
        clear HR
        go_enter Try.func53, Try.ntmps53
        go_wp2_with fail
        go_big_quiet (first | (go_at_call_of 15 (Value.complex .f64 a1 a2); first | exact quiet_more (xa _) | exact Calls.quiet_of_same (xa _)) | (go_at_call_of 15 (Value.complex .f64 b1 b2); first | exact quiet_more (xb _) | exact Calls.quiet_of_same (xb _)) | (go_at_call_of 15 (Value.complex .f64 d1 d2); first | exact quiet_more (xd _) | exact Calls.quiet_of_same (xd _)) | (go_at_call_of 15 (Value.complex .f64 e1 e2); first | exact quiet_more (xe _) | exact Calls.quiet_of_same (xe _)) | (go_at_call_of 16 (Value.complex .f64 a1 a2); first | exact quiet_more (ya _) | exact Calls.quiet_of_same (ya _)) | (go_at_call_of 16 (Value.complex .f64 c1 c2); first | exact quiet_more (yc _) | exact Calls.quiet_of_same (yc _)) | (go_at_call_of 16 (Value.complex .f64 d1 d2); first | exact quiet_more (yd _) | exact Calls.quiet_of_same (yd _)) | (go_at_call_of 16 (Value.complex .f64 e1 e2); first | exact quiet_more (ye _) | exact Calls.quiet_of_same (ye _)))
        go_wp2
        go_ret
        exact ⟨by rw [H.out]; rfl, hbel _ _⟩
  · as_aux_lemma =>
      have f1 : decide (x0 ≤ bx1) = false := by simp [*]
      have H : Hid (res = false) := by show _ = _; rw [HR.out]; simp [*]
      clear HR
      go_enter Try.func53, Try.ntmps53
      go_wp2_with fail
      go_big_quiet (first | (go_at_call_of 15 (Value.complex .f64 a1 a2); first | exact quiet_more (xa _) | exact Calls.quiet_of_same (xa _)) | (go_at_call_of 15 (Value.complex .f64 b1 b2); first | exact quiet_more (xb _) | exact Calls.quiet_of_same (xb _)) | (go_at_call_of 15 (Value.complex .f64 d1 d2); first | exact quiet_more (xd _) | exact Calls.quiet_of_same (xd _)) | (go_at_call_of 15 (Value.complex .f64 e1 e2); first | exact quiet_more (xe _) | exact Calls.quiet_of_same (xe _)) | (go_at_call_of 16 (Value.complex .f64 a1 a2); first | exact quiet_more (ya _) | exact Calls.quiet_of_same (ya _)) | (go_at_call_of 16 (Value.complex .f64 c1 c2); first | exact quiet_more (yc _) | exact Calls.quiet_of_same (yc _)) | (go_at_call_of 16 (Value.complex .f64 d1 d2); first | exact quiet_more (yd _) | exact Calls.quiet_of_same (yd _)) | (go_at_call_of 16 (Value.complex .f64 e1 e2); first | exact quiet_more (ye _) | exact Calls.quiet_of_same (ye _)))
      go_wp2
      go_ret
      exact ⟨by rw [H.out]; rfl, hbel _ _⟩

set_option maxRecDepth 100000 in
set_option maxHeartbeats 800000 in
theorem in_none (d1 d2 e1 e2 : Nat) (w : World) : Calls Try.prog 53 #[.slice none 0 0, .agg #[.complex .f64 d1 d2, .complex .f64 e1 e2]] w fun e w' => e = .returned (.bool false) ∧ Below w.heap.size w w' := by
  have hbel : ∀ o n, Below w.heap.size w ((w.alloc o).drewN n) := fun o n => below_drewN ((Below.refl _ _).alloc (Nat.le_refl _) _) n
  have hst := store_complex
  go_enter Try.func53, Try.ntmps53
  go_wp2_with fail
  go_big_quiet (fail)
  go_wp2
  go_ret
  exact ⟨rfl, hbel _ _⟩
end Go.Proofs.Ytnlkalbkjocoaaa
