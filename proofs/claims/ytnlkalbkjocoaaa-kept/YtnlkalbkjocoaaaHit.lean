/-
  The law's own word of a triangle: does it have a point (hit).
-/
import Derived.Test.YtnlkalbkjocoaaaTV2
namespace Go.Proofs.Ytnlkalbkjocoaaa
open Go.Shelf Go.RowKit

set_option maxRecDepth 100000 in
set_option maxHeartbeats 800000 in
theorem hit_none (p1 p2 : Nat) (w : World) : Calls Try.prog 54 #[.slice none 0 0, .complex .f64 p1 p2] w fun e w' => e = .returned (.bool false) ∧ w' = w := by
  go_enter Try.func54, Try.ntmps54
  go_wp2
  go_ret
  exact ⟨rfl, rfl⟩

set_option maxRecDepth 100000 in
set_option maxHeartbeats 4000000 in
theorem hit_core (b a1 a2 b1 b2 p1 p2 : Nat) (px py x0 y0 x1 dx dy s dd : Int) (res : Bool) (w : World)
    (k0 : w.cell? ⟨b, 0, none⟩ = some (.complex .f64 a1 a2)) (k1 : w.cell? ⟨b, 1, none⟩ = some (.complex .f64 b1 b2))
    (xp : ∀ w, Calls Try.prog 15 #[.complex .f64 p1 p2] w fun e w' => e = .returned (.int .i64 px) ∧ w' = w)
    (yp : ∀ w, Calls Try.prog 16 #[.complex .f64 p1 p2] w fun e w' => e = .returned (.int .i64 py) ∧ w' = w)
    (xa : ∀ w, Calls Try.prog 15 #[.complex .f64 a1 a2] w fun e w' => e = .returned (.int .i64 x0) ∧ w' = w)
    (ya : ∀ w, Calls Try.prog 16 #[.complex .f64 a1 a2] w fun e w' => e = .returned (.int .i64 y0) ∧ w' = w)
    (xb : ∀ w, Calls Try.prog 15 #[.complex .f64 b1 b2] w fun e w' => e = .returned (.int .i64 x1) ∧ w' = w)
    (w1 : IntKind.i64.wrap (px - x0) = dx) (w2 : IntKind.i64.wrap (py - y0) = dy) (w3 : IntKind.i64.wrap (dx + dy) = s) (w4 : IntKind.i64.wrap (x1 - x0) = dd)
    (HR : Hid (res = decide (0 ≤ dx ∧ 0 ≤ dy ∧ s ≤ dd))) :
    Calls Try.prog 54 #[.slice (some ⟨b, 0, none⟩) 3 3, .complex .f64 p1 p2] w fun e w' => e = .returned (.bool res) ∧ Below w.heap.size w w' := by
  have hbel : ∀ a b c, Below w.heap.size w (((w.drewN a).drewN b).drewN c) := fun a b c => below_drewN (below_drewN (below_drewN (Below.refl _ _) a) b) c
  by_cases g1 : 0 ≤ dx
  · by_cases g2 : 0 ≤ dy
    · by_cases g3 : s ≤ dd
      · as_aux_lemma =>
          have f1 : decide (0 ≤ dx) = true := by simp [*]
          have f2 : decide (0 ≤ dy) = true := by simp [*]
          have f3 : decide (s ≤ dd) = true := by simp [*]
          have H : Hid (res = true) := by show _ = _; rw [HR.out]; simp [*]
          clear HR
          go_enter Try.func54, Try.ntmps54
          go_wp2_with fail
          go_big_quiet (first | (go_at_call_of 15 (Value.complex .f64 p1 p2); first | exact quiet_more (xp _) | exact Calls.quiet_of_same (xp _)) | (go_at_call_of 15 (Value.complex .f64 a1 a2); first | exact quiet_more (xa _) | exact Calls.quiet_of_same (xa _)) | (go_at_call_of 15 (Value.complex .f64 b1 b2); first | exact quiet_more (xb _) | exact Calls.quiet_of_same (xb _)))
          go_wp2_with fail
          go_big_quiet (first | (go_at_call_of 16 (Value.complex .f64 p1 p2); first | exact quiet_more (yp _) | exact Calls.quiet_of_same (yp _)) | (go_at_call_of 16 (Value.complex .f64 a1 a2); first | exact quiet_more (ya _) | exact Calls.quiet_of_same (ya _)))
          go_wp2_with fail
          go_big_quiet (first | (go_at_call_of 15 (Value.complex .f64 p1 p2); first | exact quiet_more (xp _) | exact Calls.quiet_of_same (xp _)) | (go_at_call_of 15 (Value.complex .f64 a1 a2); first | exact quiet_more (xa _) | exact Calls.quiet_of_same (xa _)) | (go_at_call_of 15 (Value.complex .f64 b1 b2); first | exact quiet_more (xb _) | exact Calls.quiet_of_same (xb _)))
          go_wp2
          go_ret
          exact ⟨by rw [H.out]; rfl, hbel _ _ _⟩
      · as_aux_lemma =>
          have f1 : decide (0 ≤ dx) = true := by simp [*]
          have f2 : decide (0 ≤ dy) = true := by simp [*]
          have f3 : decide (s ≤ dd) = false := by simp [*]
          have H : Hid (res = false) := by show _ = _; rw [HR.out]; simp [*]
          clear HR
          go_enter Try.func54, Try.ntmps54
          go_wp2_with fail
          go_big_quiet (first | (go_at_call_of 15 (Value.complex .f64 p1 p2); first | exact quiet_more (xp _) | exact Calls.quiet_of_same (xp _)) | (go_at_call_of 15 (Value.complex .f64 a1 a2); first | exact quiet_more (xa _) | exact Calls.quiet_of_same (xa _)) | (go_at_call_of 15 (Value.complex .f64 b1 b2); first | exact quiet_more (xb _) | exact Calls.quiet_of_same (xb _)))
          go_wp2_with fail
          go_big_quiet (first | (go_at_call_of 16 (Value.complex .f64 p1 p2); first | exact quiet_more (yp _) | exact Calls.quiet_of_same (yp _)) | (go_at_call_of 16 (Value.complex .f64 a1 a2); first | exact quiet_more (ya _) | exact Calls.quiet_of_same (ya _)))
          go_wp2_with fail
          go_big_quiet (first | (go_at_call_of 15 (Value.complex .f64 p1 p2); first | exact quiet_more (xp _) | exact Calls.quiet_of_same (xp _)) | (go_at_call_of 15 (Value.complex .f64 a1 a2); first | exact quiet_more (xa _) | exact Calls.quiet_of_same (xa _)) | (go_at_call_of 15 (Value.complex .f64 b1 b2); first | exact quiet_more (xb _) | exact Calls.quiet_of_same (xb _)))
          go_wp2
          go_ret
          exact ⟨by rw [H.out]; rfl, hbel _ _ _⟩
    · as_aux_lemma =>
        have f1 : decide (0 ≤ dx) = true := by simp [*]
        have f2 : decide (0 ≤ dy) = false := by simp [*]
        have H : Hid (res = false) := by show _ = _; rw [HR.out]; simp [*]
        clear HR
        go_enter Try.func54, Try.ntmps54
        go_wp2_with fail
        go_big_quiet (first | (go_at_call_of 15 (Value.complex .f64 p1 p2); first | exact quiet_more (xp _) | exact Calls.quiet_of_same (xp _)) | (go_at_call_of 15 (Value.complex .f64 a1 a2); first | exact quiet_more (xa _) | exact Calls.quiet_of_same (xa _)) | (go_at_call_of 15 (Value.complex .f64 b1 b2); first | exact quiet_more (xb _) | exact Calls.quiet_of_same (xb _)))
        go_wp2_with fail
        go_big_quiet (first | (go_at_call_of 16 (Value.complex .f64 p1 p2); first | exact quiet_more (yp _) | exact Calls.quiet_of_same (yp _)) | (go_at_call_of 16 (Value.complex .f64 a1 a2); first | exact quiet_more (ya _) | exact Calls.quiet_of_same (ya _)))
        go_wp2_with fail
        go_big_quiet (first | (go_at_call_of 15 (Value.complex .f64 p1 p2); first | exact quiet_more (xp _) | exact Calls.quiet_of_same (xp _)) | (go_at_call_of 15 (Value.complex .f64 a1 a2); first | exact quiet_more (xa _) | exact Calls.quiet_of_same (xa _)) | (go_at_call_of 15 (Value.complex .f64 b1 b2); first | exact quiet_more (xb _) | exact Calls.quiet_of_same (xb _)))
        go_wp2
        go_ret
        exact ⟨by rw [H.out]; rfl, hbel _ _ _⟩
  · as_aux_lemma =>
      have f1 : decide (0 ≤ dx) = false := by simp [*]
      have H : Hid (res = false) := by show _ = _; rw [HR.out]; simp [*]
      clear HR
      go_enter Try.func54, Try.ntmps54
      go_wp2_with fail
      go_big_quiet (first | (go_at_call_of 15 (Value.complex .f64 p1 p2); first | exact quiet_more (xp _) | exact Calls.quiet_of_same (xp _)) | (go_at_call_of 15 (Value.complex .f64 a1 a2); first | exact quiet_more (xa _) | exact Calls.quiet_of_same (xa _)) | (go_at_call_of 15 (Value.complex .f64 b1 b2); first | exact quiet_more (xb _) | exact Calls.quiet_of_same (xb _)))
      go_wp2_with fail
      go_big_quiet (first | (go_at_call_of 16 (Value.complex .f64 p1 p2); first | exact quiet_more (yp _) | exact Calls.quiet_of_same (yp _)) | (go_at_call_of 16 (Value.complex .f64 a1 a2); first | exact quiet_more (ya _) | exact Calls.quiet_of_same (ya _)))
      go_wp2_with fail
      go_big_quiet (first | (go_at_call_of 15 (Value.complex .f64 p1 p2); first | exact quiet_more (xp _) | exact Calls.quiet_of_same (xp _)) | (go_at_call_of 15 (Value.complex .f64 a1 a2); first | exact quiet_more (xa _) | exact Calls.quiet_of_same (xa _)) | (go_at_call_of 15 (Value.complex .f64 b1 b2); first | exact quiet_more (xb _) | exact Calls.quiet_of_same (xb _)))
      go_wp2
      go_ret
      exact ⟨by rw [H.out]; rfl, hbel _ _ _⟩
end Go.Proofs.Ytnlkalbkjocoaaa
