/-
  How compare orders distances.
-/
import Derived.Test.YtnlkalbkjocoaaaOff
namespace Go.Proofs.Ytnlkalbkjocoaaa
open Go.Shelf Go.RowKit

theorem grown3 (w : World) (o1 o2 o3 : Obj) : ∃ q os, (((w.alloc o1).alloc o2).alloc o3).drew = Go.Sort.grow (w.drewN q) os :=
  ⟨1, _, by rw [Go.Sort.alloc_eq_grow, Go.Sort.alloc_eq_grow, Go.Sort.alloc_eq_grow, Go.Sort.grow_grow, Go.Sort.grow_grow]; rfl⟩

set_option maxRecDepth 100000 in
set_option maxHeartbeats 1600000 in
theorem compareD_core (xo yo : Nat) (xi yi a b r : Int) (w : World)
    (h1 : ∀ w, Calls Try.prog 87 #[.float .f64 xo, .float .f64 yo] w fun e w' => e = .returned (.int .i64 a) ∧ w' = w)
    (h2 : ∀ w, Calls Try.prog 92 #[.int .i64 xi, .int .i64 yi] w fun e w' => e = .returned (.int .i64 b) ∧ w' = w)
    (h3 : ∀ (g : Nat) (w : World), w.cell? ⟨g, 0, none⟩ = some (.int .i64 a) → w.cell? ⟨g, 1, none⟩ = some (.int .i64 b) → Calls Try.prog 86 #[.slice (some ⟨g, 0, none⟩) 2 2] w fun e w' => e = .returned (.int .i64 r) ∧ w' = w) :
    Calls Try.prog 71 #[.agg #[.float .f64 xo, .int .i64 xi], .agg #[.float .f64 yo, .int .i64 yi]] w fun e w' => e = .returned (.int .i64 r) ∧ ∃ q os, w' = Go.Sort.grow (w.drewN q) os := by
  go_enter Try.func71, Try.ntmps71
  go_wp2_with fail
  go_region_held3 (fun w' => w'.cell? ⟨w.heap.size, 0, none⟩ = some (.float .f64 xo) ∧ w'.cell? ⟨w.heap.size, 1, none⟩ = some (.int .i64 xi) ∧ w'.cell? ⟨w.heap.size + 1, 0, none⟩ = some (.float .f64 yo) ∧ w'.cell? ⟨w.heap.size + 1, 1, none⟩ = some (.int .i64 yi)) (go_keep) (first | (go_at_call 87; refine (h1 _).mono ?_; rintro e w' ⟨rfl, rfl⟩) | (go_at_call 92; refine (h2 _).mono ?_; rintro e w' ⟨rfl, rfl⟩) | (go_at_call 86; refine (h3 _ _ (by simp [go_sem]) (by simp [go_sem])).mono ?_; rintro e w' ⟨rfl, rfl⟩))
  go_wp2
  go_ret
  exact ⟨rfl, grown3 _ _ _ _⟩

theorem compareD_any (x y : D) (w : World) :
    Calls Try.prog 71 #[.agg (de x).toArray, .agg (de y).toArray] w fun e w' => e = .returned (.int .i64 (cmpD x y)) ∧ ∃ q os, w' = Go.Sort.grow (w.drewN q) os := by
  have h1 := fun w => compareF_any (Z.of (x.1.val : Int)) (Z.of (y.1.val : Int)) (d_small x) (d_small y) w
  rw [Z.val_of, Z.val_of] at h1
  exact compareD_core _ _ _ _ _ _ _ w h1 (fun w => compareI_any (x.2.val : Int) (y.2.val : Int) w) (or_any _ _)
end Go.Proofs.Ytnlkalbkjocoaaa
