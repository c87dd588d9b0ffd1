/-
  What plane.Compose and the face's Compose answer on turns.
-/
import Derived.Test.YtnlkalbkjocoaaaTurn
import Derived.Deep.RegionHeld3
namespace Go.Proofs.Ytnlkalbkjocoaaa
open Go.RowKit

set_option maxRecDepth 100000 in
set_option maxHeartbeats 1600000 in
theorem planeCompose_core (s1 s2 t1 t2 u1 u2 v1 v2 p1 p2 q1 q2 : Nat) (w : World)
    (hop : ∀ (ty : TypeId) (w : World), (binOp .mul ty (.complex .f64 s1 s2) (.complex .f64 u1 u2)).run Try.prog w = .ok (.complex .f64 p1 p2) w)
    (hmv : ∀ w : World, Calls Try.prog 59 #[.agg #[.complex .f64 s1 s2, .complex .f64 t1 t2], .complex .f64 v1 v2] w fun e w' => e = .returned (.complex .f64 q1 q2) ∧ w' = w.alloc (.cells #[.complex .f64 s1 s2, .complex .f64 t1 t2] 36)) :
    Calls Try.prog 39 #[.agg #[.complex .f64 s1 s2, .complex .f64 t1 t2], .agg #[.complex .f64 u1 u2, .complex .f64 v1 v2]] w fun e w' =>
      e = .returned (.agg #[.complex .f64 p1 p2, .complex .f64 q1 q2]) ∧ Below w.heap.size w w' := by
  have hst := store_complex
  go_enter Try.func39, Try.ntmps39
  go_wp2_with fail
  go_region_held3 (fun w' => w'.cell? ⟨w.heap.size, 0, none⟩ = some (.complex .f64 s1 s2) ∧ w'.cell? ⟨w.heap.size, 1, none⟩ = some (.complex .f64 t1 t2) ∧
      w'.cell? ⟨w.heap.size + 1, 0, none⟩ = some (.complex .f64 u1 u2) ∧ w'.cell? ⟨w.heap.size + 1, 1, none⟩ = some (.complex .f64 v1 v2))
    (go_keep)
    (first | (go_at_call 59; refine (hmv _).mono ?_; rintro e w' ⟨rfl, rfl⟩))
  all_goals go_wp2
  refine bodyPost_ret (v := .agg #[.complex .f64 p1 p2, .complex .f64 q1 q2]) (by simp [results, Try.results39, go_sem]) rfl ⟨rfl, ?_⟩
  exact (((((Below.refl _ _).alloc (Nat.le_refl _) _).alloc (by simp) _).alloc (by simp; omega) _).alloc (by simp; omega) _).drew

theorem planeCompose_any (s t u v : C) (hs : s.lim 64) (ht : t.lim 1048576) (hu : u.lim 64) (hv : v.lim 1048576) (w : World) :
    Calls Try.prog 39 #[.agg #[.complex .f64 s.re.bits s.im.bits, .complex .f64 t.re.bits t.im.bits], .agg #[.complex .f64 u.re.bits u.im.bits, .complex .f64 v.re.bits v.im.bits]] w fun e w' =>
      e = .returned (.agg #[.complex .f64 (s.mul u).re.bits (s.mul u).im.bits, .complex .f64 (C.move s t v).re.bits (C.move s t v).im.bits]) ∧ Below w.heap.size w w' :=
  planeCompose_core _ _ _ _ _ _ _ _ _ _ _ _ w (fun ty w => run_complex_mul (P := Try.prog) w ty _ _ _ _ _ _ (C.bits_mul hs hu (by decide) (by decide) (by decide))) (fun w => move_any s t v hs ht hv w)

set_option maxRecDepth 100000 in
set_option maxHeartbeats 1600000 in
theorem compose_core (s1 s2 t1 t2 u1 u2 v1 v2 p1 p2 q1 q2 : Nat) (w : World) (ok : Bool)
    (i1 : ∀ w : World, Calls Try.prog 36 #[.agg #[.complex .f64 s1 s2, .complex .f64 t1 t2]] w fun e w' => e = .returned (.bool true) ∧ w' = w.alloc (.cells #[.complex .f64 s1 s2, .complex .f64 t1 t2] 36))
    (i2 : ∀ w : World, Calls Try.prog 36 #[.agg #[.complex .f64 u1 u2, .complex .f64 v1 v2]] w fun e w' => e = .returned (.bool true) ∧ w' = w.alloc (.cells #[.complex .f64 u1 u2, .complex .f64 v1 v2] 36))
    (i3 : ∀ w : World, Calls Try.prog 36 #[.agg #[.complex .f64 p1 p2, .complex .f64 q1 q2]] w fun e w' => e = .returned (.bool ok) ∧ w' = w.alloc (.cells #[.complex .f64 p1 p2, .complex .f64 q1 q2] 36))
    (hc : ∀ w : World, Calls Try.prog 39 #[.agg #[.complex .f64 s1 s2, .complex .f64 t1 t2], .agg #[.complex .f64 u1 u2, .complex .f64 v1 v2]] w fun e w' => e = .returned (.agg #[.complex .f64 p1 p2, .complex .f64 q1 q2]) ∧ Below w.heap.size w w') :
    Calls Try.prog 17 #[.agg #[.complex .f64 s1 s2, .complex .f64 t1 t2], .agg #[.complex .f64 u1 u2, .complex .f64 v1 v2]] w fun e w' =>
      e = .returned (.tuple #[if ok then .agg #[.complex .f64 p1 p2, .complex .f64 q1 q2] else .agg #[.complex .f64 0 0, .complex .f64 0 0], .int .i64 (if ok then 0 else 4)]) ∧ Below w.heap.size w w' := by
  have hst := store_complex
  go_enter Try.func17, Try.ntmps17
  go_wp2_with fail
  refine (i1 _).mono ?_
  rintro e w' ⟨rfl, rfl⟩
  go_wp2_with fail
  refine (i2 _).mono ?_
  rintro e w' ⟨rfl, rfl⟩
  go_wp2_with fail
  refine (hc _).mono ?_
  rintro e w1 ⟨rfl, hb⟩
  have r0 : w1.cell? ⟨w.heap.size + 1 + 1, 0, none⟩ = some (.complex .f64 0 0) := by rw [hb.cell (p := ⟨w.heap.size + 1 + 1, 0, none⟩) (by simp)]; simp [go_sem]
  have r1 : w1.cell? ⟨w.heap.size + 1 + 1, 1, none⟩ = some (.complex .f64 0 0) := by rw [hb.cell (p := ⟨w.heap.size + 1 + 1, 1, none⟩) (by simp)]; simp [go_sem]
  have f0 : w1.frozen? ⟨w.heap.size + 1 + 1, 0, none⟩ = false := by rw [hb.frozen (p := ⟨w.heap.size + 1 + 1, 0, none⟩) (by simp)]; simp [go_sem]
  have f1 : w1.frozen? ⟨w.heap.size + 1 + 1, 1, none⟩ = false := by rw [hb.frozen (p := ⟨w.heap.size + 1 + 1, 1, none⟩) (by simp)]; simp [go_sem]
  have hz : w.heap.size + 1 + 1 < w1.heap.size := by have := hb.size; simp at this; omega
  have hz1 : w.heap.size + 1 + 1 < w1.heap.size + 1 := by omega
  have hz2 : w.heap.size + 1 < w1.heap.size := by omega
  have hB : Below w.heap.size w w1 := (((((((Below.refl _ _).alloc (Nat.le_refl _) _).alloc (by simp) _).alloc (by simp; omega) _).alloc (by simp; omega) _).alloc (by simp; omega) _)).trans (hb.mono (by simp; omega))
  have HB : Hid (Below w.heap.size w w1) := hB
  clear hb hB i1 i2 hc
  cases ok with
  | true =>
    go_wp2_with fail
    refine (i3 _).mono ?_
    rintro e w' ⟨rfl, rfl⟩
    go_wp2_with fail
    refine bodyPost_ret (v := .tuple #[.agg #[.complex .f64 p1 p2, .complex .f64 q1 q2], .int .i64 0]) (by simp [results, Try.results17, go_sem, r0, r1, hz, hz1]) rfl ⟨rfl, ?_⟩
    exact (((HB.out.setCell (by show w.heap.size ≤ w.heap.size + 1 + 1; omega) _).setCell (by show w.heap.size ≤ w.heap.size + 1 + 1; omega) _).alloc (by simp [World.setCell]; omega) _).alloc (by simp [World.setCell]; omega) _
  | false =>
    go_wp2_with fail
    refine (i3 _).mono ?_
    rintro e w' ⟨rfl, rfl⟩
    go_wp2_with fail
    refine bodyPost_ret (v := .tuple #[.agg #[.complex .f64 0 0, .complex .f64 0 0], .int .i64 4]) (by simp [results, Try.results17, go_sem, r0, r1, hz, hz1]) rfl ⟨rfl, ?_⟩
    exact (((HB.out.setCell (by show w.heap.size ≤ w.heap.size + 1 + 1; omega) _).setCell (by show w.heap.size ≤ w.heap.size + 1 + 1; omega) _).alloc (by simp [World.setCell]; omega) _).alloc (by simp [World.setCell]; omega) _

/-- Is what two turns make together a turn? -/
def turnB (s t u v : C) : Bool := C.within 64 (s.mul u) && C.within 1048576 (C.move s t v)

theorem compose_any (s t u v : C) (hs : s.lim 64) (ht : t.lim 1048576) (hu : u.lim 64) (hv : v.lim 1048576) (w : World) :
    Calls Try.prog 17 #[.agg #[.complex .f64 s.re.bits s.im.bits, .complex .f64 t.re.bits t.im.bits], .agg #[.complex .f64 u.re.bits u.im.bits, .complex .f64 v.re.bits v.im.bits]] w fun e w' =>
      e = .returned (.tuple #[if turnB s t u v then .agg #[.complex .f64 (s.mul u).re.bits (s.mul u).im.bits, .complex .f64 (C.move s t v).re.bits (C.move s t v).im.bits] else .agg #[.complex .f64 0 0, .complex .f64 0 0], .int .i64 (if turnB s t u v then 0 else 4)]) ∧ Below w.heap.size w w' := by
  have i1 := fun w => isTurn_any s t 64 1048576 hs ht (by decide) (by decide) w
  rw [(C.within_iff _ _).2 hs, (C.within_iff _ _).2 ht, Bool.true_and] at i1
  have i2 := fun w => isTurn_any u v 64 1048576 hu hv (by decide) (by decide) w
  rw [(C.within_iff _ _).2 hu, (C.within_iff _ _).2 hv, Bool.true_and] at i2
  have i3 := fun w => isTurn_any (s.mul u) (C.move s t v) _ _ (C.lim_mul hs hu) (C.move_lim hs ht hv) (by decide) (by decide) w
  exact compose_core _ _ _ _ _ _ _ _ _ _ _ _ w (turnB s t u v) i1 i2 i3 (fun w => planeCompose_any s t u v hs ht hu hv w)

set_option maxHeartbeats 800000 in
theorem apply_far (s t : C) (l : List C) (b off cap : Nat) (w : World) (hs : s.lim 64) (ht : t.lim 1048576) (hl : Lies w b off l) (hb : b < w.heap.size) (hls : ∀ c ∈ l, c.lim 1048576) (h3 : 3 ≤ l.length) (hn : l.length ≤ 32)
    (hA : areB (l.map (C.move s t)) = false) :
    Calls Try.prog 14 #[.agg #[.complex .f64 s.re.bits s.im.bits, .complex .f64 t.re.bits t.im.bits], .slice (some ⟨b, off, none⟩) l.length cap] w fun e w' =>
      e = .returned (.tuple #[.slice none 0 0, .int .i64 4]) ∧ Below w.heap.size w w' := by
  have hb1 : ∀ o, Below w.heap.size w (w.alloc o) := fun o => (Below.refl _ _).alloc (Nat.le_refl _) _
  have hb2 : ∀ o o', Below w.heap.size w ((w.alloc o).alloc o') := fun o o' => (hb1 o).alloc (by simp) _
  have c1 := fun o => checkShape_ok l b off cap (w.alloc o) (lies_below hl (hb1 o) hb) hls h3 hn
  have hT := fun w => isTurn_any s t 64 1048576 hs ht (by decide) (by decide) w
  rw [(C.within_iff _ _).2 hs, (C.within_iff _ _).2 ht, Bool.true_and] at hT
  have c2 := fun o o' => moveAll_any s t l b off cap ((w.alloc o).alloc o') hs ht (lies_below hl (hb2 o o') hb) (by simp; omega) hls hn
  simp only [World.size_alloc] at c2
  have c3 := fun w' (h : Lies w' (w.heap.size + 3) 0 (l.map (C.move s t))) => arePoints_any (l.map (C.move s t)) (w.heap.size + 3) 0 l.length w' h (move_smalls hs ht hls) (by simp; omega)
  simp only [hA, List.length_map] at c3
  clear hA hl hls
  go_enter Try.func14, Try.ntmps14
  go_wp2_with fail
  refine (c1 _).mono ?_
  rintro e w' ⟨rfl, rfl⟩
  go_wp2_with fail
  refine (hT _).mono ?_
  rintro e w' ⟨rfl, rfl⟩
  go_wp2_with fail
  refine (c2 _ _).mono ?_
  rintro e w' ⟨rfl, hbe, hli, hsz⟩
  go_wp2_with fail
  refine (c3 _ hli).mono ?_
  rintro e w'' ⟨rfl, rfl⟩
  go_wp2_with fail
  go_ret2
  exact ⟨rfl, (hb2 _ _).trans (hbe.mono (by omega))⟩
end Go.Proofs.Ytnlkalbkjocoaaa
