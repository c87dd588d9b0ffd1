/-
  How far a box is, as the law tells it.
-/
import Derived.Test.YtnlkalbkjocoaaaSmall
namespace Go.Proofs.Ytnlkalbkjocoaaa
open Go.Shelf Go.RowKit

theorem quiet_more {P : Program} {f : FuncId} {args : Array Value} {w : World} {m n : Nat} {v : Value} (h : Calls P f args (w.drewN (m + n)) fun e w' => e = .returned v ∧ w' = w.drewN (m + n)) :
    Calls P f args (w.drewN (m + n)) fun e w'' => e = .returned v ∧ ∃ k, w'' = w.drewN (m + k) := h.mono fun _ _ ⟨he, hm⟩ => ⟨he, n, hm⟩

/-- How far a number is from a stretch. -/
def gap (p l h : Int) : Int := if p < l then l - p else if h < p then p - h else 0
theorem gap_bd (p l h : Int) (hp : -1048576 ≤ p ∧ p ≤ 1048576) (hl : -1048576 ≤ l ∧ l ≤ 1048576) (hh : -1048576 ≤ h ∧ h ≤ 1048576) : -2097152 ≤ gap p l h ∧ gap p l h ≤ 2097152 := by
  unfold gap; split <;> (try split) <;> omega

theorem sq_bd {u : Int} (h : -2097152 ≤ u ∧ u ≤ 2097152) : 0 ≤ u * u ∧ u * u ≤ 4398046511104 := by
  have := mul_bound (x := u) (y := u) (m := 2097152) (n := 2097152) (by omega) (by omega)
  have := sq_nonneg u
  omega
theorem sq_wrap {u : Int} (h : -2097152 ≤ u ∧ u ≤ 2097152) : wrap64 (u * u) = u * u := by
  have := sq_bd h; unfold wrap64; omega
theorem fin2 {u v d : Int} (hu : -2097152 ≤ u ∧ u ≤ 2097152) (hv : -2097152 ≤ v ∧ v ≤ 2097152) (h : d = u * u + v * v) : wrap64 (wrap64 (u * u) + wrap64 (v * v)) = d := by
  rw [sq_wrap hu, sq_wrap hv, h]
  have := sq_bd hu
  have := sq_bd hv
  unfold wrap64; omega
theorem fin1 {u d : Int} (hu : -2097152 ≤ u ∧ u ≤ 2097152) (h : d = u * u + 0 * 0) : wrap64 (wrap64 (u * u)) = d := by
  rw [sq_wrap hu, sq_wrap hu, h]; omega
theorem fin1' {u d : Int} (hu : -2097152 ≤ u ∧ u ≤ 2097152) (h : d = 0 * 0 + u * u) : wrap64 (wrap64 (u * u)) = d := by
  rw [sq_wrap hu, sq_wrap hu, h]; omega

set_option maxRecDepth 100000 in
set_option maxHeartbeats 4000000 in
theorem distance_core (p1 p2 a1 a2 b1 b2 : Nat) (px py lx ly hx hy d : Int) (w : World)
    (xp : ∀ w, Calls Try.prog 15 #[.complex .f64 p1 p2] w fun e w' => e = .returned (.int .i64 px) ∧ w' = w)
    (xl : ∀ w, Calls Try.prog 15 #[.complex .f64 a1 a2] w fun e w' => e = .returned (.int .i64 lx) ∧ w' = w)
    (xh : ∀ w, Calls Try.prog 15 #[.complex .f64 b1 b2] w fun e w' => e = .returned (.int .i64 hx) ∧ w' = w)
    (yp : ∀ w, Calls Try.prog 16 #[.complex .f64 p1 p2] w fun e w' => e = .returned (.int .i64 py) ∧ w' = w)
    (yl : ∀ w, Calls Try.prog 16 #[.complex .f64 a1 a2] w fun e w' => e = .returned (.int .i64 ly) ∧ w' = w)
    (yh : ∀ w, Calls Try.prog 16 #[.complex .f64 b1 b2] w fun e w' => e = .returned (.int .i64 hy) ∧ w' = w)
    (wx1 : IntKind.i64.wrap (lx - px) = lx - px) (wx2 : IntKind.i64.wrap (px - hx) = px - hx) (wy1 : IntKind.i64.wrap (ly - py) = ly - py) (wy2 : IntKind.i64.wrap (py - hy) = py - hy)
    (B : Hid ((-2097152 ≤ lx - px ∧ lx - px ≤ 2097152) ∧ (-2097152 ≤ px - hx ∧ px - hx ≤ 2097152) ∧ (-2097152 ≤ ly - py ∧ ly - py ≤ 2097152) ∧ (-2097152 ≤ py - hy ∧ py - hy ≤ 2097152)))
    (G0 : Hid (d = gap px lx hx * gap px lx hx + gap py ly hy * gap py ly hy)) :
    Calls Try.prog 24 #[.complex .f64 p1 p2, .agg #[.complex .f64 a1 a2, .complex .f64 b1 b2]] w fun e w' => e = .returned (.int .i64 d) ∧ Below w.heap.size w w' := by
  have hbel : ∀ o n, Below w.heap.size w ((w.alloc o).drewN n) := fun o n => below_drewN ((Below.refl _ _).alloc (Nat.le_refl _) _) n
  by_cases g1 : px < lx
  · have ex : gap px lx hx = lx - px := by unfold gap; rw [if_pos g1]
    by_cases g3 : py < ly
    · as_aux_lemma =>
        have ey : gap py ly hy = ly - py := by unfold gap; rw [if_pos g3]
        have G : Hid (d = (lx - px) * (lx - px) + (ly - py) * (ly - py)) := by have := G0.out; rw [ex, ey] at this; exact this
        clear G0 ex ey
        go_enter Try.func24, Try.ntmps24
        go_wp2_with fail
        go_big_quiet (first | (go_at_call_of 15 (Value.complex .f64 p1 p2); first | exact quiet_more (xp _) | exact Calls.quiet_of_same (xp _)) | (go_at_call_of 15 (Value.complex .f64 a1 a2); first | exact quiet_more (xl _) | exact Calls.quiet_of_same (xl _)) | (go_at_call_of 15 (Value.complex .f64 b1 b2); first | exact quiet_more (xh _) | exact Calls.quiet_of_same (xh _)))
        go_wp2_with (first | (go_at_call_of 15 (Value.complex .f64 p1 p2); refine (xp _).mono ?_; rintro e w' ⟨rfl, rfl⟩) | (go_at_call_of 15 (Value.complex .f64 a1 a2); refine (xl _).mono ?_; rintro e w' ⟨rfl, rfl⟩) | (go_at_call_of 15 (Value.complex .f64 b1 b2); refine (xh _).mono ?_; rintro e w' ⟨rfl, rfl⟩) | (go_at_call_of 16 (Value.complex .f64 p1 p2); refine (yp _).mono ?_; rintro e w' ⟨rfl, rfl⟩) | (go_at_call_of 16 (Value.complex .f64 a1 a2); refine (yl _).mono ?_; rintro e w' ⟨rfl, rfl⟩) | (go_at_call_of 16 (Value.complex .f64 b1 b2); refine (yh _).mono ?_; rintro e w' ⟨rfl, rfl⟩))
        go_big_quiet (first | (go_at_call_of 16 (Value.complex .f64 p1 p2); first | exact quiet_more (yp _) | exact Calls.quiet_of_same (yp _)) | (go_at_call_of 16 (Value.complex .f64 a1 a2); first | exact quiet_more (yl _) | exact Calls.quiet_of_same (yl _)) | (go_at_call_of 16 (Value.complex .f64 b1 b2); first | exact quiet_more (yh _) | exact Calls.quiet_of_same (yh _)))
        go_wp2_with (first | (go_at_call_of 15 (Value.complex .f64 p1 p2); refine (xp _).mono ?_; rintro e w' ⟨rfl, rfl⟩) | (go_at_call_of 15 (Value.complex .f64 a1 a2); refine (xl _).mono ?_; rintro e w' ⟨rfl, rfl⟩) | (go_at_call_of 15 (Value.complex .f64 b1 b2); refine (xh _).mono ?_; rintro e w' ⟨rfl, rfl⟩) | (go_at_call_of 16 (Value.complex .f64 p1 p2); refine (yp _).mono ?_; rintro e w' ⟨rfl, rfl⟩) | (go_at_call_of 16 (Value.complex .f64 a1 a2); refine (yl _).mono ?_; rintro e w' ⟨rfl, rfl⟩) | (go_at_call_of 16 (Value.complex .f64 b1 b2); refine (yh _).mono ?_; rintro e w' ⟨rfl, rfl⟩))
        go_ret
        exact ⟨ret_int (fin2 B.out.1 B.out.2.2.1 G.out), hbel _ _⟩
    · by_cases g4 : hy < py
      · as_aux_lemma =>
          have ey : gap py ly hy = py - hy := by unfold gap; rw [if_neg g3, if_pos g4]
          have G : Hid (d = (lx - px) * (lx - px) + (py - hy) * (py - hy)) := by have := G0.out; rw [ex, ey] at this; exact this
          clear G0 ex ey
          go_enter Try.func24, Try.ntmps24
          go_wp2_with fail
          go_big_quiet (first | (go_at_call_of 15 (Value.complex .f64 p1 p2); first | exact quiet_more (xp _) | exact Calls.quiet_of_same (xp _)) | (go_at_call_of 15 (Value.complex .f64 a1 a2); first | exact quiet_more (xl _) | exact Calls.quiet_of_same (xl _)) | (go_at_call_of 15 (Value.complex .f64 b1 b2); first | exact quiet_more (xh _) | exact Calls.quiet_of_same (xh _)))
          go_wp2_with (first | (go_at_call_of 15 (Value.complex .f64 p1 p2); refine (xp _).mono ?_; rintro e w' ⟨rfl, rfl⟩) | (go_at_call_of 15 (Value.complex .f64 a1 a2); refine (xl _).mono ?_; rintro e w' ⟨rfl, rfl⟩) | (go_at_call_of 15 (Value.complex .f64 b1 b2); refine (xh _).mono ?_; rintro e w' ⟨rfl, rfl⟩) | (go_at_call_of 16 (Value.complex .f64 p1 p2); refine (yp _).mono ?_; rintro e w' ⟨rfl, rfl⟩) | (go_at_call_of 16 (Value.complex .f64 a1 a2); refine (yl _).mono ?_; rintro e w' ⟨rfl, rfl⟩) | (go_at_call_of 16 (Value.complex .f64 b1 b2); refine (yh _).mono ?_; rintro e w' ⟨rfl, rfl⟩))
          go_big_quiet (first | (go_at_call_of 16 (Value.complex .f64 p1 p2); first | exact quiet_more (yp _) | exact Calls.quiet_of_same (yp _)) | (go_at_call_of 16 (Value.complex .f64 a1 a2); first | exact quiet_more (yl _) | exact Calls.quiet_of_same (yl _)) | (go_at_call_of 16 (Value.complex .f64 b1 b2); first | exact quiet_more (yh _) | exact Calls.quiet_of_same (yh _)))
          go_wp2_with (first | (go_at_call_of 15 (Value.complex .f64 p1 p2); refine (xp _).mono ?_; rintro e w' ⟨rfl, rfl⟩) | (go_at_call_of 15 (Value.complex .f64 a1 a2); refine (xl _).mono ?_; rintro e w' ⟨rfl, rfl⟩) | (go_at_call_of 15 (Value.complex .f64 b1 b2); refine (xh _).mono ?_; rintro e w' ⟨rfl, rfl⟩) | (go_at_call_of 16 (Value.complex .f64 p1 p2); refine (yp _).mono ?_; rintro e w' ⟨rfl, rfl⟩) | (go_at_call_of 16 (Value.complex .f64 a1 a2); refine (yl _).mono ?_; rintro e w' ⟨rfl, rfl⟩) | (go_at_call_of 16 (Value.complex .f64 b1 b2); refine (yh _).mono ?_; rintro e w' ⟨rfl, rfl⟩))
          go_big_quiet (first | (go_at_call_of 16 (Value.complex .f64 p1 p2); first | exact quiet_more (yp _) | exact Calls.quiet_of_same (yp _)) | (go_at_call_of 16 (Value.complex .f64 a1 a2); first | exact quiet_more (yl _) | exact Calls.quiet_of_same (yl _)) | (go_at_call_of 16 (Value.complex .f64 b1 b2); first | exact quiet_more (yh _) | exact Calls.quiet_of_same (yh _)))
          go_wp2_with (first | (go_at_call_of 15 (Value.complex .f64 p1 p2); refine (xp _).mono ?_; rintro e w' ⟨rfl, rfl⟩) | (go_at_call_of 15 (Value.complex .f64 a1 a2); refine (xl _).mono ?_; rintro e w' ⟨rfl, rfl⟩) | (go_at_call_of 15 (Value.complex .f64 b1 b2); refine (xh _).mono ?_; rintro e w' ⟨rfl, rfl⟩) | (go_at_call_of 16 (Value.complex .f64 p1 p2); refine (yp _).mono ?_; rintro e w' ⟨rfl, rfl⟩) | (go_at_call_of 16 (Value.complex .f64 a1 a2); refine (yl _).mono ?_; rintro e w' ⟨rfl, rfl⟩) | (go_at_call_of 16 (Value.complex .f64 b1 b2); refine (yh _).mono ?_; rintro e w' ⟨rfl, rfl⟩))
          go_big_quiet (first | (go_at_call_of 16 (Value.complex .f64 p1 p2); first | exact quiet_more (yp _) | exact Calls.quiet_of_same (yp _)) | (go_at_call_of 16 (Value.complex .f64 a1 a2); first | exact quiet_more (yl _) | exact Calls.quiet_of_same (yl _)) | (go_at_call_of 16 (Value.complex .f64 b1 b2); first | exact quiet_more (yh _) | exact Calls.quiet_of_same (yh _)))
          go_wp2_with (first | (go_at_call_of 15 (Value.complex .f64 p1 p2); refine (xp _).mono ?_; rintro e w' ⟨rfl, rfl⟩) | (go_at_call_of 15 (Value.complex .f64 a1 a2); refine (xl _).mono ?_; rintro e w' ⟨rfl, rfl⟩) | (go_at_call_of 15 (Value.complex .f64 b1 b2); refine (xh _).mono ?_; rintro e w' ⟨rfl, rfl⟩) | (go_at_call_of 16 (Value.complex .f64 p1 p2); refine (yp _).mono ?_; rintro e w' ⟨rfl, rfl⟩) | (go_at_call_of 16 (Value.complex .f64 a1 a2); refine (yl _).mono ?_; rintro e w' ⟨rfl, rfl⟩) | (go_at_call_of 16 (Value.complex .f64 b1 b2); refine (yh _).mono ?_; rintro e w' ⟨rfl, rfl⟩))
          go_ret
          exact ⟨ret_int (fin2 B.out.1 B.out.2.2.2 G.out), hbel _ _⟩
      · as_aux_lemma =>
          have ey : gap py ly hy = 0 := by unfold gap; rw [if_neg g3, if_neg g4]
          have G : Hid (d = (lx - px) * (lx - px) + (0) * (0)) := by have := G0.out; rw [ex, ey] at this; exact this
          clear G0 ex ey
          go_enter Try.func24, Try.ntmps24
          go_wp2_with fail
          go_big_quiet (first | (go_at_call_of 15 (Value.complex .f64 p1 p2); first | exact quiet_more (xp _) | exact Calls.quiet_of_same (xp _)) | (go_at_call_of 15 (Value.complex .f64 a1 a2); first | exact quiet_more (xl _) | exact Calls.quiet_of_same (xl _)) | (go_at_call_of 15 (Value.complex .f64 b1 b2); first | exact quiet_more (xh _) | exact Calls.quiet_of_same (xh _)))
          go_wp2_with (first | (go_at_call_of 15 (Value.complex .f64 p1 p2); refine (xp _).mono ?_; rintro e w' ⟨rfl, rfl⟩) | (go_at_call_of 15 (Value.complex .f64 a1 a2); refine (xl _).mono ?_; rintro e w' ⟨rfl, rfl⟩) | (go_at_call_of 15 (Value.complex .f64 b1 b2); refine (xh _).mono ?_; rintro e w' ⟨rfl, rfl⟩) | (go_at_call_of 16 (Value.complex .f64 p1 p2); refine (yp _).mono ?_; rintro e w' ⟨rfl, rfl⟩) | (go_at_call_of 16 (Value.complex .f64 a1 a2); refine (yl _).mono ?_; rintro e w' ⟨rfl, rfl⟩) | (go_at_call_of 16 (Value.complex .f64 b1 b2); refine (yh _).mono ?_; rintro e w' ⟨rfl, rfl⟩))
          go_big_quiet (first | (go_at_call_of 16 (Value.complex .f64 p1 p2); first | exact quiet_more (yp _) | exact Calls.quiet_of_same (yp _)) | (go_at_call_of 16 (Value.complex .f64 a1 a2); first | exact quiet_more (yl _) | exact Calls.quiet_of_same (yl _)) | (go_at_call_of 16 (Value.complex .f64 b1 b2); first | exact quiet_more (yh _) | exact Calls.quiet_of_same (yh _)))
          go_wp2_with (first | (go_at_call_of 15 (Value.complex .f64 p1 p2); refine (xp _).mono ?_; rintro e w' ⟨rfl, rfl⟩) | (go_at_call_of 15 (Value.complex .f64 a1 a2); refine (xl _).mono ?_; rintro e w' ⟨rfl, rfl⟩) | (go_at_call_of 15 (Value.complex .f64 b1 b2); refine (xh _).mono ?_; rintro e w' ⟨rfl, rfl⟩) | (go_at_call_of 16 (Value.complex .f64 p1 p2); refine (yp _).mono ?_; rintro e w' ⟨rfl, rfl⟩) | (go_at_call_of 16 (Value.complex .f64 a1 a2); refine (yl _).mono ?_; rintro e w' ⟨rfl, rfl⟩) | (go_at_call_of 16 (Value.complex .f64 b1 b2); refine (yh _).mono ?_; rintro e w' ⟨rfl, rfl⟩))
          go_big_quiet (first | (go_at_call_of 16 (Value.complex .f64 p1 p2); first | exact quiet_more (yp _) | exact Calls.quiet_of_same (yp _)) | (go_at_call_of 16 (Value.complex .f64 a1 a2); first | exact quiet_more (yl _) | exact Calls.quiet_of_same (yl _)) | (go_at_call_of 16 (Value.complex .f64 b1 b2); first | exact quiet_more (yh _) | exact Calls.quiet_of_same (yh _)))
          go_wp2_with (first | (go_at_call_of 15 (Value.complex .f64 p1 p2); refine (xp _).mono ?_; rintro e w' ⟨rfl, rfl⟩) | (go_at_call_of 15 (Value.complex .f64 a1 a2); refine (xl _).mono ?_; rintro e w' ⟨rfl, rfl⟩) | (go_at_call_of 15 (Value.complex .f64 b1 b2); refine (xh _).mono ?_; rintro e w' ⟨rfl, rfl⟩) | (go_at_call_of 16 (Value.complex .f64 p1 p2); refine (yp _).mono ?_; rintro e w' ⟨rfl, rfl⟩) | (go_at_call_of 16 (Value.complex .f64 a1 a2); refine (yl _).mono ?_; rintro e w' ⟨rfl, rfl⟩) | (go_at_call_of 16 (Value.complex .f64 b1 b2); refine (yh _).mono ?_; rintro e w' ⟨rfl, rfl⟩))
          go_ret
          exact ⟨ret_int (fin1 B.out.1 G.out), hbel _ _⟩
  · by_cases g2 : hx < px
    · have ex : gap px lx hx = px - hx := by unfold gap; rw [if_neg g1, if_pos g2]
      by_cases g3 : py < ly
      · as_aux_lemma =>
          have ey : gap py ly hy = ly - py := by unfold gap; rw [if_pos g3]
          have G : Hid (d = (px - hx) * (px - hx) + (ly - py) * (ly - py)) := by have := G0.out; rw [ex, ey] at this; exact this
          clear G0 ex ey
          go_enter Try.func24, Try.ntmps24
          go_wp2_with fail
          go_big_quiet (first | (go_at_call_of 15 (Value.complex .f64 p1 p2); first | exact quiet_more (xp _) | exact Calls.quiet_of_same (xp _)) | (go_at_call_of 15 (Value.complex .f64 a1 a2); first | exact quiet_more (xl _) | exact Calls.quiet_of_same (xl _)) | (go_at_call_of 15 (Value.complex .f64 b1 b2); first | exact quiet_more (xh _) | exact Calls.quiet_of_same (xh _)))
          go_wp2_with (first | (go_at_call_of 15 (Value.complex .f64 p1 p2); refine (xp _).mono ?_; rintro e w' ⟨rfl, rfl⟩) | (go_at_call_of 15 (Value.complex .f64 a1 a2); refine (xl _).mono ?_; rintro e w' ⟨rfl, rfl⟩) | (go_at_call_of 15 (Value.complex .f64 b1 b2); refine (xh _).mono ?_; rintro e w' ⟨rfl, rfl⟩) | (go_at_call_of 16 (Value.complex .f64 p1 p2); refine (yp _).mono ?_; rintro e w' ⟨rfl, rfl⟩) | (go_at_call_of 16 (Value.complex .f64 a1 a2); refine (yl _).mono ?_; rintro e w' ⟨rfl, rfl⟩) | (go_at_call_of 16 (Value.complex .f64 b1 b2); refine (yh _).mono ?_; rintro e w' ⟨rfl, rfl⟩))
          go_big_quiet (first | (go_at_call_of 15 (Value.complex .f64 p1 p2); first | exact quiet_more (xp _) | exact Calls.quiet_of_same (xp _)) | (go_at_call_of 15 (Value.complex .f64 a1 a2); first | exact quiet_more (xl _) | exact Calls.quiet_of_same (xl _)) | (go_at_call_of 15 (Value.complex .f64 b1 b2); first | exact quiet_more (xh _) | exact Calls.quiet_of_same (xh _)))
          go_wp2_with (first | (go_at_call_of 15 (Value.complex .f64 p1 p2); refine (xp _).mono ?_; rintro e w' ⟨rfl, rfl⟩) | (go_at_call_of 15 (Value.complex .f64 a1 a2); refine (xl _).mono ?_; rintro e w' ⟨rfl, rfl⟩) | (go_at_call_of 15 (Value.complex .f64 b1 b2); refine (xh _).mono ?_; rintro e w' ⟨rfl, rfl⟩) | (go_at_call_of 16 (Value.complex .f64 p1 p2); refine (yp _).mono ?_; rintro e w' ⟨rfl, rfl⟩) | (go_at_call_of 16 (Value.complex .f64 a1 a2); refine (yl _).mono ?_; rintro e w' ⟨rfl, rfl⟩) | (go_at_call_of 16 (Value.complex .f64 b1 b2); refine (yh _).mono ?_; rintro e w' ⟨rfl, rfl⟩))
          go_big_quiet (first | (go_at_call_of 15 (Value.complex .f64 p1 p2); first | exact quiet_more (xp _) | exact Calls.quiet_of_same (xp _)) | (go_at_call_of 15 (Value.complex .f64 a1 a2); first | exact quiet_more (xl _) | exact Calls.quiet_of_same (xl _)) | (go_at_call_of 15 (Value.complex .f64 b1 b2); first | exact quiet_more (xh _) | exact Calls.quiet_of_same (xh _)))
          go_wp2_with (first | (go_at_call_of 15 (Value.complex .f64 p1 p2); refine (xp _).mono ?_; rintro e w' ⟨rfl, rfl⟩) | (go_at_call_of 15 (Value.complex .f64 a1 a2); refine (xl _).mono ?_; rintro e w' ⟨rfl, rfl⟩) | (go_at_call_of 15 (Value.complex .f64 b1 b2); refine (xh _).mono ?_; rintro e w' ⟨rfl, rfl⟩) | (go_at_call_of 16 (Value.complex .f64 p1 p2); refine (yp _).mono ?_; rintro e w' ⟨rfl, rfl⟩) | (go_at_call_of 16 (Value.complex .f64 a1 a2); refine (yl _).mono ?_; rintro e w' ⟨rfl, rfl⟩) | (go_at_call_of 16 (Value.complex .f64 b1 b2); refine (yh _).mono ?_; rintro e w' ⟨rfl, rfl⟩))
          go_big_quiet (first | (go_at_call_of 16 (Value.complex .f64 p1 p2); first | exact quiet_more (yp _) | exact Calls.quiet_of_same (yp _)) | (go_at_call_of 16 (Value.complex .f64 a1 a2); first | exact quiet_more (yl _) | exact Calls.quiet_of_same (yl _)) | (go_at_call_of 16 (Value.complex .f64 b1 b2); first | exact quiet_more (yh _) | exact Calls.quiet_of_same (yh _)))
          go_wp2_with (first | (go_at_call_of 15 (Value.complex .f64 p1 p2); refine (xp _).mono ?_; rintro e w' ⟨rfl, rfl⟩) | (go_at_call_of 15 (Value.complex .f64 a1 a2); refine (xl _).mono ?_; rintro e w' ⟨rfl, rfl⟩) | (go_at_call_of 15 (Value.complex .f64 b1 b2); refine (xh _).mono ?_; rintro e w' ⟨rfl, rfl⟩) | (go_at_call_of 16 (Value.complex .f64 p1 p2); refine (yp _).mono ?_; rintro e w' ⟨rfl, rfl⟩) | (go_at_call_of 16 (Value.complex .f64 a1 a2); refine (yl _).mono ?_; rintro e w' ⟨rfl, rfl⟩) | (go_at_call_of 16 (Value.complex .f64 b1 b2); refine (yh _).mono ?_; rintro e w' ⟨rfl, rfl⟩))
          go_ret
          exact ⟨ret_int (fin2 B.out.2.1 B.out.2.2.1 G.out), hbel _ _⟩
      · by_cases g4 : hy < py
        · as_aux_lemma =>
            have ey : gap py ly hy = py - hy := by unfold gap; rw [if_neg g3, if_pos g4]
            have G : Hid (d = (px - hx) * (px - hx) + (py - hy) * (py - hy)) := by have := G0.out; rw [ex, ey] at this; exact this
            clear G0 ex ey
            go_enter Try.func24, Try.ntmps24
            go_wp2_with fail
            go_big_quiet (first | (go_at_call_of 15 (Value.complex .f64 p1 p2); first | exact quiet_more (xp _) | exact Calls.quiet_of_same (xp _)) | (go_at_call_of 15 (Value.complex .f64 a1 a2); first | exact quiet_more (xl _) | exact Calls.quiet_of_same (xl _)) | (go_at_call_of 15 (Value.complex .f64 b1 b2); first | exact quiet_more (xh _) | exact Calls.quiet_of_same (xh _)))
            go_wp2_with (first | (go_at_call_of 15 (Value.complex .f64 p1 p2); refine (xp _).mono ?_; rintro e w' ⟨rfl, rfl⟩) | (go_at_call_of 15 (Value.complex .f64 a1 a2); refine (xl _).mono ?_; rintro e w' ⟨rfl, rfl⟩) | (go_at_call_of 15 (Value.complex .f64 b1 b2); refine (xh _).mono ?_; rintro e w' ⟨rfl, rfl⟩) | (go_at_call_of 16 (Value.complex .f64 p1 p2); refine (yp _).mono ?_; rintro e w' ⟨rfl, rfl⟩) | (go_at_call_of 16 (Value.complex .f64 a1 a2); refine (yl _).mono ?_; rintro e w' ⟨rfl, rfl⟩) | (go_at_call_of 16 (Value.complex .f64 b1 b2); refine (yh _).mono ?_; rintro e w' ⟨rfl, rfl⟩))
            go_big_quiet (first | (go_at_call_of 15 (Value.complex .f64 p1 p2); first | exact quiet_more (xp _) | exact Calls.quiet_of_same (xp _)) | (go_at_call_of 15 (Value.complex .f64 a1 a2); first | exact quiet_more (xl _) | exact Calls.quiet_of_same (xl _)) | (go_at_call_of 15 (Value.complex .f64 b1 b2); first | exact quiet_more (xh _) | exact Calls.quiet_of_same (xh _)))
            go_wp2_with (first | (go_at_call_of 15 (Value.complex .f64 p1 p2); refine (xp _).mono ?_; rintro e w' ⟨rfl, rfl⟩) | (go_at_call_of 15 (Value.complex .f64 a1 a2); refine (xl _).mono ?_; rintro e w' ⟨rfl, rfl⟩) | (go_at_call_of 15 (Value.complex .f64 b1 b2); refine (xh _).mono ?_; rintro e w' ⟨rfl, rfl⟩) | (go_at_call_of 16 (Value.complex .f64 p1 p2); refine (yp _).mono ?_; rintro e w' ⟨rfl, rfl⟩) | (go_at_call_of 16 (Value.complex .f64 a1 a2); refine (yl _).mono ?_; rintro e w' ⟨rfl, rfl⟩) | (go_at_call_of 16 (Value.complex .f64 b1 b2); refine (yh _).mono ?_; rintro e w' ⟨rfl, rfl⟩))
            go_big_quiet (first | (go_at_call_of 15 (Value.complex .f64 p1 p2); first | exact quiet_more (xp _) | exact Calls.quiet_of_same (xp _)) | (go_at_call_of 15 (Value.complex .f64 a1 a2); first | exact quiet_more (xl _) | exact Calls.quiet_of_same (xl _)) | (go_at_call_of 15 (Value.complex .f64 b1 b2); first | exact quiet_more (xh _) | exact Calls.quiet_of_same (xh _)))
            go_wp2_with (first | (go_at_call_of 15 (Value.complex .f64 p1 p2); refine (xp _).mono ?_; rintro e w' ⟨rfl, rfl⟩) | (go_at_call_of 15 (Value.complex .f64 a1 a2); refine (xl _).mono ?_; rintro e w' ⟨rfl, rfl⟩) | (go_at_call_of 15 (Value.complex .f64 b1 b2); refine (xh _).mono ?_; rintro e w' ⟨rfl, rfl⟩) | (go_at_call_of 16 (Value.complex .f64 p1 p2); refine (yp _).mono ?_; rintro e w' ⟨rfl, rfl⟩) | (go_at_call_of 16 (Value.complex .f64 a1 a2); refine (yl _).mono ?_; rintro e w' ⟨rfl, rfl⟩) | (go_at_call_of 16 (Value.complex .f64 b1 b2); refine (yh _).mono ?_; rintro e w' ⟨rfl, rfl⟩))
            go_big_quiet (first | (go_at_call_of 16 (Value.complex .f64 p1 p2); first | exact quiet_more (yp _) | exact Calls.quiet_of_same (yp _)) | (go_at_call_of 16 (Value.complex .f64 a1 a2); first | exact quiet_more (yl _) | exact Calls.quiet_of_same (yl _)) | (go_at_call_of 16 (Value.complex .f64 b1 b2); first | exact quiet_more (yh _) | exact Calls.quiet_of_same (yh _)))
            go_wp2_with (first | (go_at_call_of 15 (Value.complex .f64 p1 p2); refine (xp _).mono ?_; rintro e w' ⟨rfl, rfl⟩) | (go_at_call_of 15 (Value.complex .f64 a1 a2); refine (xl _).mono ?_; rintro e w' ⟨rfl, rfl⟩) | (go_at_call_of 15 (Value.complex .f64 b1 b2); refine (xh _).mono ?_; rintro e w' ⟨rfl, rfl⟩) | (go_at_call_of 16 (Value.complex .f64 p1 p2); refine (yp _).mono ?_; rintro e w' ⟨rfl, rfl⟩) | (go_at_call_of 16 (Value.complex .f64 a1 a2); refine (yl _).mono ?_; rintro e w' ⟨rfl, rfl⟩) | (go_at_call_of 16 (Value.complex .f64 b1 b2); refine (yh _).mono ?_; rintro e w' ⟨rfl, rfl⟩))
            go_big_quiet (first | (go_at_call_of 16 (Value.complex .f64 p1 p2); first | exact quiet_more (yp _) | exact Calls.quiet_of_same (yp _)) | (go_at_call_of 16 (Value.complex .f64 a1 a2); first | exact quiet_more (yl _) | exact Calls.quiet_of_same (yl _)) | (go_at_call_of 16 (Value.complex .f64 b1 b2); first | exact quiet_more (yh _) | exact Calls.quiet_of_same (yh _)))
            go_wp2_with (first | (go_at_call_of 15 (Value.complex .f64 p1 p2); refine (xp _).mono ?_; rintro e w' ⟨rfl, rfl⟩) | (go_at_call_of 15 (Value.complex .f64 a1 a2); refine (xl _).mono ?_; rintro e w' ⟨rfl, rfl⟩) | (go_at_call_of 15 (Value.complex .f64 b1 b2); refine (xh _).mono ?_; rintro e w' ⟨rfl, rfl⟩) | (go_at_call_of 16 (Value.complex .f64 p1 p2); refine (yp _).mono ?_; rintro e w' ⟨rfl, rfl⟩) | (go_at_call_of 16 (Value.complex .f64 a1 a2); refine (yl _).mono ?_; rintro e w' ⟨rfl, rfl⟩) | (go_at_call_of 16 (Value.complex .f64 b1 b2); refine (yh _).mono ?_; rintro e w' ⟨rfl, rfl⟩))
            go_big_quiet (first | (go_at_call_of 16 (Value.complex .f64 p1 p2); first | exact quiet_more (yp _) | exact Calls.quiet_of_same (yp _)) | (go_at_call_of 16 (Value.complex .f64 a1 a2); first | exact quiet_more (yl _) | exact Calls.quiet_of_same (yl _)) | (go_at_call_of 16 (Value.complex .f64 b1 b2); first | exact quiet_more (yh _) | exact Calls.quiet_of_same (yh _)))
            go_wp2_with (first | (go_at_call_of 15 (Value.complex .f64 p1 p2); refine (xp _).mono ?_; rintro e w' ⟨rfl, rfl⟩) | (go_at_call_of 15 (Value.complex .f64 a1 a2); refine (xl _).mono ?_; rintro e w' ⟨rfl, rfl⟩) | (go_at_call_of 15 (Value.complex .f64 b1 b2); refine (xh _).mono ?_; rintro e w' ⟨rfl, rfl⟩) | (go_at_call_of 16 (Value.complex .f64 p1 p2); refine (yp _).mono ?_; rintro e w' ⟨rfl, rfl⟩) | (go_at_call_of 16 (Value.complex .f64 a1 a2); refine (yl _).mono ?_; rintro e w' ⟨rfl, rfl⟩) | (go_at_call_of 16 (Value.complex .f64 b1 b2); refine (yh _).mono ?_; rintro e w' ⟨rfl, rfl⟩))
            go_ret
            exact ⟨ret_int (fin2 B.out.2.1 B.out.2.2.2 G.out), hbel _ _⟩
        · as_aux_lemma =>
            have ey : gap py ly hy = 0 := by unfold gap; rw [if_neg g3, if_neg g4]
            have G : Hid (d = (px - hx) * (px - hx) + (0) * (0)) := by have := G0.out; rw [ex, ey] at this; exact this
            clear G0 ex ey
            go_enter Try.func24, Try.ntmps24
            go_wp2_with fail
            go_big_quiet (first | (go_at_call_of 15 (Value.complex .f64 p1 p2); first | exact quiet_more (xp _) | exact Calls.quiet_of_same (xp _)) | (go_at_call_of 15 (Value.complex .f64 a1 a2); first | exact quiet_more (xl _) | exact Calls.quiet_of_same (xl _)) | (go_at_call_of 15 (Value.complex .f64 b1 b2); first | exact quiet_more (xh _) | exact Calls.quiet_of_same (xh _)))
            go_wp2_with (first | (go_at_call_of 15 (Value.complex .f64 p1 p2); refine (xp _).mono ?_; rintro e w' ⟨rfl, rfl⟩) | (go_at_call_of 15 (Value.complex .f64 a1 a2); refine (xl _).mono ?_; rintro e w' ⟨rfl, rfl⟩) | (go_at_call_of 15 (Value.complex .f64 b1 b2); refine (xh _).mono ?_; rintro e w' ⟨rfl, rfl⟩) | (go_at_call_of 16 (Value.complex .f64 p1 p2); refine (yp _).mono ?_; rintro e w' ⟨rfl, rfl⟩) | (go_at_call_of 16 (Value.complex .f64 a1 a2); refine (yl _).mono ?_; rintro e w' ⟨rfl, rfl⟩) | (go_at_call_of 16 (Value.complex .f64 b1 b2); refine (yh _).mono ?_; rintro e w' ⟨rfl, rfl⟩))
            go_big_quiet (first | (go_at_call_of 15 (Value.complex .f64 p1 p2); first | exact quiet_more (xp _) | exact Calls.quiet_of_same (xp _)) | (go_at_call_of 15 (Value.complex .f64 a1 a2); first | exact quiet_more (xl _) | exact Calls.quiet_of_same (xl _)) | (go_at_call_of 15 (Value.complex .f64 b1 b2); first | exact quiet_more (xh _) | exact Calls.quiet_of_same (xh _)))
            go_wp2_with (first | (go_at_call_of 15 (Value.complex .f64 p1 p2); refine (xp _).mono ?_; rintro e w' ⟨rfl, rfl⟩) | (go_at_call_of 15 (Value.complex .f64 a1 a2); refine (xl _).mono ?_; rintro e w' ⟨rfl, rfl⟩) | (go_at_call_of 15 (Value.complex .f64 b1 b2); refine (xh _).mono ?_; rintro e w' ⟨rfl, rfl⟩) | (go_at_call_of 16 (Value.complex .f64 p1 p2); refine (yp _).mono ?_; rintro e w' ⟨rfl, rfl⟩) | (go_at_call_of 16 (Value.complex .f64 a1 a2); refine (yl _).mono ?_; rintro e w' ⟨rfl, rfl⟩) | (go_at_call_of 16 (Value.complex .f64 b1 b2); refine (yh _).mono ?_; rintro e w' ⟨rfl, rfl⟩))
            go_big_quiet (first | (go_at_call_of 15 (Value.complex .f64 p1 p2); first | exact quiet_more (xp _) | exact Calls.quiet_of_same (xp _)) | (go_at_call_of 15 (Value.complex .f64 a1 a2); first | exact quiet_more (xl _) | exact Calls.quiet_of_same (xl _)) | (go_at_call_of 15 (Value.complex .f64 b1 b2); first | exact quiet_more (xh _) | exact Calls.quiet_of_same (xh _)))
            go_wp2_with (first | (go_at_call_of 15 (Value.complex .f64 p1 p2); refine (xp _).mono ?_; rintro e w' ⟨rfl, rfl⟩) | (go_at_call_of 15 (Value.complex .f64 a1 a2); refine (xl _).mono ?_; rintro e w' ⟨rfl, rfl⟩) | (go_at_call_of 15 (Value.complex .f64 b1 b2); refine (xh _).mono ?_; rintro e w' ⟨rfl, rfl⟩) | (go_at_call_of 16 (Value.complex .f64 p1 p2); refine (yp _).mono ?_; rintro e w' ⟨rfl, rfl⟩) | (go_at_call_of 16 (Value.complex .f64 a1 a2); refine (yl _).mono ?_; rintro e w' ⟨rfl, rfl⟩) | (go_at_call_of 16 (Value.complex .f64 b1 b2); refine (yh _).mono ?_; rintro e w' ⟨rfl, rfl⟩))
            go_big_quiet (first | (go_at_call_of 16 (Value.complex .f64 p1 p2); first | exact quiet_more (yp _) | exact Calls.quiet_of_same (yp _)) | (go_at_call_of 16 (Value.complex .f64 a1 a2); first | exact quiet_more (yl _) | exact Calls.quiet_of_same (yl _)) | (go_at_call_of 16 (Value.complex .f64 b1 b2); first | exact quiet_more (yh _) | exact Calls.quiet_of_same (yh _)))
            go_wp2_with (first | (go_at_call_of 15 (Value.complex .f64 p1 p2); refine (xp _).mono ?_; rintro e w' ⟨rfl, rfl⟩) | (go_at_call_of 15 (Value.complex .f64 a1 a2); refine (xl _).mono ?_; rintro e w' ⟨rfl, rfl⟩) | (go_at_call_of 15 (Value.complex .f64 b1 b2); refine (xh _).mono ?_; rintro e w' ⟨rfl, rfl⟩) | (go_at_call_of 16 (Value.complex .f64 p1 p2); refine (yp _).mono ?_; rintro e w' ⟨rfl, rfl⟩) | (go_at_call_of 16 (Value.complex .f64 a1 a2); refine (yl _).mono ?_; rintro e w' ⟨rfl, rfl⟩) | (go_at_call_of 16 (Value.complex .f64 b1 b2); refine (yh _).mono ?_; rintro e w' ⟨rfl, rfl⟩))
            go_big_quiet (first | (go_at_call_of 16 (Value.complex .f64 p1 p2); first | exact quiet_more (yp _) | exact Calls.quiet_of_same (yp _)) | (go_at_call_of 16 (Value.complex .f64 a1 a2); first | exact quiet_more (yl _) | exact Calls.quiet_of_same (yl _)) | (go_at_call_of 16 (Value.complex .f64 b1 b2); first | exact quiet_more (yh _) | exact Calls.quiet_of_same (yh _)))
            go_wp2_with (first | (go_at_call_of 15 (Value.complex .f64 p1 p2); refine (xp _).mono ?_; rintro e w' ⟨rfl, rfl⟩) | (go_at_call_of 15 (Value.complex .f64 a1 a2); refine (xl _).mono ?_; rintro e w' ⟨rfl, rfl⟩) | (go_at_call_of 15 (Value.complex .f64 b1 b2); refine (xh _).mono ?_; rintro e w' ⟨rfl, rfl⟩) | (go_at_call_of 16 (Value.complex .f64 p1 p2); refine (yp _).mono ?_; rintro e w' ⟨rfl, rfl⟩) | (go_at_call_of 16 (Value.complex .f64 a1 a2); refine (yl _).mono ?_; rintro e w' ⟨rfl, rfl⟩) | (go_at_call_of 16 (Value.complex .f64 b1 b2); refine (yh _).mono ?_; rintro e w' ⟨rfl, rfl⟩))
            go_ret
            exact ⟨ret_int (fin1 B.out.2.1 G.out), hbel _ _⟩
    · have ex : gap px lx hx = 0 := by unfold gap; rw [if_neg g1, if_neg g2]
      by_cases g3 : py < ly
      · as_aux_lemma =>
          have ey : gap py ly hy = ly - py := by unfold gap; rw [if_pos g3]
          have G : Hid (d = (0) * (0) + (ly - py) * (ly - py)) := by have := G0.out; rw [ex, ey] at this; exact this
          clear G0 ex ey
          go_enter Try.func24, Try.ntmps24
          go_wp2_with fail
          go_big_quiet (first | (go_at_call_of 15 (Value.complex .f64 p1 p2); first | exact quiet_more (xp _) | exact Calls.quiet_of_same (xp _)) | (go_at_call_of 15 (Value.complex .f64 a1 a2); first | exact quiet_more (xl _) | exact Calls.quiet_of_same (xl _)) | (go_at_call_of 15 (Value.complex .f64 b1 b2); first | exact quiet_more (xh _) | exact Calls.quiet_of_same (xh _)))
          go_wp2_with (first | (go_at_call_of 15 (Value.complex .f64 p1 p2); refine (xp _).mono ?_; rintro e w' ⟨rfl, rfl⟩) | (go_at_call_of 15 (Value.complex .f64 a1 a2); refine (xl _).mono ?_; rintro e w' ⟨rfl, rfl⟩) | (go_at_call_of 15 (Value.complex .f64 b1 b2); refine (xh _).mono ?_; rintro e w' ⟨rfl, rfl⟩) | (go_at_call_of 16 (Value.complex .f64 p1 p2); refine (yp _).mono ?_; rintro e w' ⟨rfl, rfl⟩) | (go_at_call_of 16 (Value.complex .f64 a1 a2); refine (yl _).mono ?_; rintro e w' ⟨rfl, rfl⟩) | (go_at_call_of 16 (Value.complex .f64 b1 b2); refine (yh _).mono ?_; rintro e w' ⟨rfl, rfl⟩))
          go_big_quiet (first | (go_at_call_of 15 (Value.complex .f64 p1 p2); first | exact quiet_more (xp _) | exact Calls.quiet_of_same (xp _)) | (go_at_call_of 15 (Value.complex .f64 a1 a2); first | exact quiet_more (xl _) | exact Calls.quiet_of_same (xl _)) | (go_at_call_of 15 (Value.complex .f64 b1 b2); first | exact quiet_more (xh _) | exact Calls.quiet_of_same (xh _)))
          go_wp2_with (first | (go_at_call_of 15 (Value.complex .f64 p1 p2); refine (xp _).mono ?_; rintro e w' ⟨rfl, rfl⟩) | (go_at_call_of 15 (Value.complex .f64 a1 a2); refine (xl _).mono ?_; rintro e w' ⟨rfl, rfl⟩) | (go_at_call_of 15 (Value.complex .f64 b1 b2); refine (xh _).mono ?_; rintro e w' ⟨rfl, rfl⟩) | (go_at_call_of 16 (Value.complex .f64 p1 p2); refine (yp _).mono ?_; rintro e w' ⟨rfl, rfl⟩) | (go_at_call_of 16 (Value.complex .f64 a1 a2); refine (yl _).mono ?_; rintro e w' ⟨rfl, rfl⟩) | (go_at_call_of 16 (Value.complex .f64 b1 b2); refine (yh _).mono ?_; rintro e w' ⟨rfl, rfl⟩))
          go_big_quiet (first | (go_at_call_of 16 (Value.complex .f64 p1 p2); first | exact quiet_more (yp _) | exact Calls.quiet_of_same (yp _)) | (go_at_call_of 16 (Value.complex .f64 a1 a2); first | exact quiet_more (yl _) | exact Calls.quiet_of_same (yl _)) | (go_at_call_of 16 (Value.complex .f64 b1 b2); first | exact quiet_more (yh _) | exact Calls.quiet_of_same (yh _)))
          go_wp2_with (first | (go_at_call_of 15 (Value.complex .f64 p1 p2); refine (xp _).mono ?_; rintro e w' ⟨rfl, rfl⟩) | (go_at_call_of 15 (Value.complex .f64 a1 a2); refine (xl _).mono ?_; rintro e w' ⟨rfl, rfl⟩) | (go_at_call_of 15 (Value.complex .f64 b1 b2); refine (xh _).mono ?_; rintro e w' ⟨rfl, rfl⟩) | (go_at_call_of 16 (Value.complex .f64 p1 p2); refine (yp _).mono ?_; rintro e w' ⟨rfl, rfl⟩) | (go_at_call_of 16 (Value.complex .f64 a1 a2); refine (yl _).mono ?_; rintro e w' ⟨rfl, rfl⟩) | (go_at_call_of 16 (Value.complex .f64 b1 b2); refine (yh _).mono ?_; rintro e w' ⟨rfl, rfl⟩))
          go_ret
          exact ⟨ret_int (fin1' B.out.2.2.1 G.out), hbel _ _⟩
      · by_cases g4 : hy < py
        · as_aux_lemma =>
            have ey : gap py ly hy = py - hy := by unfold gap; rw [if_neg g3, if_pos g4]
            have G : Hid (d = (0) * (0) + (py - hy) * (py - hy)) := by have := G0.out; rw [ex, ey] at this; exact this
            clear G0 ex ey
            go_enter Try.func24, Try.ntmps24
            go_wp2_with fail
            go_big_quiet (first | (go_at_call_of 15 (Value.complex .f64 p1 p2); first | exact quiet_more (xp _) | exact Calls.quiet_of_same (xp _)) | (go_at_call_of 15 (Value.complex .f64 a1 a2); first | exact quiet_more (xl _) | exact Calls.quiet_of_same (xl _)) | (go_at_call_of 15 (Value.complex .f64 b1 b2); first | exact quiet_more (xh _) | exact Calls.quiet_of_same (xh _)))
            go_wp2_with (first | (go_at_call_of 15 (Value.complex .f64 p1 p2); refine (xp _).mono ?_; rintro e w' ⟨rfl, rfl⟩) | (go_at_call_of 15 (Value.complex .f64 a1 a2); refine (xl _).mono ?_; rintro e w' ⟨rfl, rfl⟩) | (go_at_call_of 15 (Value.complex .f64 b1 b2); refine (xh _).mono ?_; rintro e w' ⟨rfl, rfl⟩) | (go_at_call_of 16 (Value.complex .f64 p1 p2); refine (yp _).mono ?_; rintro e w' ⟨rfl, rfl⟩) | (go_at_call_of 16 (Value.complex .f64 a1 a2); refine (yl _).mono ?_; rintro e w' ⟨rfl, rfl⟩) | (go_at_call_of 16 (Value.complex .f64 b1 b2); refine (yh _).mono ?_; rintro e w' ⟨rfl, rfl⟩))
            go_big_quiet (first | (go_at_call_of 15 (Value.complex .f64 p1 p2); first | exact quiet_more (xp _) | exact Calls.quiet_of_same (xp _)) | (go_at_call_of 15 (Value.complex .f64 a1 a2); first | exact quiet_more (xl _) | exact Calls.quiet_of_same (xl _)) | (go_at_call_of 15 (Value.complex .f64 b1 b2); first | exact quiet_more (xh _) | exact Calls.quiet_of_same (xh _)))
            go_wp2_with (first | (go_at_call_of 15 (Value.complex .f64 p1 p2); refine (xp _).mono ?_; rintro e w' ⟨rfl, rfl⟩) | (go_at_call_of 15 (Value.complex .f64 a1 a2); refine (xl _).mono ?_; rintro e w' ⟨rfl, rfl⟩) | (go_at_call_of 15 (Value.complex .f64 b1 b2); refine (xh _).mono ?_; rintro e w' ⟨rfl, rfl⟩) | (go_at_call_of 16 (Value.complex .f64 p1 p2); refine (yp _).mono ?_; rintro e w' ⟨rfl, rfl⟩) | (go_at_call_of 16 (Value.complex .f64 a1 a2); refine (yl _).mono ?_; rintro e w' ⟨rfl, rfl⟩) | (go_at_call_of 16 (Value.complex .f64 b1 b2); refine (yh _).mono ?_; rintro e w' ⟨rfl, rfl⟩))
            go_big_quiet (first | (go_at_call_of 16 (Value.complex .f64 p1 p2); first | exact quiet_more (yp _) | exact Calls.quiet_of_same (yp _)) | (go_at_call_of 16 (Value.complex .f64 a1 a2); first | exact quiet_more (yl _) | exact Calls.quiet_of_same (yl _)) | (go_at_call_of 16 (Value.complex .f64 b1 b2); first | exact quiet_more (yh _) | exact Calls.quiet_of_same (yh _)))
            go_wp2_with (first | (go_at_call_of 15 (Value.complex .f64 p1 p2); refine (xp _).mono ?_; rintro e w' ⟨rfl, rfl⟩) | (go_at_call_of 15 (Value.complex .f64 a1 a2); refine (xl _).mono ?_; rintro e w' ⟨rfl, rfl⟩) | (go_at_call_of 15 (Value.complex .f64 b1 b2); refine (xh _).mono ?_; rintro e w' ⟨rfl, rfl⟩) | (go_at_call_of 16 (Value.complex .f64 p1 p2); refine (yp _).mono ?_; rintro e w' ⟨rfl, rfl⟩) | (go_at_call_of 16 (Value.complex .f64 a1 a2); refine (yl _).mono ?_; rintro e w' ⟨rfl, rfl⟩) | (go_at_call_of 16 (Value.complex .f64 b1 b2); refine (yh _).mono ?_; rintro e w' ⟨rfl, rfl⟩))
            go_big_quiet (first | (go_at_call_of 16 (Value.complex .f64 p1 p2); first | exact quiet_more (yp _) | exact Calls.quiet_of_same (yp _)) | (go_at_call_of 16 (Value.complex .f64 a1 a2); first | exact quiet_more (yl _) | exact Calls.quiet_of_same (yl _)) | (go_at_call_of 16 (Value.complex .f64 b1 b2); first | exact quiet_more (yh _) | exact Calls.quiet_of_same (yh _)))
            go_wp2_with (first | (go_at_call_of 15 (Value.complex .f64 p1 p2); refine (xp _).mono ?_; rintro e w' ⟨rfl, rfl⟩) | (go_at_call_of 15 (Value.complex .f64 a1 a2); refine (xl _).mono ?_; rintro e w' ⟨rfl, rfl⟩) | (go_at_call_of 15 (Value.complex .f64 b1 b2); refine (xh _).mono ?_; rintro e w' ⟨rfl, rfl⟩) | (go_at_call_of 16 (Value.complex .f64 p1 p2); refine (yp _).mono ?_; rintro e w' ⟨rfl, rfl⟩) | (go_at_call_of 16 (Value.complex .f64 a1 a2); refine (yl _).mono ?_; rintro e w' ⟨rfl, rfl⟩) | (go_at_call_of 16 (Value.complex .f64 b1 b2); refine (yh _).mono ?_; rintro e w' ⟨rfl, rfl⟩))
            go_big_quiet (first | (go_at_call_of 16 (Value.complex .f64 p1 p2); first | exact quiet_more (yp _) | exact Calls.quiet_of_same (yp _)) | (go_at_call_of 16 (Value.complex .f64 a1 a2); first | exact quiet_more (yl _) | exact Calls.quiet_of_same (yl _)) | (go_at_call_of 16 (Value.complex .f64 b1 b2); first | exact quiet_more (yh _) | exact Calls.quiet_of_same (yh _)))
            go_wp2_with (first | (go_at_call_of 15 (Value.complex .f64 p1 p2); refine (xp _).mono ?_; rintro e w' ⟨rfl, rfl⟩) | (go_at_call_of 15 (Value.complex .f64 a1 a2); refine (xl _).mono ?_; rintro e w' ⟨rfl, rfl⟩) | (go_at_call_of 15 (Value.complex .f64 b1 b2); refine (xh _).mono ?_; rintro e w' ⟨rfl, rfl⟩) | (go_at_call_of 16 (Value.complex .f64 p1 p2); refine (yp _).mono ?_; rintro e w' ⟨rfl, rfl⟩) | (go_at_call_of 16 (Value.complex .f64 a1 a2); refine (yl _).mono ?_; rintro e w' ⟨rfl, rfl⟩) | (go_at_call_of 16 (Value.complex .f64 b1 b2); refine (yh _).mono ?_; rintro e w' ⟨rfl, rfl⟩))
            go_ret
            exact ⟨ret_int (fin1' B.out.2.2.2 G.out), hbel _ _⟩
        · as_aux_lemma =>
            have ey : gap py ly hy = 0 := by unfold gap; rw [if_neg g3, if_neg g4]
            have G : Hid (d = (0) * (0) + (0) * (0)) := by have := G0.out; rw [ex, ey] at this; exact this
            clear G0 ex ey
            go_enter Try.func24, Try.ntmps24
            go_wp2_with fail
            go_big_quiet (first | (go_at_call_of 15 (Value.complex .f64 p1 p2); first | exact quiet_more (xp _) | exact Calls.quiet_of_same (xp _)) | (go_at_call_of 15 (Value.complex .f64 a1 a2); first | exact quiet_more (xl _) | exact Calls.quiet_of_same (xl _)) | (go_at_call_of 15 (Value.complex .f64 b1 b2); first | exact quiet_more (xh _) | exact Calls.quiet_of_same (xh _)))
            go_wp2_with (first | (go_at_call_of 15 (Value.complex .f64 p1 p2); refine (xp _).mono ?_; rintro e w' ⟨rfl, rfl⟩) | (go_at_call_of 15 (Value.complex .f64 a1 a2); refine (xl _).mono ?_; rintro e w' ⟨rfl, rfl⟩) | (go_at_call_of 15 (Value.complex .f64 b1 b2); refine (xh _).mono ?_; rintro e w' ⟨rfl, rfl⟩) | (go_at_call_of 16 (Value.complex .f64 p1 p2); refine (yp _).mono ?_; rintro e w' ⟨rfl, rfl⟩) | (go_at_call_of 16 (Value.complex .f64 a1 a2); refine (yl _).mono ?_; rintro e w' ⟨rfl, rfl⟩) | (go_at_call_of 16 (Value.complex .f64 b1 b2); refine (yh _).mono ?_; rintro e w' ⟨rfl, rfl⟩))
            go_big_quiet (first | (go_at_call_of 15 (Value.complex .f64 p1 p2); first | exact quiet_more (xp _) | exact Calls.quiet_of_same (xp _)) | (go_at_call_of 15 (Value.complex .f64 a1 a2); first | exact quiet_more (xl _) | exact Calls.quiet_of_same (xl _)) | (go_at_call_of 15 (Value.complex .f64 b1 b2); first | exact quiet_more (xh _) | exact Calls.quiet_of_same (xh _)))
            go_wp2_with (first | (go_at_call_of 15 (Value.complex .f64 p1 p2); refine (xp _).mono ?_; rintro e w' ⟨rfl, rfl⟩) | (go_at_call_of 15 (Value.complex .f64 a1 a2); refine (xl _).mono ?_; rintro e w' ⟨rfl, rfl⟩) | (go_at_call_of 15 (Value.complex .f64 b1 b2); refine (xh _).mono ?_; rintro e w' ⟨rfl, rfl⟩) | (go_at_call_of 16 (Value.complex .f64 p1 p2); refine (yp _).mono ?_; rintro e w' ⟨rfl, rfl⟩) | (go_at_call_of 16 (Value.complex .f64 a1 a2); refine (yl _).mono ?_; rintro e w' ⟨rfl, rfl⟩) | (go_at_call_of 16 (Value.complex .f64 b1 b2); refine (yh _).mono ?_; rintro e w' ⟨rfl, rfl⟩))
            go_big_quiet (first | (go_at_call_of 16 (Value.complex .f64 p1 p2); first | exact quiet_more (yp _) | exact Calls.quiet_of_same (yp _)) | (go_at_call_of 16 (Value.complex .f64 a1 a2); first | exact quiet_more (yl _) | exact Calls.quiet_of_same (yl _)) | (go_at_call_of 16 (Value.complex .f64 b1 b2); first | exact quiet_more (yh _) | exact Calls.quiet_of_same (yh _)))
            go_wp2_with (first | (go_at_call_of 15 (Value.complex .f64 p1 p2); refine (xp _).mono ?_; rintro e w' ⟨rfl, rfl⟩) | (go_at_call_of 15 (Value.complex .f64 a1 a2); refine (xl _).mono ?_; rintro e w' ⟨rfl, rfl⟩) | (go_at_call_of 15 (Value.complex .f64 b1 b2); refine (xh _).mono ?_; rintro e w' ⟨rfl, rfl⟩) | (go_at_call_of 16 (Value.complex .f64 p1 p2); refine (yp _).mono ?_; rintro e w' ⟨rfl, rfl⟩) | (go_at_call_of 16 (Value.complex .f64 a1 a2); refine (yl _).mono ?_; rintro e w' ⟨rfl, rfl⟩) | (go_at_call_of 16 (Value.complex .f64 b1 b2); refine (yh _).mono ?_; rintro e w' ⟨rfl, rfl⟩))
            go_big_quiet (first | (go_at_call_of 16 (Value.complex .f64 p1 p2); first | exact quiet_more (yp _) | exact Calls.quiet_of_same (yp _)) | (go_at_call_of 16 (Value.complex .f64 a1 a2); first | exact quiet_more (yl _) | exact Calls.quiet_of_same (yl _)) | (go_at_call_of 16 (Value.complex .f64 b1 b2); first | exact quiet_more (yh _) | exact Calls.quiet_of_same (yh _)))
            go_wp2_with (first | (go_at_call_of 15 (Value.complex .f64 p1 p2); refine (xp _).mono ?_; rintro e w' ⟨rfl, rfl⟩) | (go_at_call_of 15 (Value.complex .f64 a1 a2); refine (xl _).mono ?_; rintro e w' ⟨rfl, rfl⟩) | (go_at_call_of 15 (Value.complex .f64 b1 b2); refine (xh _).mono ?_; rintro e w' ⟨rfl, rfl⟩) | (go_at_call_of 16 (Value.complex .f64 p1 p2); refine (yp _).mono ?_; rintro e w' ⟨rfl, rfl⟩) | (go_at_call_of 16 (Value.complex .f64 a1 a2); refine (yl _).mono ?_; rintro e w' ⟨rfl, rfl⟩) | (go_at_call_of 16 (Value.complex .f64 b1 b2); refine (yh _).mono ?_; rintro e w' ⟨rfl, rfl⟩))
            go_ret
            exact ⟨ret_int (G.out.symm), hbel _ _⟩

/-- How far the law says that a box is. -/
def lawD (p lo hi : Q) : Int := gap (qx p) (qx lo) (qx hi) * gap (qx p) (qx lo) (qx hi) + gap (qy p) (qy lo) (qy hi) * gap (qy p) (qy lo) (qy hi)

theorem distance_any (p lo hi : Q) (w : World) :
    Calls Try.prog 24 #[qe p, .agg #[qe lo, qe hi]] w fun e w' => e = .returned (.int .i64 (lawD p lo hi)) ∧ Below w.heap.size w w' := by
  have a1 := qx_bd p
  have a2 := qy_bd p
  have b1 := qx_bd lo
  have b2 := qy_bd lo
  have c1 := qx_bd hi
  have c2 := qy_bd hi
  exact distance_core _ _ _ _ _ _ (qx p) (qy p) (qx lo) (qy lo) (qx hi) (qy hi) _ w (fun w => qX_any p w) (fun w => qX_any lo w) (fun w => qX_any hi w) (fun w => qY_any p w) (fun w => qY_any lo w) (fun w => qY_any hi w)
    (by rw [IntKind.wrap_i64]; omega) (by rw [IntKind.wrap_i64]; omega) (by rw [IntKind.wrap_i64]; omega) (by rw [IntKind.wrap_i64]; omega) ⟨by omega, by omega, by omega, by omega⟩ rfl

/-- Where the box is one, the law and the program tell the same. -/
theorem lawD_eq (p lo hi : Q) (h1 : qx lo ≤ qx hi) (h2 : qy lo ≤ qy hi) : lawD p lo hi = distQ p lo hi := by
  unfold lawD distQ clampQ gap
  rw [qx_min, qx_max, qy_min, qy_max]
  have key : ∀ (p l h : Int), l ≤ h → (if p < l then l - p else if h < p then p - h else 0) * (if p < l then l - p else if h < p then p - h else 0) = (min (max p l) h - p) * (min (max p l) h - p) := by
    intro p l h hl
    by_cases e1 : p < l
    · rw [if_pos e1, show min (max p l) h - p = l - p by omega]
    · rw [if_neg e1]
      by_cases e2 : h < p
      · rw [if_pos e2, show min (max p l) h - p = -(p - h) by omega, Int.neg_mul_neg]
      · rw [if_neg e2, show min (max p l) h - p = 0 by omega]
  rw [key _ _ _ h1, key _ _ _ h2]
end Go.Proofs.Ytnlkalbkjocoaaa
