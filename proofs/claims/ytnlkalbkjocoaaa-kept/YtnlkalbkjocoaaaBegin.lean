/-
  The head of the laws: 'begin' answers true.
-/
import Derived.Test.YtnlkalbkjocoaaaTurn
namespace Go.Proofs.Ytnlkalbkjocoaaa
open Go.RowKit

/-- The square that 'begin' measures. -/
def sq : List C := [C.of 0 0, C.of 4 0, C.of 4 3, C.of 0 3]
theorem sq_lim : ∀ c ∈ sq, c.lim 1048576 := by
  intro c hc
  simp only [sq, List.mem_cons, List.not_mem_nil, or_false] at hc
  rcases hc with rfl | rfl | rfl | rfl <;> (unfold C.lim; simp only [C.X_of, C.Y_of]; omega)

def sqObj : Obj := .cells #[.complex .f64 0 0, .complex .f64 4616189618054758400 0, .complex .f64 4616189618054758400 4613937818241073152, .complex .f64 0 4613937818241073152] 26

theorem b0 : (Z.of 0).bits = 0 := by decide +kernel
theorem b1 : (Z.of 1).bits = 4607182418800017408 := by decide +kernel
theorem b3 : (Z.of 3).bits = 4613937818241073152 := by decide +kernel
theorem b4 : (Z.of 4).bits = 4616189618054758400 := by decide +kernel

theorem sq_lies (w : World) : Lies (w.alloc sqObj) w.heap.size 0 sq := by
  intro k hk
  rw [Nat.zero_add]
  unfold sqObj
  rw [World.cell?_alloc_at _ _ _ _ rfl]
  match k, hk with
  | 0, _ => simp [sq, C.of, b0]
  | 1, _ => simp [sq, C.of, b0, b4]
  | 2, _ => simp [sq, C.of, b3, b4]
  | 3, _ => simp [sq, C.of, b0, b3]
  | n + 4, h => exact absurd h (by simp [sq])

theorem sq_twice : twiceL sq (by decide) = 24 := by decide +kernel
theorem sq_winds : windsL (C.of 1 1) sq (by decide) = (1, false) := by decide +kernel
theorem sq_turned : areB (sq.map (C.move (C.of 0 1) (C.of 0 0))) = true := by decide +kernel
theorem sq_one : (C.move (C.of 0 1) (C.of 0 0) (C.of 4 0)).X = 0 ∧ (C.move (C.of 0 1) (C.of 0 0) (C.of 4 0)).Y = 4 := by decide +kernel

set_option maxHeartbeats 800000 in
theorem begin_any (w : World) : Calls Try.prog 8 #[] w fun e w' => e = .returned (.bool true) ∧ Below w.heap.size w w' := by
  have hb1 : ∀ o, Below w.heap.size w (w.alloc o) := fun o => (Below.refl _ _).alloc (Nat.le_refl _) _
  have c1 := twice_ok sq w.heap.size 0 4 (w.alloc sqObj) (sq_lies w) sq_lim (by decide) (by decide) (by decide)
  rw [sq_twice] at c1
  have c2 := winds_ok sq (C.of 1 1) w.heap.size 0 4 (w.alloc sqObj) (sq_lies w) sq_lim (by unfold C.lim; simp only [C.X_of, C.Y_of]; omega) (by decide) (by decide) (by decide)
  rw [sq_winds] at c2
  have c3 := apply_ok (C.of 0 1) (C.of 0 0) sq w.heap.size 0 4 (w.alloc sqObj) (by unfold C.lim; simp only [C.X_of, C.Y_of]; omega) (by unfold C.lim; simp only [C.X_of, C.Y_of]; omega) (sq_lies w) (by simp) sq_lim (by decide) (by decide) sq_turned
  have hlen : sq.length = 4 := rfl
  have e11 : (C.of 1 1).re.bits = 4607182418800017408 := b1
  have e11' : (C.of 1 1).im.bits = 4607182418800017408 := b1
  have e01 : (C.of 0 1).re.bits = 0 := b0
  have e01' : (C.of 0 1).im.bits = 4607182418800017408 := b1
  have e00 : (C.of 0 0).re.bits = 0 := b0
  have e00' : (C.of 0 0).im.bits = 0 := b0
  rw [hlen] at c1
  simp only [hlen, e11, e11'] at c2
  simp only [hlen, e01, e01', e00, e00', World.size_alloc] at c3
  clear e11 e11' e01 e01' e00 e00'
  unfold sqObj at c1 c2 c3
  go_enter Try.func8, Try.ntmps8
  go_wp2_with fail
  refine c1.mono ?_
  rintro e w' ⟨rfl, rfl⟩
  go_wp2_with fail
  refine c2.mono ?_
  rintro e w' ⟨rfl, rfl⟩
  go_wp2_with fail
  refine c3.mono ?_
  rintro e w' ⟨rfl, hbe, hli, hsz⟩
  have hcell := hli 1 (by simp [sq])
  rw [show (sq.map (C.move (C.of 0 1) (C.of 0 0)))[1]'(by simp [sq]) = C.move (C.of 0 1) (C.of 0 0) (C.of 4 0) from rfl] at hcell
  rw [Nat.zero_add] at hcell
  obtain ⟨g1, g2⟩ := sq_one
  have sm : (C.move (C.of 0 1) (C.of 0 0) (C.of 4 0)).lim 4 := by unfold C.lim; rw [g1, g2]; omega
  have q1 := Z.eq_bits (C.move (C.of 0 1) (C.of 0 0) (C.of 4 0)).re (Z.of 0) (C.small_re sm (by decide)) (by unfold Z.small; decide)
  have q2 := Z.eq_bits (C.move (C.of 0 1) (C.of 0 0) (C.of 4 0)).im (Z.of 4) (C.small_im sm (by decide)) (by unfold Z.small; decide)
  rw [Z.val_of, decide_eq_true (show (C.move (C.of 0 1) (C.of 0 0) (C.of 4 0)).re.val = 0 from g1), b0] at q1
  rw [Z.val_of, decide_eq_true (show (C.move (C.of 0 1) (C.of 0 0) (C.of 4 0)).im.val = 4 from g2), b4] at q2
  generalize C.move (C.of 0 1) (C.of 0 0) (C.of 4 0) = mm at hcell q1 q2
  clear g1 g2 sm hli
  go_wp2
  go_ret
  exact ⟨rfl, (hb1 _).trans (hbe.mono (by omega))⟩
end Go.Proofs.Ytnlkalbkjocoaaa
