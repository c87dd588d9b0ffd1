/-
  The lesser and the greater parts of two points, and how far a box is from a place.
-/
import Derived.Test.YtnlkalbkjocoaaaPts
import Derived.BigQuiet
namespace Go.Proofs.Ytnlkalbkjocoaaa
open Go.Shelf Go.RowKit

/-- The cells hold the points s. -/
def At (w : World) (b off : Nat) (s : List Q) : Prop := ∀ k (h : k < s.length), w.cell? ⟨b, off + k, none⟩ = some (qe s[k])
theorem At.below {w w' : World} {b off : Nat} {s : List Q} (h : At w b off s) (hb : Below w.heap.size w w') (hlt : b < w.heap.size) : At w' b off s := by
  intro k hk; rw [hb.cell (p := ⟨b, off + k, none⟩) hlt]; exact h k hk

theorem order_of (a b : Int) (ha : -1048576 ≤ a ∧ a ≤ 1048576) (hb : -1048576 ≤ b ∧ b ≤ 1048576) : FloatKind.f64.format.order (Z.of a).bits (Z.of b).bits = some (compare a b) := by
  have := Z.order_bits (Z.of a) (Z.of b) (Z.small_of (by rw [Z.val_of]; omega)) (Z.small_of (by rw [Z.val_of]; omega))
  rw [Z.val_of, Z.val_of] at this
  exact this

theorem run_min_of (a b : Int) (ha : -1048576 ≤ a ∧ a ≤ 1048576) (hb : -1048576 ≤ b ∧ b ≤ 1048576) (ts : Array TypeId) (t : TypeId) (w : World) :
    (Builtin.min_ ts t #[.float .f64 (Z.of a).bits, .float .f64 (Z.of b).bits]).run Try.prog w = .ok (.float .f64 (Z.of (min a b)).bits) w := by
  have ho := order_of a b ha hb
  rw [Z.cmp_int] at ho
  by_cases h1 : a < b
  · rw [if_pos h1] at ho
    rw [(by omega : min a b = a)]
    simp [Builtin.min_, Builtin.min2, ho]
  · by_cases h2 : a = b
    · subst h2
      rw [if_neg h1, if_pos rfl] at ho
      rw [(by omega : min a a = a)]
      simp [Builtin.min_, Builtin.min2, ho]
    · rw [if_neg h1, if_neg h2] at ho
      rw [(by omega : min a b = b)]
      simp [Builtin.min_, Builtin.min2, ho]

theorem run_max_of (a b : Int) (ha : -1048576 ≤ a ∧ a ≤ 1048576) (hb : -1048576 ≤ b ∧ b ≤ 1048576) (ts : Array TypeId) (t : TypeId) (w : World) :
    (Builtin.max_ ts t #[.float .f64 (Z.of a).bits, .float .f64 (Z.of b).bits]).run Try.prog w = .ok (.float .f64 (Z.of (max a b)).bits) w := by
  have ho := order_of a b ha hb
  rw [Z.cmp_int] at ho
  by_cases h1 : a < b
  · rw [if_pos h1] at ho
    rw [(by omega : max a b = b)]
    simp [Builtin.max_, Builtin.max2, ho]
  · by_cases h2 : a = b
    · subst h2
      rw [if_neg h1, if_pos rfl] at ho
      rw [(by omega : max a a = a)]
      simp [Builtin.max_, Builtin.max2, ho]
    · rw [if_neg h1, if_neg h2] at ho
      rw [(by omega : max a b = a)]
      simp [Builtin.max_, Builtin.max2, ho]

/-- The least and the greatest parts. -/
def qmin (a b : Q) : Q := (if b.1.val < a.1.val then b.1 else a.1, if b.2.val < a.2.val then b.2 else a.2)
def qmax (a b : Q) : Q := (if a.1.val < b.1.val then b.1 else a.1, if a.2.val < b.2.val then b.2 else a.2)
theorem qx_min (a b : Q) : qx (qmin a b) = min (qx a) (qx b) := by unfold qmin qx; simp only; split <;> omega
theorem qy_min (a b : Q) : qy (qmin a b) = min (qy a) (qy b) := by unfold qmin qy; simp only; split <;> omega
theorem qx_max (a b : Q) : qx (qmax a b) = max (qx a) (qx b) := by unfold qmax qx; simp only; split <;> omega
theorem qy_max (a b : Q) : qy (qmax a b) = max (qy a) (qy b) := by unfold qmax qy; simp only; split <;> omega
theorem qe_eq (a : Q) : qe a = .complex .f64 (Z.of (qx a)).bits (Z.of (qy a)).bits := rfl

set_option maxHeartbeats 400000 in
theorem lesser_any (a b : Q) (w : World) : Calls Try.prog 72 #[qe a, qe b] w fun e w' => e = .returned (qe (qmin a b)) ∧ w' = w := by
  have m1 := run_min_of (qx a) (qx b) (qx_bd a) (qx_bd b)
  have m2 := run_min_of (qy a) (qy b) (qy_bd a) (qy_bd b)
  rw [← qx_min] at m1
  rw [← qy_min] at m2
  rw [qe_eq, qe_eq, qe_eq]
  generalize (Z.of (qx a)).bits = a1 at *
  generalize (Z.of (qy a)).bits = a2 at *
  generalize (Z.of (qx b)).bits = b1 at *
  generalize (Z.of (qy b)).bits = b2 at *
  generalize (Z.of (qx (qmin a b))).bits = r1 at *
  generalize (Z.of (qy (qmin a b))).bits = r2 at *
  go_enter Try.func72, Try.ntmps72
  go_wp2
  go_ret
  exact ⟨rfl, rfl⟩

set_option maxHeartbeats 400000 in
theorem greater_any (a b : Q) (w : World) : Calls Try.prog 73 #[qe a, qe b] w fun e w' => e = .returned (qe (qmax a b)) ∧ w' = w := by
  have m1 := run_max_of (qx a) (qx b) (qx_bd a) (qx_bd b)
  have m2 := run_max_of (qy a) (qy b) (qy_bd a) (qy_bd b)
  rw [← qx_max] at m1
  rw [← qy_max] at m2
  rw [qe_eq, qe_eq, qe_eq]
  generalize (Z.of (qx a)).bits = a1 at *
  generalize (Z.of (qy a)).bits = a2 at *
  generalize (Z.of (qx b)).bits = b1 at *
  generalize (Z.of (qy b)).bits = b2 at *
  generalize (Z.of (qx (qmax a b))).bits = r1 at *
  generalize (Z.of (qy (qmax a b))).bits = r2 at *
  go_enter Try.func73, Try.ntmps73
  go_wp2
  go_ret
  exact ⟨rfl, rfl⟩
end Go.Proofs.Ytnlkalbkjocoaaa
