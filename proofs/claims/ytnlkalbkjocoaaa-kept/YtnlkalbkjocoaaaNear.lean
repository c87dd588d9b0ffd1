/-
  What Near answers.
-/
import Derived.Test.YtnlkalbkjocoaaaNrst
namespace Go.Proofs.Ytnlkalbkjocoaaa
open Go.Shelf Go.RowKit

/-- What Near answers: the ids, in new memory, and no error. -/
def NearAns2 (w w' : World) (ids : List Nat) (e : Ending) : Prop := ∃ v, e = .returned (.tuple #[v, .int .i64 0]) ∧ w'.ownsRow w.heap.size 3 1 v ids.length (ids.map fun i : Nat => .int .i64 (i : Int)) ∧ Below w.heap.size w w'

set_option maxHeartbeats 400000 in
theorem near_any (w : World) (p : Q) (bv n : Nat) (r : Option Nat) (g : Nat → Option Nat) (V : Nat → Q × Q) (hS : ShelfAt w bv r g) (hV : ∀ i k, i < 1000 → g i = some k → NearR w V (i, k)) (hn : n ≤ 100) (L : List D) (HL : Hid (L = dsOf p V (allItems g hV))) :
    Calls Try.prog 25 #[.pointer (some ⟨bv, 0, none⟩), qe p, .int .i64 n] w fun e w' => NearAns2 w w' (((sortL L).take n).map fun d => d.2.val) e := by
  have c1 := isPoint_any (qc p) (qre_small p) (qim_small p) w
  have e1 : C.within 1048576 (qc p) = true := by
    have := qc_lim p; unfold C.within; unfold C.lim at this; simp [this]
  rw [e1] at c1
  have c2 := nearest_any w p bv n r g V hS hV hn L HL
  have h1 : ¬ (n : Int) < 0 := by omega
  have h2 : ¬ (100 : Int) < (n : Int) := by omega
  clear HL hS e1
  generalize ((sortL L).take n).map (fun d : D => d.2.val) = ids at c2 ⊢
  change Calls Try.prog 34 #[qe p] w _ at c1
  generalize qe p = pe at *
  go_enter Try.func25, Try.ntmps25
  go_wp2_with (first | (go_at_call 34; refine c1.mono ?_; rintro e w' ⟨rfl, rfl⟩) | (go_at_call 47; refine c2.mono ?_; rintro e w' ⟨v, rfl, hO, hB⟩))
  go_ret2
  exact ⟨v, rfl, hO, hB⟩
end Go.Proofs.Ytnlkalbkjocoaaa
