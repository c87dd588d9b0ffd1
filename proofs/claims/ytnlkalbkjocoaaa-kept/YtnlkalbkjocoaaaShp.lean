/-
  Kept shapes: their corners and boxes.
-/
import Derived.Test.YtnlkalbkjocoaaaLays
import Derived.Test.YtnlkalbkjocoaaaBox
namespace Go.Proofs.Ytnlkalbkjocoaaa
open Go.Shelf Go.RowKit

/-- A kept shape in block s, with its box. -/
def ShapeAt (w : World) (s : Nat) (V : Q × Q) : Prop := ∃ c : Value, w.heap[s]? = some (.cells #[c, qe V.1, qe V.2] 125)

/-- A kept shape in block s, with its corners and its box. -/
def ShapeHas (w : World) (s : Nat) (l : List Q) (V : Q × Q) : Prop := ∃ (gc cap : Nat) (cur : Array Value), w.heap[s]? = some (.cells #[.slice (some ⟨gc, 0, none⟩) l.length cap, qe V.1, qe V.2] 125) ∧
  w.heap[gc]? = some (.cells cur 26) ∧ l.length ≤ cap ∧ ∀ k (h : k < l.length), cur[k]? = some (qe l[k])
theorem ShapeHas.box {w : World} {s : Nat} {l : List Q} {V : Q × Q} (h : ShapeHas w s l V) : ShapeAt w s V := by
  obtain ⟨gc, cap, cur, h1, -⟩ := h; exact ⟨_, h1⟩

theorem ShapeAt.lt {w : World} {s : Nat} {V : Q × Q} (h : ShapeAt w s V) : s < w.heap.size := by
  obtain ⟨c, h⟩ := h; exact (Array.getElem?_eq_some_iff.1 h).1
theorem ShapeAt.kept {w w' : World} {s : Nat} {V : Q × Q} (h : ShapeAt w s V) (hw : w'.heap[s]? = w.heap[s]?) : ShapeAt w' s V := by
  obtain ⟨c, h⟩ := h; exact ⟨c, hw.trans h⟩

set_option maxRecDepth 100000 in
set_option maxHeartbeats 400000 in
theorem box_any (w : World) (s : Nat) (V : Q × Q) (h : ShapeAt w s V) :
    Calls Try.prog 69 #[.pointer (some ⟨s, 0, none⟩)] w fun e w' => e = .returned (.agg #[qe V.1, qe V.2]) ∧ Below w.heap.size w w' := by
  obtain ⟨c, h⟩ := h
  have hlt : s < w.heap.size := (Array.getElem?_eq_some_iff.1 h).1
  have c1 : ∀ o, (w.alloc o).cell? ⟨s, 1, none⟩ = some (qe V.1) := fun o => by rw [World.cell?_alloc_lt _ _ _ hlt, cell_of_row w s 1 _ _ _ h]; rfl
  have c2 : ∀ o, (w.alloc o).cell? ⟨s, 2, none⟩ = some (qe V.2) := fun o => by rw [World.cell?_alloc_lt _ _ _ hlt, cell_of_row w s 2 _ _ _ h]; rfl
  obtain ⟨a1, a2, ha⟩ : ∃ a1 a2, qe V.1 = .complex .f64 a1 a2 := ⟨_, _, rfl⟩
  obtain ⟨b1, b2, hb⟩ : ∃ b1 b2, qe V.2 = .complex .f64 b1 b2 := ⟨_, _, rfl⟩
  rw [ha] at c1 ⊢
  rw [hb] at c2 ⊢
  clear ha hb h
  have hst := store_complex
  go_enter Try.func69, Try.ntmps69
  go_wp2
  refine bodyPost_ret (v := .agg #[.complex .f64 a1 a2, .complex .f64 b1 b2]) (by simp [results, Try.results69, go_sem]) rfl ⟨rfl, ?_⟩
  exact (Below.refl _ _).alloc (Nat.le_refl _) _

end Go.Proofs.Ytnlkalbkjocoaaa
