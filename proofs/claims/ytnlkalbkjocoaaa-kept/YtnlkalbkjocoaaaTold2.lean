/-
  The lists that Near tells of one map, whatever the world it is asked in; the law's array of those that were told.
-/
import Derived.Test.YtnlkalbkjocoaaaLawSt
namespace Go.Proofs.Ytnlkalbkjocoaaa
open Go.Shelf Go.RowKit

def dN (p : Q) (V : Nat → Q × Q) (i : Nat) : D := if h : i < 1000 then dOf p V i h else (⟨0, by omega⟩, ⟨0, by omega⟩)
/-- All distances, by ids. -/
def LL (p : Q) (g : Nat → Option Nat) (V : Nat → Q × Q) : List D := ((List.range 1000).filter fun i => (g i).isSome).map (dN p V)
theorem ds_eq {w : World} (p : Q) (g : Nat → Option Nat) (V : Nat → Q × Q) (hV : ∀ i k, i < 1000 → g i = some k → NearR w V (i, k)) : LL p g V = dsOf p V (allItems g hV) := by
  unfold LL
  rw [← items_ids g hV 1000 (Nat.le_refl _), allItems_eq, List.map_map]
  unfold dsOf
  apply List.map_congr_left
  intro x _
  show dN p V x.1.1 = _
  unfold dN
  rw [dif_pos x.2.1]
/-- The ids, the nearest first. -/
noncomputable def allL (p : Q) (g : Nat → Option Nat) (V : Nat → Q × Q) : List Nat := Classical.choose (⟨(sortL (LL p g V)).map fun d => d.2.val, rfl⟩ : ∃ l, l = (sortL (LL p g V)).map fun d => d.2.val)
theorem allL_eq (p : Q) (g : Nat → Option Nat) (V : Nat → Q × Q) : allL p g V = (sortL (LL p g V)).map fun d => d.2.val := Classical.choose_spec (⟨(sortL (LL p g V)).map fun d => d.2.val, rfl⟩ : ∃ l, l = (sortL (LL p g V)).map fun d => d.2.val)

theorem hasV {w : World} {bm bv : Nat} {r : Option Nat} {g : Nat → Option Nat} {V : Nat → Q × Q} (h : MapHas w bm bv r g V) : ∀ i k, i < 1000 → g i = some k → NearR w V (i, k) := fun i k hi e => ⟨hi, (h.shapes i k e).2⟩

theorem allL_ok {w : World} {bm bv : Nat} {r : Option Nat} {g : Nat → Option Nat} {V : Nat → Q × Q} (h : MapHas w bm bv r g V) (p : Q) (out : ∀ i, 30 ≤ i → g i = none) : AllOk p g V (allL p g V) := by
  rw [allL_eq, ds_eq p g V (hasV h)]; exact all_ok p g V (hasV h) out

theorem near_map {w : World} {bm bv : Nat} {r : Option Nat} {g : Nat → Option Nat} {V : Nat → Q × Q} (h : MapHas w bm bv r g V) (p : Q) (n : Nat) (hn : n ≤ 100) :
    Calls Try.prog 25 #[.pointer (some ⟨bv, 0, none⟩), qe p, .int .i64 n] w fun e w' => NearAns2 w w' ((allL p g V).take n) e := by
  have := near_any w p bv n r g V h.map.shelf (hasV h) hn (LL p g V) (ds_eq p g V (hasV h))
  rw [List.map_take, ← allL_eq] at this
  exact this
theorem count_map {w : World} {bm bv : Nat} {r : Option Nat} {g : Nat → Option Nat} {V : Nat → Q × Q} (h : MapHas w bm bv r g V) (p : Q) :
    Calls Try.prog 26 #[.pointer (some ⟨bv, 0, none⟩)] w fun e w' => e = .returned (.int .i64 ((allL p g V).length : Int)) ∧ Below w.heap.size w w' := by
  have := count_any w bv r g h.map.shelf
  rw [count_len p g V (hasV h), ← ds_eq p g V (hasV h), ← allL_eq] at this
  exact this

/-- A slice of numbers of the call's own, as a walk wants it. -/
theorem own_list {w : World} {base : Nat} {v : Value} {l : List Nat} (h : w.ownsRow base 3 1 v l.length (l.map fun i : Nat => .int .i64 (i : Int))) :
    ∃ (A : Option Addr) (gb cap : Nat), v = .slice A l.length cap ∧ (0 < l.length → A = some ⟨gb, 0, none⟩ ∧ gb < w.heap.size) ∧ l.length ≤ cap ∧ ∀ j (hj : j < l.length), w.cell? ⟨gb, j, none⟩ = some (.int .i64 (l[j] : Int)) := by
  rcases h.2 with ⟨rfl, h0⟩ | ⟨g, cap, cur, rfl, -, hg, hc, -, -, ht⟩
  · refine ⟨none, 0, 0, by rw [h0], fun h1 => by omega, by omega, fun j hj => by omega⟩
  · refine ⟨_, g, cap, rfl, fun _ => ⟨rfl, (Array.getElem?_eq_some_iff.1 hg).1⟩, hc, fun j hj => ?_⟩
    rw [cell_of_row w g j _ _ _ hg]
    have h1 := congrArg (fun l => l[j]?) ht
    simp only [List.getElem?_take, Nat.mul_one] at h1
    rw [if_pos hj] at h1
    rw [← Array.getElem?_toList, h1, List.getElem?_map, List.getElem?_eq_getElem hj]; rfl

theorem own_take {w : World} {base kk : Nat} {v : Value} {l : List Nat} (h : w.ownsRow base 3 1 v (l.take kk).length ((l.take kk).map fun i : Nat => .int .i64 (i : Int))) :
    ∃ (m1 : Nat) (A : Option Addr) (gb cap : Nat), m1 = min kk l.length ∧ v = .slice A m1 cap ∧ (0 < m1 → A = some ⟨gb, 0, none⟩ ∧ gb < w.heap.size) ∧ m1 ≤ cap ∧ ∀ j (_ : j < m1) (hj : j < l.length), w.cell? ⟨gb, j, none⟩ = some (.int .i64 (l[j] : Int)) := by
  obtain ⟨A, gb, cap, hv, hA, hc, hcell⟩ := own_list h
  refine ⟨(l.take kk).length, A, gb, cap, by simp, hv, hA, hc, fun j h1 h2 => ?_⟩
  rw [hcell j h1, List.getElem_take]

/-- Those that were told. -/
def toldC (l : List Nat) : List Value := (List.range 30).map fun i => .bool (decide (i ∈ l))
theorem told_cell {w : World} {bd : Nat} {l : List Nat} (h : w.heap[bd]? = some (.cells (toldC l).toArray 55)) (i : Nat) (hi : i < 30) : w.cell? ⟨bd, i, none⟩ = some (.bool (decide (i ∈ l))) ∧ w.frozen? ⟨bd, i, none⟩ = false := by
  refine ⟨?_, by simp [World.frozen?, h]⟩
  rw [cell_of_row w bd i _ _ _ h, List.getElem?_toArray]
  unfold toldC; rw [List.getElem?_map, List.getElem?_range hi]; rfl
theorem told_step {w : World} {bd : Nat} {l : List Nat} (h : w.heap[bd]? = some (.cells (toldC l).toArray 55)) (i : Nat) : (w.setCell ⟨bd, i, none⟩ (.bool true)).heap[bd]? = some (.cells (toldC (l ++ [i])).toArray 55) := by
  rw [heap_setCell_same _ h, List.setIfInBounds_toArray]
  have := range_set 30 (fun j => .bool (decide (j ∈ l))) (fun j => .bool (decide (j ∈ l ++ [i]))) i (fun j hj => by simp [hj])
  unfold toldC
  rw [← this]
  simp
theorem told_all {p : Q} {g : Nat → Option Nat} {V : Nat → Q × Q} {l : List Nat} (h : AllOk p g V l) : toldC l = thereC g := by
  unfold toldC thereC
  apply List.map_congr_left
  intro i _
  have := h.mem i
  cases hg : (g i).isSome <;> simp [this, hg]
end Go.Proofs.Ytnlkalbkjocoaaa
