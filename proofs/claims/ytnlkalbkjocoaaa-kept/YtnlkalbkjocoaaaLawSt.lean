/-
  What the law Nearest keeps while it lays shapes down.
-/
import Derived.Test.YtnlkalbkjocoaaaTold
namespace Go.Proofs.Ytnlkalbkjocoaaa
open Go.Shelf Go.RowKit

/-- The law's two arrays. -/
def thereC (g : Nat → Option Nat) : List Value := (List.range 30).map fun i => .bool (g i).isSome
def farC (p : Q) (g : Nat → Option Nat) (V : Nat → Q × Q) : List Value := (List.range 30).map fun i => .int .i64 (if (g i).isSome then farF p V i else 0)

structure LawAt (w wr : World) (p : Q) (bm bf bt bv : Nat) (r : Option Nat) (g : Nat → Option Nat) (V : Nat → Q × Q) : Prop where
  map : MapHas wr bm bv r g V
  far : wr.heap[bf]? = some (.cells (farC p g V).toArray 54)
  there : wr.heap[bt]? = some (.cells (thereC g).toArray 55)
  out : ∀ i, 30 ≤ i → g i = none
  below : Below w.heap.size w wr
  gm : w.heap.size ≤ bm
  gf : w.heap.size ≤ bf
  gt : w.heap.size ≤ bt

variable {w wr w' : World} {p : Q} {bm bf bt bv : Nat} {r : Option Nat} {g : Nat → Option Nat} {V : Nat → Q × Q}

theorem LawAt.lt_f (h : LawAt w wr p bm bf bt bv r g V) : bf < wr.heap.size := (Array.getElem?_eq_some_iff.1 h.far).1
theorem LawAt.lt_t (h : LawAt w wr p bm bf bt bv r g V) : bt < wr.heap.size := (Array.getElem?_eq_some_iff.1 h.there).1
theorem LawAt.mf (h : LawAt w wr p bm bf bt bv r g V) : bf ≠ bm := by obtain ⟨c, hc, -⟩ := h.map.map.cell; exact ne_of_type h.far hc (by decide)
theorem LawAt.mt (h : LawAt w wr p bm bf bt bv r g V) : bt ≠ bm := by obtain ⟨c, hc, -⟩ := h.map.map.cell; exact ne_of_type h.there hc (by decide)

theorem LawAt.go (h : LawAt w wr p bm bf bt bv r g V) (hb : Below wr.heap.size wr w') : LawAt w w' p bm bf bt bv r g V :=
  ⟨h.map.below hb, (hb.block _ h.lt_f).trans h.far, (hb.block _ h.lt_t).trans h.there, h.out, h.below.trans (hb.mono h.below.size), h.gm, h.gf, h.gt⟩

/-- The map stands as it stood where other blocks than its own were turned. -/
theorem MapHas.kept (h : MapHas wr bm bv r g V) (hs : wr.heap.size ≤ w'.heap.size) (hk : ∀ (j : Nat) (c : Array Value) (t : TypeId), wr.heap[j]? = some (Obj.cells c t) → (t = 67 ∨ t = 96 ∨ t = 150 ∨ t = 153 ∨ t = 125) → w'.heap[j]? = wr.heap[j]?) : MapHas w' bm bv r g V :=
  ⟨⟨by obtain ⟨c, h1, h2⟩ := h.map.cell; exact ⟨c, (hk _ _ _ h1 (.inl rfl)).trans h1, h2⟩, h.map.shelf.kept (by obtain ⟨ro, h1, -⟩ := h.map.shelf.view; exact hk _ _ _ h1 (.inr (.inl rfl))) (fun j c t hj ht => hk j c t hj (by rcases ht with rfl | rfl <;> simp)), Nat.lt_of_lt_of_le h.map.lt hs⟩,
    fun i k e => ⟨(h.shapes i k e).1, (h.shapes i k e).2.kept (by obtain ⟨c, hc⟩ := (h.shapes i k e).2; exact hk _ _ _ hc (by simp))⟩⟩

theorem there_cell (h : wr.heap[bt]? = some (.cells (thereC g).toArray 55)) (i : Nat) (hi : i < 30) : wr.cell? ⟨bt, i, none⟩ = some (.bool (g i).isSome) ∧ wr.frozen? ⟨bt, i, none⟩ = false := by
  refine ⟨?_, by simp [World.frozen?, h]⟩
  rw [cell_of_row wr bt i _ _ _ h, List.getElem?_toArray]
  unfold thereC; rw [List.getElem?_map, List.getElem?_range hi]; rfl
theorem far_cell (h : wr.heap[bf]? = some (.cells (farC p g V).toArray 54)) (i : Nat) (hi : i < 30) : wr.cell? ⟨bf, i, none⟩ = some (.int .i64 (if (g i).isSome then farF p V i else 0)) ∧ wr.frozen? ⟨bf, i, none⟩ = false := by
  refine ⟨?_, by simp [World.frozen?, h]⟩
  rw [cell_of_row wr bf i _ _ _ h, List.getElem?_toArray]
  unfold farC; rw [List.getElem?_map, List.getElem?_range hi]; rfl

theorem range_set (n : Nat) (f f' : Nat → Value) (i : Nat) (h : ∀ j, j ≠ i → f' j = f j) : ((List.range n).map f).set i (f' i) = (List.range n).map f' := by
  apply List.ext_getElem?
  intro j
  rw [List.getElem?_set]
  simp only [List.length_map, List.length_range, List.getElem?_map]
  by_cases e : i = j
  · subst e
    rw [if_pos rfl]
    by_cases hi : i < n
    · rw [if_pos hi, List.getElem?_range hi]; rfl
    · rw [if_neg hi]
      have : (List.range n)[i]? = none := by simp; omega
      rw [this]; rfl
  · rw [if_neg e]
    by_cases hj : j < n
    · rw [List.getElem?_range hj]; simp [h j (fun e' => e e'.symm)]
    · have : (List.range n)[j]? = none := by simp; omega
      rw [this]; rfl

/-- What holds behind Put, where it took the shape. -/
theorem law_mid {w5 : World} {l : List Q} {i bl : Nat} (h : LawAt w wr p bm bf bt bv r g V) (hi : i < 30) (hg : g i = none) (hP : PutAns l wr w5 bm i g V) (hl : At wr bl 0 l) (hbl : bl < wr.heap.size) (hblm : bl ≠ bm) :
    w5.cell? ⟨bt, i, none⟩ = some (.bool false) ∧ w5.frozen? ⟨bt, i, none⟩ = false ∧ At w5 bl 0 l ∧ bt < w5.heap.size := by
  obtain ⟨s, bv', r', B, -, -, hK⟩ := hP
  have ht : w5.heap[bt]? = _ := (hK.block _ h.lt_t h.mt).trans h.there
  have := there_cell ht i hi
  rw [hg] at this
  refine ⟨this.1, this.2, fun k hk => ?_, (Array.getElem?_eq_some_iff.1 ht).1⟩
  rw [World.cell?_of_block (hK.block bl hbl hblm)]; exact hl k hk

/-- What the law's arrays and the map are behind a shape that was taken. -/
theorem law_put {w5 w6 : World} {i : Nat} {x y z : Int} (h : LawAt w wr p bm bf bt bv r g V) (hi : i < 30) (hP : PutAns (triL x y z) wr w5 bm i g V) (hg : g i = none)
    (h6 : Below w5.heap.size (w5.setCell ⟨bt, i, none⟩ (.bool true)).drew w6) :
    (w6.cell? ⟨bf, i, none⟩ = some (.int .i64 0) ∧ w6.frozen? ⟨bf, i, none⟩ = false) ∧
    ∃ s bv' r' V', LawAt w (w6.setCell ⟨bf, i, none⟩ (.int .i64 (lawD p (mkQ (triX x) (triX y)) (triHi x y z)))) p bm bf bt bv' r' (upd g i (some s)) V' := by
  obtain ⟨s, bv', r', B, hB, hM, hK⟩ := hP
  obtain ⟨e1, e2⟩ := box_uniq hB (tri_box x y z)
  have hbf : bf ≠ bt := ne_of_type h.far h.there (by decide)
  have hf5 : w5.heap[bf]? = some (.cells (farC p g V).toArray 54) := (hK.block _ h.lt_f h.mf).trans h.far
  have ht5 : w5.heap[bt]? = some (.cells (thereC g).toArray 55) := (hK.block _ h.lt_t h.mt).trans h.there
  have hl5f : bf < w5.heap.size := (Array.getElem?_eq_some_iff.1 hf5).1
  have hl5t : bt < w5.heap.size := (Array.getElem?_eq_some_iff.1 ht5).1
  have hf6 : w6.heap[bf]? = some (.cells (farC p g V).toArray 54) := (h6.block _ hl5f).trans ((heap_setCell_other _ _ _ _ hbf).trans hf5)
  have ht6 : w6.heap[bt]? = some (.cells (thereC (upd g i (some s))).toArray 55) := by
    refine (h6.block _ hl5t).trans ?_
    show (w5.setCell ⟨bt, i, none⟩ (.bool true)).heap[bt]? = _
    rw [heap_setCell_same _ ht5, List.setIfInBounds_toArray]
    have : (thereC g).set i (.bool true) = thereC (upd g i (some s)) := by
      have := range_set 30 (fun j => .bool (g j).isSome) (fun j => .bool (upd g i (some s) j).isSome) i (fun j hj => by unfold upd; rw [if_neg hj])
      unfold thereC
      rw [← this]
      unfold upd; simp
    rw [this]
  have hfc := far_cell hf6 i hi
  rw [hg] at hfc
  refine ⟨hfc, s, bv', r', (fun j => if j = i then B else V j), ?_⟩
  have hsz : w5.heap.size ≤ w6.heap.size := Nat.le_trans (by simp [World.setCell]) h6.size
  have hkeep : ∀ j, j < w5.heap.size → j ≠ bt → w6.heap[j]? = w5.heap[j]? := fun j hj hn => (h6.block _ hj).trans (heap_setCell_other _ _ _ _ hn)
  have hM6 : MapHas w6 bm bv' r' (upd g i (some s)) (fun j => if j = i then B else V j) := hM.kept hsz (fun j c t hj ht => hkeep j (Array.getElem?_eq_some_iff.1 hj).1 (ne_of_type hj ht5 (by rcases ht with rfl | rfl | rfl | rfl | rfl <;> decide)))
  have hd : lawD p (mkQ (triX x) (triX y)) (triHi x y z) = farF p (fun j => if j = i then B else V j) i := by
    unfold farF
    simp only [if_true]
    rw [e1, e2, lawD_eq]
    · have := (tri_box x y z).has _ (List.mem_cons_self); omega
    · have := (tri_box x y z).has _ (List.mem_cons_self); omega
  refine ⟨hM6.kept (by simp [World.setCell]) (fun j c t hj ht => heap_setCell_other _ _ _ _ (ne_of_type hj hf6 (by rcases ht with rfl | rfl | rfl | rfl | rfl <;> decide))), ?_, (heap_setCell_other _ _ _ _ (fun e => hbf e.symm)).trans ht6, fun j hj => ?_, ?_, h.gm, h.gf, h.gt⟩
  · rw [heap_setCell_same _ hf6, List.setIfInBounds_toArray]
    have := range_set 30 (fun j => .int .i64 (if (g j).isSome then farF p V j else 0)) (fun j => .int .i64 (if (upd g i (some s) j).isSome then farF p (fun j => if j = i then B else V j) j else 0)) i (fun j hj => by
      unfold upd farF; simp only [if_neg hj])
    unfold farC
    rw [← this, hd]
    congr 4
    unfold upd; simp
  · unfold upd; rw [if_neg (by omega)]; exact h.out j hj
  · have b1 : Below w.heap.size w w5 := ⟨hK.os.trans h.below.os, hK.tape.trans h.below.tape, hK.output.trans h.below.output, Nat.le_trans h.below.size hK.size, fun j hj => (hK.block j (Nat.lt_of_lt_of_le hj h.below.size) (by have := h.gm; omega)).trans (h.below.block j hj)⟩
    have b2 := b1.setCell (p := ⟨bt, i, none⟩) h.gt (.bool true)
    have b3 : Below w.heap.size w w6 := b2.drew.trans (h6.mono b1.size)
    exact b3.setCell (p := ⟨bf, i, none⟩) h.gf _
end Go.Proofs.Ytnlkalbkjocoaaa
