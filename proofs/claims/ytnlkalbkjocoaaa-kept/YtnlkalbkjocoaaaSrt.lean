/-
  slices.SortFunc on distances.
-/
import Derived.Test.YtnlkalbkjocoaaaPut
import Derived.Test.YtnlkalbkjocoaaaCmp
namespace Go.Proofs.Ytnlkalbkjocoaaa
open Go.Shelf Go.RowKit Go.Sort

/-- Distances in their order. -/
def sortL (L : List D) : List D := L.mergeSort fun x y => !ltOf cmpD y x

/-- x comes ahead of y. -/
def ltD (x y : D) : Prop := x.1.val < y.1.val ∨ (x.1.val = y.1.val ∧ x.2.val < y.2.val)
theorem cmpD_lt (x y : D) : ltOf cmpD x y = true ↔ ltD x y := by
  unfold ltOf cmpD cmpI ltD
  simp only [decide_eq_true_eq]
  by_cases h1 : (x.1.val : Int) < y.1.val
  · simp [h1]; omega
  · by_cases h2 : (y.1.val : Int) < x.1.val
    · simp [h1, h2]; omega
    · by_cases h3 : (x.2.val : Int) < y.2.val
      · simp [h1, h2, h3]; omega
      · by_cases h4 : (y.2.val : Int) < x.2.val
        · simp [h1, h2, h3, h4]; omega
        · simp [h1, h2, h3, h4]; omega
theorem cmpD_nlt (x y : D) : ltOf cmpD x y = false ↔ ¬ ltD x y := by rw [← cmpD_lt]; simp
theorem cmpD_swo : SWO (ltOf cmpD) :=
  ⟨fun x => by rw [cmpD_nlt]; unfold ltD; omega, fun x y z h1 h2 => by rw [cmpD_lt] at *; unfold ltD at *; omega, fun x y z h1 h2 => by rw [cmpD_nlt] at *; unfold ltD at *; omega⟩
theorem cmpD_total (x y : D) (h1 : ltOf cmpD x y = false) (h2 : ltOf cmpD y x = false) : x = y := by
  rw [cmpD_nlt] at h1 h2
  unfold ltD at h1 h2
  obtain ⟨⟨a, ha⟩, ⟨b, hb⟩⟩ := x
  obtain ⟨⟨c, hc⟩, ⟨d, hd⟩⟩ := y
  simp only at h1 h2
  obtain rfl : a = c := by omega
  obtain rfl : b = d := by omega
  rfl

theorem flat_get (L : List D) (j : Nat) : (L.flatMap de)[j]? = (L[j / 2]?).bind fun x => (de x)[j % 2]? := by
  induction L generalizing j with
  | nil => simp
  | cons x r ih =>
    rw [List.flatMap_cons]
    have hl : (de x).length = 2 := rfl
    by_cases h : j < 2
    · rw [List.getElem?_append_left (by omega), show j / 2 = 0 by omega, show j % 2 = j by omega]; rfl
    · rw [List.getElem?_append_right (by omega), hl, ih]
      obtain ⟨k, rfl⟩ : ∃ k, j = k + 2 := ⟨j - 2, by omega⟩
      rw [show k + 2 - 2 = k by omega, show (k + 2) / 2 = k / 2 + 1 by omega, show (k + 2) % 2 = k % 2 by omega, List.getElem?_cons_succ]

theorem cmpD_lays (blk off size : Nat) (w : World) : CmpLays Try.prog 71 #[] de 2 cmpD blk off size w := fun _ _ _ _ x y => compareD_any x y _

instance : Inhabited D := ⟨(⟨0, by omega⟩, ⟨0, by omega⟩)⟩

set_option maxHeartbeats 400000 in
theorem sort_d {W : World} {base g cap : Nat} {L : List D} (h : W.ownsRow base 129 2 (.slice (some ⟨g, 0, none⟩) L.length cap) L.length (L.flatMap de)) (hl : L.length ≤ 1000) :
    Calls Try.prog 70 #[.slice (some ⟨g, 0, none⟩) L.length cap, .func (.func 71) #[] #[]] W fun e w' => e = .returned (.tuple #[]) ∧
      HoldsK de 2 w' g 0 (sortL L).toArray ∧ KeptBut g W w' := by
  obtain ⟨-, h⟩ := h
  rcases h with ⟨h, -⟩ | ⟨g', cap', cur, he, hb, hg, hc1, hc2, hc3, hc4⟩
  · cases h
  cases he
  have hlt : g < W.heap.size := (Array.getElem?_eq_some_iff.1 hg).1
  have hH : HoldsK de 2 W g 0 L.toArray := by
    intro j hj
    have hj' : j < L.length * 2 := by simpa using hj
    have hcell := cell_of_row W g (0 + j) cur 129 (0, 0) hg
    refine ⟨?_, by simp [World.frozen?, hg]⟩
    rw [hcell, get_flatK _ _ _ j (by simpa using hj')]
    have h1 : cur[0 + j]? = (L.flatMap de)[j]? := by
      rw [← hc4, List.getElem?_take, if_pos (by omega), Nat.zero_add]; simp
    rw [h1, flat_get]
    have hj2 : j / 2 < L.length := by omega
    rw [List.getElem?_eq_getElem hj2]
    have hm : j % 2 < (de L[j / 2]).length := by show j % 2 < 2; omega
    have e1 : L.toArray[j / 2]! = L[j / 2] := by rw [getElem!_pos L.toArray (j / 2) (by simpa using hj2)]; simp
    show (de L[j / 2])[j % 2]? = some (id _)
    rw [e1, List.getElem?_eq_getElem hm, getElem!_pos (de L[j / 2]) (j % 2) hm]; rfl
  have eg : ∀ args w, (callFunc 71 args).run Try.prog w = .ok (.enter 71 args) w := enters_of Try.func71 (by kernel_rfl) rfl
  have hcon := AnyQ.slices_SortFunc_total sortD 2 Try.isAgg129 Try.sizeOf129 de (fun _ => rfl) (fun x v hv => by simp only [de, List.mem_cons, List.not_mem_nil, or_false] at hv; rcases hv with rfl | rfl <;> rfl) cmpD cmpD_swo 71 #[] g 0 cap L.toArray W eg (cmpD_lays g 0 _ W) hH hlt (by simp; omega) cmpD_total
  change Calls Try.prog 70 _ _ _ at hcon
  refine hcon.mono ?_
  rintro e w' ⟨rfl, n, os, rfl⟩
  refine ⟨rfl, ?_, ?_⟩
  · refine holdsK_sortWorldK de 2 W g 0 n L.toArray _ os hlt hH ?_
    simp [List.length_mergeSort]
  · refine ⟨rfl, rfl, rfl, ?_, fun j hj hn => ?_⟩
    · unfold sortWorldK; rw [size_grow, size_putRowK]; simp
    · unfold sortWorldK
      rw [heap_grow_old _ _ (by rw [size_putRowK]; exact hj)]
      unfold putRowK putRow mapBlock
      simp only
      rw [Array.getElem?_modify, if_neg (fun e => hn e.symm)]
      rfl
end Go.Proofs.Ytnlkalbkjocoaaa
