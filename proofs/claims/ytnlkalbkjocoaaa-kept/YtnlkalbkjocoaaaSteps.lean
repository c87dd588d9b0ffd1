/-
  slices.Clone, SortFunc, Compact, Reverse on a slice of points of the call's own.
-/
import Derived.Test.YtnlkalbkjocoaaaPts
import Derived.Test.YtnlkalbkjocoaaaLay
import Derived.Test.YtnlkalbkjocoaaaChain
import Derived.Lib.OwnBridge
import Derived.Lib.AppendIntMem
namespace Go.Proofs.Ytnlkalbkjocoaaa
open Go.Shelf Go.RowKit

/-- v is a slice of the call's own that holds the points l. -/
def Owns (w : World) (base : Nat) (v : Value) (l : List Q) : Prop := w.ownsRow base 26 1 v l.length (l.map qe)

theorem qe_one : OneCell qe := fun _ => rfl
theorem qe_ones (l : List Q) : ∀ u ∈ l.map qe, u.oneCell' = true := by intro u hu; obtain ⟨c, -, rfl⟩ := List.mem_map.1 hu; rfl
theorem qe_map (l : List Q) : (l.map qc).map C.v = l.map qe := by rw [List.map_map]; rfl

theorem cmpQ_lt (p q : Q) : ltOf cmpQ p q = true ↔ lt2 qx qy p q := by
  unfold ltOf cmpQ cmpI lt2
  simp only [decide_eq_true_eq]
  by_cases h1 : qx p < qx q
  · simp [h1]
  · by_cases h2 : qx q < qx p
    · simp [h1, h2]; omega
    · by_cases h3 : qy p < qy q
      · simp [h1, h2, h3]; omega
      · by_cases h4 : qy q < qy p <;> simp [h1, h2, h3, h4]
theorem cmpQ_nlt (p q : Q) : ltOf cmpQ p q = false ↔ ¬ lt2 qx qy p q := by rw [← cmpQ_lt]; simp

theorem cmpQ_swo : Go.Sort.SWO (ltOf cmpQ) :=
  ⟨fun x => by rw [cmpQ_nlt]; exact lt2_irrefl, fun x y z h1 h2 => by rw [cmpQ_lt] at *; exact lt2_trans h1 h2, fun x y z h1 h2 => by rw [cmpQ_nlt] at *; unfold lt2 at *; omega⟩

theorem q_tri (a b : Q) : a = b ∨ lt2 qx qy a b ∨ lt2 qx qy b a := by
  by_cases h : qx a = qx b ∧ qy a = qy b
  · exact .inl (q_ext h.1 h.2)
  · unfold lt2; omega

theorem alloc_grow (w : World) (o : Obj) : w.alloc o = Go.Sort.grow (w.drewN 0) #[o] := by
  rw [Go.Sort.alloc_eq_grow]; rfl

theorem cmp_lays (blk off size : Nat) (w : World) : CmpLays1 Try.prog 62 #[] qe cmpQ blk off size w := fun m os dk _ x y =>
  (compare_any x y _).mono fun e w' ⟨he, o, hw⟩ => ⟨he, 0, #[o], by rw [hw]; exact alloc_grow _ _⟩

set_option maxHeartbeats 400000 in
theorem sort_q {w : World} {base g cap : Nat} {l : List Q} (h : Owns w base (.slice (some ⟨g, 0, none⟩) l.length cap) l) (hl : l.length ≤ 64) :
    Calls Try.prog 61 #[.slice (some ⟨g, 0, none⟩) l.length cap, .func (.func 62) #[] #[]] w fun e w' => e = .returned (.tuple #[]) ∧
      ∃ l' : List Q, l'.Perm l ∧ (∀ i j (_ : i < j) (hj : j < l'.length), ¬ lt2 qx qy l'[j] (l'[i]'(by omega))) ∧ Owns w' base (.slice (some ⟨g, 0, none⟩) l'.length cap) l' ∧ Below base w w' := by
  obtain ⟨g', cap', e, hb, hg, hc, -, hn, hH⟩ := Go.Lib.holds_of_ownsRow h (by simp)
  cases e
  have eg : ∀ args w, (callFunc 62 args).run Try.prog w = .ok (.enter 62 args) w := enters_of Try.func62 (by kernel_rfl) rfl
  have hcon := Any.slices_SortFunc sortC qe qe_one cmpQ cmpQ_swo 62 #[] g 0 cap l.toArray w eg (cmp_lays g 0 _ w) hH hg (by simp; omega)
  change Calls Try.prog 61 _ _ _ at hcon
  refine hcon.mono ?_
  rintro e w' ⟨rfl, d', n, os, ⟨hs1, -, hs3⟩, hsort, rfl⟩
  have hp : d'.toList.Perm l := by
    have e1 : (d'.extract 0 l.toArray.size).toList = d'.toList := by rw [← hs1]; simp
    have e2 : (l.toArray.extract 0 l.toArray.size).toList = l := by simp
    rw [e1, e2] at hs3; exact hs3
  have hl' : d'.toList.length = l.length := hp.length_eq
  have hO := Go.Lib.ownsRow_putRow (q := n) (ys := d'.toList) h hl' (Nat.le_refl _)
  have hO2 := Go.Lib.ownsRow_grow hO 0 os
  refine ⟨rfl, d'.toList, hp, fun i j hij hj => ?_, ?_, ?_⟩
  · have := hsort i j (Nat.zero_le _) hij (by rw [← hs1]; simpa using hj)
    rw [cmpQ_nlt] at this
    have hj' : j < d'.size := by simpa using hj
    rw [getElem!_pos d' j hj', getElem!_pos d' i (by omega)] at this
    simpa using this
  · unfold Owns
    rw [hl']
    rw [List.take_of_length_le (by omega)] at hO2
    exact hO2
  · have b1 : Below base w (Go.Sort.putRow qe (Go.Sort.ahead w n) g 0 d'.toList.toArray) := Go.Lib.below_putRow (Below.refl _ _) hb
    have b2 := Go.Lib.below_grow base (Go.Sort.putRow qe (Go.Sort.ahead w n) g 0 d'.toList.toArray) (Nat.le_trans (by omega : base ≤ w.heap.size) b1.size) 0 os
    exact b1.trans b2

theorem comp_rise {d : Array Q} (hs : ∀ i j, i < j → j < d.size → ¬ lt2 qx qy d[j]! d[i]!) : Rise qx qy (Go.Lib.compactUpTo d d.size) := by
  unfold Rise Go.Lib.compactUpTo
  rw [List.pairwise_map, List.pairwise_filter]
  refine List.Pairwise.imp_of_mem ?_ (List.pairwise_lt_range (n := d.size))
  intro i j _ hj hij _ hk
  have hjs : j < d.size := List.mem_range.1 hj
  have hk' : d[j]! ≠ d[j - 1]! := by
    rcases of_decide_eq_true hk with h | h
    · omega
    · exact h
  have h1 : lt2 qx qy d[j - 1]! d[j]! := by
    rcases q_tri d[j - 1]! d[j]! with h | h | h
    · exact absurd h.symm hk'
    · exact h
    · exact absurd h (hs (j - 1) j (by omega) hjs)
  by_cases e : i = j - 1
  · rw [e]; exact h1
  · rcases q_tri d[i]! d[j - 1]! with h | h | h
    · rw [h]; exact h1
    · exact lt2_trans h h1
    · exact absurd h (hs i (j - 1) (by omega) (by omega))

theorem comp_mem (d : Array Q) (x : Q) : x ∈ Go.Lib.compactUpTo d d.size ↔ x ∈ d.toList := by
  have all : ∀ i, i < d.size → d[i]! ∈ Go.Lib.compactUpTo d d.size := by
    intro i
    induction i with
    | zero => intro h; exact List.mem_map.2 ⟨0, List.mem_filter.2 ⟨List.mem_range.2 h, Go.Lib.keeps_lt_one d 0 (by omega)⟩, rfl⟩
    | succ i ih =>
      intro h
      by_cases e : d[i + 1]! = d[i]!
      · rw [e]; exact ih (by omega)
      · exact List.mem_map.2 ⟨i + 1, List.mem_filter.2 ⟨List.mem_range.2 h, Go.Lib.keeps_pos (by simpa using e)⟩, rfl⟩
  constructor
  · intro h
    obtain ⟨i, hi, rfl⟩ := List.mem_map.1 h
    have hi' : i < d.size := List.mem_range.1 (List.mem_filter.1 hi).1
    rw [getElem!_pos d i hi']; simp
  · intro h
    obtain ⟨i, hi, rfl⟩ := List.mem_iff_getElem.1 h
    have hi' : i < d.size := by simpa using hi
    have := all i hi'
    rw [getElem!_pos d i hi'] at this
    simpa using this

theorem guard_q : GuardAt Try.prog 26 qe := fun op a b x y w => by unfold qe; rw [eqGuard_at_complex]; rfl
theorem run_eql_q (x y : Q) (w : World) : (binOp .eql 26 (qe x) (qe y)).run Try.prog w = .ok (.bool (decide (x = y))) w := by
  rw [← eq_q x y]
  simp [binOp, qe, Op.complexOp, Op.Complex.cmp, Op.floatCmp, asBool]
theorem run_neq_q (x y : Q) (w : World) : (binOp .neq 26 (qe x) (qe y)).run Try.prog w = .ok (.bool (!decide (x = y))) w := by
  rw [← eq_q x y]
  simp [binOp, qe, Op.complexOp, Op.Complex.cmp, Op.floatCmp, asBool]

set_option maxHeartbeats 400000 in
theorem compact_q {w : World} {base g cap : Nat} {l : List Q} (h : Owns w base (.slice (some ⟨g, 0, none⟩) l.length cap) l) (hl : l.length ≤ 64) (hs : ∀ i j (_ : i < j) (hj : j < l.length), ¬ lt2 qx qy l[j] (l[i]'(by omega))) :
    Calls Try.prog 63 #[.slice (some ⟨g, 0, none⟩) l.length cap] w fun e w' => ∃ s : List Q, e = .returned (.slice (some ⟨g, 0, none⟩) s.length cap) ∧
      Rise qx qy s ∧ (∀ x, x ∈ s ↔ x ∈ l) ∧ s.length ≤ l.length ∧ Owns w' base (.slice (some ⟨g, 0, none⟩) s.length cap) s ∧ Below base w w' := by
  obtain ⟨g', cap', e, hb, hg, hc, -, hn, hH⟩ := Go.Lib.holds_of_ownsRow h (by simp)
  cases e
  have hcon := AnyE.slices_Compact compactC qe qe_one ⟨run_eql_q, guard_q⟩ ⟨run_neq_q, guard_q⟩ q0 (fun w => by rw [← q0_bits]; exact Try.zeroValue26 w) g 0 cap l.toArray w hH (by simp; omega) (by simpa using hc)
  change Calls Try.prog 63 _ _ _ at hcon
  have hr := comp_rise (d := l.toArray) (fun i j hij hj => by
    have hj' : j < l.length := by simpa using hj
    have := hs i j hij hj'
    rw [getElem!_pos l.toArray j hj, getElem!_pos l.toArray i (by omega)]
    simpa using this)
  have hm := comp_mem l.toArray
  have hsl : (Go.Lib.compactUpTo l.toArray l.toArray.size).length ≤ l.length := by
    unfold Go.Lib.compactUpTo
    rw [List.length_map]
    exact Nat.le_trans (List.length_filter_le _ _) (by simp)
  generalize Go.Lib.compactUpTo l.toArray l.toArray.size = s at hcon hr hm hsl
  refine hcon.mono ?_
  rintro e w' ⟨rfl, q, rfl⟩
  have hO := Go.Lib.ownsRow_putRow (q := q) (k := s.length) (ys := s ++ List.replicate (l.toArray.size - s.length) q0) h (by simp; omega) hsl
  rw [List.take_left] at hO
  exact ⟨s, rfl, hr, fun x => by simpa using hm x, hsl, hO, Go.Lib.below_putRow (Below.refl _ _) hb⟩

set_option maxHeartbeats 400000 in
theorem reverse_q {w : World} {base g cap : Nat} {l : List Q} (h : Owns w base (.slice (some ⟨g, 0, none⟩) l.length cap) l) (hl : l.length ≤ 64) :
    Calls Try.prog 65 #[.slice (some ⟨g, 0, none⟩) l.length cap] w fun e w' => e = .returned (.tuple #[]) ∧ Owns w' base (.slice (some ⟨g, 0, none⟩) l.reverse.length cap) l.reverse ∧ w.grownBy w' (some g) := by
  obtain ⟨g', cap', e, hb, hg, hc, -, hn, hH⟩ := Go.Lib.holds_of_ownsRow h (by simp)
  cases e
  have hcon := AnyE.slices_Reverse reverseC qe qe_one g 0 cap l w hH (by omega)
  change Calls Try.prog 65 _ _ _ at hcon
  refine hcon.mono ?_
  rintro e w' ⟨rfl, q, rfl⟩
  have hO := Go.Lib.ownsRow_putRow (q := q) (k := l.length) (ys := l.reverse) h (by simp) (Nat.le_refl _)
  rw [List.take_of_length_le (by simp)] at hO
  refine ⟨rfl, ?_, ?_⟩
  · unfold Owns; rw [List.length_reverse]; exact hO
  · refine ⟨rfl, rfl, rfl, by simp, fun k _ hk => ?_⟩
    have hk' : g ≠ k := fun e => hk (by rw [e])
    simp [Go.Sort.putRow, Go.Sort.mapBlock, Go.Sort.ahead, Array.getElem?_modify, hk']

set_option maxHeartbeats 400000 in
theorem clone_q {w : World} {b off cap : Nat} {l : List Q} (hl : l.length ≤ 64) (h0 : 0 < l.length) (hc : Lies w b off (l.map qc)) :
    Calls Try.prog 60 #[.slice (some ⟨b, off, none⟩) l.length cap] w fun e w' => ∃ g cap', e = .returned (.slice (some ⟨g, 0, none⟩) l.length cap') ∧ Owns w' w.heap.size (.slice (some ⟨g, 0, none⟩) l.length cap') l ∧ Below w.heap.size w w' := by
  obtain ⟨i0, hi0, hz0, hz1, hz2⟩ := info_parts Try.info26
  have hcon := AnyE.slices_Clone cloneC i0 _ 1 16 hi0 hz0 hz1 hz2 rfl (by omega) Try.sizeOf26 b off l.length cap (l.map qe) w (by simp) (by unfold maxLen; omega) (by omega) (fun j u hj => by
    have hj' : j < l.length := by have := (List.getElem?_eq_some_iff.1 hj).1; simpa using this
    rw [hc j (by simpa using hj')]
    rw [← hj]
    simp [hj', qe]) (qe_ones l)
  change Calls Try.prog 60 _ _ _ at hcon
  refine hcon.mono ?_
  rintro e w' ⟨v', rfl, hO, hv, hB⟩
  obtain ⟨g, cap', rfl, -⟩ := World.ownsRow.form hO h0
  exact ⟨g, cap', rfl, hO, hB⟩
end Go.Proofs.Ytnlkalbkjocoaaa
