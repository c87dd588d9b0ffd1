/-
  What Move, IsTurn, MoveAll and Apply answer.
-/
import Derived.Test.YtnlkalbkjocoaaaFace
import Derived.Deep.OwnRows
namespace Go.Proofs.Ytnlkalbkjocoaaa
open Go.RowKit

/-- What the turn (s, t) makes of z. -/
def C.move (s t z : C) : C := (s.mul z).add t
theorem C.move_lim {s t z : C} (hs : s.lim 64) (ht : t.lim 1048576) (hz : z.lim 1048576) : (C.move s t z).lim 135266304 := C.lim_add (C.lim_mul hs hz) ht

set_option maxHeartbeats 400000 in
theorem move_any (s t z : C) (hs : s.lim 64) (ht : t.lim 1048576) (hz : z.lim 1048576) (w : World) :
    Calls Try.prog 59 #[.agg #[.complex .f64 s.re.bits s.im.bits, .complex .f64 t.re.bits t.im.bits], .complex .f64 z.re.bits z.im.bits] w fun e w' =>
      e = .returned (.complex .f64 (C.move s t z).re.bits (C.move s t z).im.bits) ∧ w' = w.alloc (.cells #[.complex .f64 s.re.bits s.im.bits, .complex .f64 t.re.bits t.im.bits] 36) := by
  have h1 := fun ty w => run_complex_mul (P := Try.prog) w ty _ _ _ _ _ _ (C.bits_mul hs hz (by decide) (by decide) (by decide))
  have h2 := fun ty w => run_complex_sum (P := Try.prog) w .add (Or.inl rfl) ty .f64 _ _ _ _ _ _ (C.bits_add (C.lim_mul hs hz) ht (by decide) (by decide) (by decide))
  clear hs ht hz
  go_enter Try.func59, Try.ntmps59
  go_wp2
  go_ret
  exact ⟨rfl, rfl⟩

set_option maxHeartbeats 400000 in
theorem isTurn_any (s t : C) (m n : Int) (hs : s.lim m) (ht : t.lim n) (hm : m < 9007199254740992) (hn : n < 9007199254740992) (w : World) :
    Calls Try.prog 36 #[.agg #[.complex .f64 s.re.bits s.im.bits, .complex .f64 t.re.bits t.im.bits]] w fun e w' =>
      e = .returned (.bool (C.within 64 s && C.within 1048576 t)) ∧ w' = w.alloc (.cells #[.complex .f64 s.re.bits s.im.bits, .complex .f64 t.re.bits t.im.bits] 36) := by
  have h1 := fun w => parts_any s (Z.mk false 64) (C.small_re hs hm) (C.small_im hs hm) (by unfold Z.small; decide) w
  rw [← maxScale_bits] at h1
  have hv : (Z.mk false 64).val = 64 := rfl
  rw [hv] at h1
  have h2 := fun w => isPoint_any t (C.small_re ht hn) (C.small_im ht hn) w
  clear hs ht hv
  cases g : C.within 64 s with
  | true =>
    rw [g] at h1
    clear g
    go_enter Try.func36, Try.ntmps36
    go_wp2_with (first | (go_at_call 56; refine (h1 _).mono ?_; rintro e w' ⟨rfl, rfl⟩) | (go_at_call 34; refine (h2 _).mono ?_; rintro e w' ⟨rfl, rfl⟩))
    go_ret
    exact ⟨ret_bool (by rw [Bool.true_and]), rfl⟩
  | false =>
    rw [g] at h1
    clear g
    go_enter Try.func36, Try.ntmps36
    go_wp2_with (first | (go_at_call 56; refine (h1 _).mono ?_; rintro e w' ⟨rfl, rfl⟩))
    go_ret
    exact ⟨ret_bool (by rw [Bool.false_and]), rfl⟩

theorem Try.info26 : (Try.prog.info? 26).map (fun i => (i.zero, i.size, i.bytes)) = some (some (.complex .f64 0 0), 1, 16) := by kernel_rfl

theorem store_complex (a : Addr) (re im : Nat) (m : Mode) (w : World) : (store a (.complex .f64 re im) m).run Try.prog w = stored Try.prog w a (.complex .f64 re im) m := run_store Try.prog w a _ m rfl

/-- The new list, when k of its places are filled. -/
def movedF (s t : C) (l : List C) (k : Nat) : Nat → Value := fun j => if h : j < l.length then (if j < k then (C.move s t l[j]).v else .complex .f64 0 0) else .complex .f64 0 0

/-- What holds at MoveAll's loop, k places filled. -/
structure Moved (w wr : World) (s t : C) (l : List C) (k : Nat) : Prop where
  below : Below w.heap.size w wr
  turn0 : wr.cell? ⟨w.heap.size, 0, none⟩ = some s.v
  turn1 : wr.cell? ⟨w.heap.size, 1, none⟩ = some t.v
  row : wr.rowIs (w.heap.size + 1) 26 l.length (movedF s t l k)
  size : w.heap.size + 1 < wr.heap.size

theorem moved_start (w : World) (s t : C) (l : List C) : Moved w ((w.alloc (.cells #[s.v, t.v] 36)).alloc (.cells (madeCells #[.complex .f64 0 0] l.length) 26)) s t l 0 := by
  refine ⟨((Below.refl _ _).alloc (Nat.le_refl _) _).alloc (by simp) _, by simp, by simp, ?_, by simp⟩
  have h := World.rowIs_made (w.alloc (.cells #[s.v, t.v] 36)) (.complex .f64 0 0) l.length 26
  have e : (w.alloc (.cells #[s.v, t.v] 36)).heap.size = w.heap.size + 1 := by simp
  rw [e] at h
  exact h.congr (fun i hi => by unfold movedF; rw [dif_pos hi, if_neg (by omega)])

theorem moved_step {w wr : World} {s t : C} {l : List C} {k : Nat} (h : Moved w wr s t l k) (hk : k < l.length) (o : Obj) :
    Moved w ((wr.alloc o).setCell ⟨w.heap.size + 1, k, none⟩ (C.move s t l[k]).v) s t l (k + 1) := by
  have hz := h.size
  refine ⟨(h.below.alloc (by omega) o).setCell (by show w.heap.size ≤ w.heap.size + 1; omega) _, ?_, ?_, ?_, by simp [World.setCell]; omega⟩
  · have e : ((wr.alloc o).setCell ⟨w.heap.size + 1, k, none⟩ (C.move s t l[k]).v).cell? ⟨w.heap.size, 0, none⟩ = (wr.alloc o).cell? ⟨w.heap.size, 0, none⟩ := World.cell?_of_block (Below.heap_setCell _ _ _ _ (by show w.heap.size ≠ w.heap.size + 1; omega))
    rw [e, World.cell?_alloc_past _ _ _ (by omega)]; exact h.turn0
  · have e : ((wr.alloc o).setCell ⟨w.heap.size + 1, k, none⟩ (C.move s t l[k]).v).cell? ⟨w.heap.size, 1, none⟩ = (wr.alloc o).cell? ⟨w.heap.size, 1, none⟩ := World.cell?_of_block (Below.heap_setCell _ _ _ _ (by show w.heap.size ≠ w.heap.size + 1; omega))
    rw [e, World.cell?_alloc_past _ _ _ (by omega)]; exact h.turn1
  · refine ((h.row.alloc o).set k _).congr (fun i hi => ?_)
    unfold movedF
    rw [dif_pos hi, dif_pos hi]
    by_cases e : i = k
    · subst e; rw [if_pos rfl, if_pos (by omega)]
    · rw [if_neg e]
      by_cases e' : i < k
      · rw [if_pos e', if_pos (by omega)]
      · rw [if_neg e', if_neg (by omega)]

theorem moved_end {w wr : World} {s t : C} {l : List C} (h : Moved w wr s t l l.length) : Lies wr (w.heap.size + 1) 0 (l.map (C.move s t)) := by
  intro k hk
  rw [Nat.zero_add]
  have hk' : k < l.length := by simpa using hk
  rw [h.row.cell hk']
  unfold movedF
  rw [dif_pos hk', if_pos hk']
  simp

set_option maxHeartbeats 800000 in
theorem moveAll_any (s t : C) (l : List C) (b off cap : Nat) (w : World) (hs : s.lim 64) (ht : t.lim 1048576) (hl : Lies w b off l) (hb : b < w.heap.size) (hls : ∀ c ∈ l, c.lim 1048576) (hn : l.length ≤ 32) :
    Calls Try.prog 37 #[.agg #[.complex .f64 s.re.bits s.im.bits, .complex .f64 t.re.bits t.im.bits], .slice (some ⟨b, off, none⟩) l.length cap] w fun e w' =>
      e = .returned (.slice (some ⟨w.heap.size + 1, 0, none⟩) l.length l.length) ∧ Below w.heap.size w w' ∧ Lies w' (w.heap.size + 1) 0 (l.map (C.move s t)) ∧ w.heap.size + 1 < w'.heap.size := by
  have hmk := run_make_row' (P := Try.prog) 24 26 (.complex .f64 0 0) 16 Try.underlying24 Try.info26 rfl .i64 .i64 l.length (by omega) (by omega)
  have hM0 := moved_start w s t l
  go_enter Try.func37, Try.ntmps37
  go_wp2
  clear hmk
  go_loopw [13] (fun i wr => ∃ k : Nat, k ≤ l.length ∧ i = .int .i64 k ∧ Moved w wr s t l k) (fun i _ => l.length - (intOf i).toNat)
  case atStart => exact ⟨0, Nat.zero_le _, rfl, hM0⟩
  case round =>
    obtain ⟨k, hk, rfl, hM⟩ := hrel
    clear hM0
    by_cases hlt : k < l.length
    · have hcell : wr.cell? ⟨b, off + k, none⟩ = some (.complex .f64 l[k].re.bits l[k].im.bits) := by rw [hM.below.cell (p := ⟨b, off + k, none⟩) hb]; exact hl k hlt
      have hz := hls _ (List.getElem_mem hlt)
      have hmv := fun w => move_any s t l[k] hs ht hz w
      have t0 := hM.turn0
      have t1 := hM.turn1
      have hsz := hM.size
      have r1 : ∀ o, (wr.alloc o).cell? ⟨w.heap.size + 1, k, none⟩ = some (movedF s t l k k) := fun o => (hM.row.alloc o).cell hlt
      have r2 : ∀ o, (wr.alloc o).frozen? ⟨w.heap.size + 1, k, none⟩ = false := fun o => (hM.row.alloc o).frozen k
      have hS := moved_step hM hlt (.cells #[.complex .f64 s.re.bits s.im.bits, .complex .f64 t.re.bits t.im.bits] 36)
      rw [World.setCell_alloc_past _ _ _ _ (by omega)] at hS
      generalize l[k] = c at hcell hz hmv hS
      clear hM hl hls hs ht hz
      have hst := store_complex
      go_wp2_with (go_at_call 59; refine (hmv _).mono ?_; rintro e w' ⟨rfl, rfl⟩)
      go_roundw
      case rel => exact ⟨k + 1, by omega, by go_num, hS⟩
      case measure => simp [intOf]; omega
    · have hk' : k = l.length := by omega
      subst hk'
      have hE := moved_end hM
      go_wp2
      go_ret
      exact ⟨rfl, hM.below, hE, hM.size⟩

theorem lies_below {w w' : World} {b off : Nat} {l : List C} (h : Lies w b off l) (hb : Below w.heap.size w w') (hlt : b < w.heap.size) : Lies w' b off l := by
  intro k hk; rw [hb.cell (p := ⟨b, off + k, none⟩) hlt]; exact h k hk

theorem move_smalls {s t : C} {l : List C} (hs : s.lim 64) (ht : t.lim 1048576) (h : ∀ c ∈ l, c.lim 1048576) : ∀ c ∈ l.map (C.move s t), c.re.small ∧ c.im.small := by
  intro c hc
  obtain ⟨d, hd, rfl⟩ := List.mem_map.1 hc
  have := C.move_lim hs ht (h d hd)
  exact ⟨C.small_re this (by decide), C.small_im this (by decide)⟩

set_option maxHeartbeats 800000 in
theorem apply_ok (s t : C) (l : List C) (b off cap : Nat) (w : World) (hs : s.lim 64) (ht : t.lim 1048576) (hl : Lies w b off l) (hb : b < w.heap.size) (hls : ∀ c ∈ l, c.lim 1048576) (h3 : 3 ≤ l.length) (hn : l.length ≤ 32)
    (hA : areB (l.map (C.move s t)) = true) :
    Calls Try.prog 14 #[.agg #[.complex .f64 s.re.bits s.im.bits, .complex .f64 t.re.bits t.im.bits], .slice (some ⟨b, off, none⟩) l.length cap] w fun e w' =>
      e = .returned (.tuple #[.slice (some ⟨w.heap.size + 3, 0, none⟩) l.length l.length, .int .i64 0]) ∧ Below w.heap.size w w' ∧ Lies w' (w.heap.size + 3) 0 (l.map (C.move s t)) ∧ w.heap.size + 3 < w'.heap.size := by
  have hO : ∃ o : Obj, o = .cells #[.complex .f64 s.re.bits s.im.bits, .complex .f64 t.re.bits t.im.bits] 36 := ⟨_, rfl⟩
  have hb1 : ∀ o, Below w.heap.size w (w.alloc o) := fun o => (Below.refl _ _).alloc (Nat.le_refl _) _
  have hb2 : ∀ o o', Below w.heap.size w ((w.alloc o).alloc o') := fun o o' => (hb1 o).alloc (by simp) _
  have c1 := fun o => checkShape_ok l b off cap (w.alloc o) (lies_below hl (hb1 o) hb) hls h3 hn
  have hT := fun w => isTurn_any s t 64 1048576 hs ht (by decide) (by decide) w
  rw [(C.within_iff _ _).2 hs, (C.within_iff _ _).2 ht, Bool.true_and] at hT
  have c2 := fun o o' => moveAll_any s t l b off cap ((w.alloc o).alloc o') hs ht (lies_below hl (hb2 o o') hb) (by simp; omega) hls hn
  simp only [World.size_alloc] at c2
  have c3 := fun w' (h : Lies w' (w.heap.size + 3) 0 (l.map (C.move s t))) => arePoints_any (l.map (C.move s t)) (w.heap.size + 3) 0 l.length w' h (move_smalls hs ht hls) (by simp; omega)
  simp only [hA, List.length_map] at c3
  clear hA hl hls
  go_enter Try.func14, Try.ntmps14
  go_wp2_with fail
  refine (c1 _).mono ?_
  rintro e w' ⟨rfl, rfl⟩
  go_wp2_with fail
  refine (hT _).mono ?_
  rintro e w' ⟨rfl, rfl⟩
  go_wp2_with fail
  refine (c2 _ _).mono ?_
  rintro e w' ⟨rfl, hbe, hli, hsz⟩
  go_wp2_with fail
  refine (c3 _ hli).mono ?_
  rintro e w'' ⟨rfl, rfl⟩
  go_wp2_with fail
  go_ret2
  exact ⟨rfl, (hb2 _ _).trans (hbe.mono (by omega)), hli, hsz⟩
end Go.Proofs.Ytnlkalbkjocoaaa
