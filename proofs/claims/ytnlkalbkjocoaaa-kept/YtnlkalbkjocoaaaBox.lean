/-
  What Bounds answers on a shape of points: the least box.
-/
import Derived.Test.YtnlkalbkjocoaaaLess
namespace Go.Proofs.Ytnlkalbkjocoaaa
open Go.Shelf Go.RowKit

set_option maxRecDepth 100000 in
set_option maxHeartbeats 800000 in
theorem widen_core (a1 a2 b1 b2 z1 z2 r1 r2 s1 s2 : Nat) (w : World)
    (c1 : ∀ w, Calls Try.prog 72 #[.complex .f64 a1 a2, .complex .f64 z1 z2] w fun e w' => e = .returned (.complex .f64 r1 r2) ∧ w' = w)
    (c2 : ∀ w, Calls Try.prog 73 #[.complex .f64 b1 b2, .complex .f64 z1 z2] w fun e w' => e = .returned (.complex .f64 s1 s2) ∧ w' = w) :
    Calls Try.prog 66 #[.agg #[.complex .f64 a1 a2, .complex .f64 b1 b2], .complex .f64 z1 z2] w fun e w' => e = .returned (.agg #[.complex .f64 r1 r2, .complex .f64 s1 s2]) ∧ Below w.heap.size w w' := by
  have hst := store_complex
  go_enter Try.func66, Try.ntmps66
  go_wp2_with fail
  go_region_held3 (fun w' => w'.cell? ⟨w.heap.size, 0, none⟩ = some (.complex .f64 a1 a2) ∧ w'.cell? ⟨w.heap.size, 1, none⟩ = some (.complex .f64 b1 b2)) (go_keep) (first | (go_at_call 72; refine (c1 _).mono ?_; rintro e w' ⟨rfl, rfl⟩) | (go_at_call 73; refine (c2 _).mono ?_; rintro e w' ⟨rfl, rfl⟩))
  go_wp2
  refine bodyPost_ret (v := .agg #[.complex .f64 r1 r2, .complex .f64 s1 s2]) (by simp [results, Try.results66, go_sem]) rfl ⟨rfl, ?_⟩
  exact (((Below.refl _ _).alloc (Nat.le_refl _) _).alloc (by simp) _).drew

theorem widen_any (lo hi z : Q) (w : World) :
    Calls Try.prog 66 #[.agg #[qe lo, qe hi], qe z] w fun e w' => e = .returned (.agg #[qe (qmin lo z), qe (qmax hi z)]) ∧ Below w.heap.size w w' :=
  widen_core _ _ _ _ _ _ _ _ _ _ w (fun w => lesser_any lo z w) (fun w => greater_any hi z w)

/-- lo and hi are the corners of the least box that has all of T. -/
structure BoxOf (T : List Q) (lo hi : Q) : Prop where
  has : ∀ t ∈ T, qx lo ≤ qx t ∧ qx t ≤ qx hi ∧ qy lo ≤ qy t ∧ qy t ≤ qy hi
  left : ∃ t ∈ T, qx t = qx lo
  right : ∃ t ∈ T, qx t = qx hi
  low : ∃ t ∈ T, qy t = qy lo
  high : ∃ t ∈ T, qy t = qy hi

theorem box_one (z : Q) : BoxOf [z] z z := ⟨fun t ht => by simp at ht; subst ht; omega, ⟨z, by simp, rfl⟩, ⟨z, by simp, rfl⟩, ⟨z, by simp, rfl⟩, ⟨z, by simp, rfl⟩⟩
theorem box_step {T : List Q} {lo hi : Q} (h : BoxOf T lo hi) (z : Q) : BoxOf (T ++ [z]) (qmin lo z) (qmax hi z) := by
  have key : ∀ (f : Q → Int) (m : Int), (∃ t ∈ T, f t = m) → ∀ m', (m' = m ∨ m' = f z) → ∃ t ∈ T ++ [z], f t = m' := fun f m ⟨t, ht, e⟩ m' hm => by
    rcases hm with rfl | rfl
    · exact ⟨t, List.mem_append_left _ ht, e⟩
    · exact ⟨z, by simp, rfl⟩
  refine ⟨fun t ht => ?_, key qx _ h.left _ (by rw [qx_min]; omega), key qx _ h.right _ (by rw [qx_max]; omega), key qy _ h.low _ (by rw [qy_min]; omega), key qy _ h.high _ (by rw [qy_max]; omega)⟩
  rw [qx_min, qx_max, qy_min, qy_max]
  rcases List.mem_append.1 ht with ht | ht
  · have := h.has t ht; omega
  · simp at ht; subst ht; omega

/-- What the loop of Bounds keeps: the box lies in the second block behind w, the result's place in the first. -/
structure Boxed (w wr : World) (lo hi : Q) : Prop where
  below : Below w.heap.size w wr
  r0 : wr.cell? ⟨w.heap.size, 0, none⟩ = some (.complex .f64 0 0)
  r1 : wr.cell? ⟨w.heap.size, 1, none⟩ = some (.complex .f64 0 0)
  f0 : wr.frozen? ⟨w.heap.size, 0, none⟩ = false
  f1 : wr.frozen? ⟨w.heap.size, 1, none⟩ = false
  c0 : wr.cell? ⟨w.heap.size + 1, 0, none⟩ = some (qe lo)
  c1 : wr.cell? ⟨w.heap.size + 1, 1, none⟩ = some (qe hi)
  g0 : wr.frozen? ⟨w.heap.size + 1, 0, none⟩ = false
  g1 : wr.frozen? ⟨w.heap.size + 1, 1, none⟩ = false
  size : w.heap.size + 1 < wr.heap.size

theorem boxed_start (w : World) (z : Q) (v : Value) (hv : qe z = v) : Boxed w ((w.alloc (Obj.cells #[Value.complex FloatKind.f64 0 0, Value.complex FloatKind.f64 0 0] 45)).alloc (Obj.cells #[v, v] 45)).drew z z := by
  subst hv
  refine ⟨(((Below.refl _ _).alloc (Nat.le_refl _) _).alloc (by simp) _).drew, ?_, ?_, ?_, ?_, ?_, ?_, ?_, ?_, ?_⟩
  all_goals simp [go_sem]

theorem boxed_step {w wr w' : World} {lo hi lo' hi' : Q} {v v' : Value} (h : Boxed w wr lo hi) (hb : Below wr.heap.size wr w') (hv : qe lo' = v) (hv' : qe hi' = v') :
    Boxed w ((w'.setCell ⟨w.heap.size + 1, 0, none⟩ v).setCell ⟨w.heap.size + 1, 1, none⟩ v') lo' hi' := by
  subst hv hv'
  have hz := h.size
  have hz' := hb.size
  have oth : ∀ o, ((w'.setCell ⟨w.heap.size + 1, 0, none⟩ (qe lo')).setCell ⟨w.heap.size + 1, 1, none⟩ (qe hi')).cell? ⟨w.heap.size, o, none⟩ = wr.cell? ⟨w.heap.size, o, none⟩ := fun o => by
    rw [World.cell?_setCell_other _ _ _ _ (by intro e; simp only [Addr.mk.injEq] at e; omega), World.cell?_setCell_other _ _ _ _ (by intro e; simp only [Addr.mk.injEq] at e; omega)]
    exact hb.cell (p := ⟨w.heap.size, o, none⟩) (by show w.heap.size < _; omega)
  have c0 : w'.cell? ⟨w.heap.size + 1, 0, none⟩ = some (qe lo) := by rw [hb.cell (p := ⟨w.heap.size + 1, 0, none⟩) hz]; exact h.c0
  have c1 : w'.cell? ⟨w.heap.size + 1, 1, none⟩ = some (qe hi) := by rw [hb.cell (p := ⟨w.heap.size + 1, 1, none⟩) hz]; exact h.c1
  have fz : ∀ (a : Addr), a.block < wr.heap.size → ((w'.setCell ⟨w.heap.size + 1, 0, none⟩ (qe lo')).setCell ⟨w.heap.size + 1, 1, none⟩ (qe hi')).frozen? a = wr.frozen? a := fun a ha => by
    rw [World.frozen?_setCell, World.frozen?_setCell]; exact hb.frozen ha
  refine ⟨?_, (oth 0).trans h.r0, (oth 1).trans h.r1, (fz ⟨w.heap.size, 0, none⟩ (by show w.heap.size < _; omega)).trans h.f0, (fz ⟨w.heap.size, 1, none⟩ (by show w.heap.size < _; omega)).trans h.f1, ?_, ?_, (fz ⟨w.heap.size + 1, 0, none⟩ hz).trans h.g0, (fz ⟨w.heap.size + 1, 1, none⟩ hz).trans h.g1, ?_⟩
  · exact ((h.below.trans (hb.mono (by omega))).setCell (by show w.heap.size ≤ w.heap.size + 1; omega) _).setCell (by show w.heap.size ≤ w.heap.size + 1; omega) _
  · rw [World.cell?_setCell_other _ _ _ _ (by intro e; simp only [Addr.mk.injEq] at e; omega)]
    exact World.cell?_setCell_same _ _ _ c0
  · exact World.cell?_setCell_same _ _ _ ((World.cell?_setCell_other _ _ _ _ (by intro e; simp only [Addr.mk.injEq] at e; omega)).trans c1)
  · show w.heap.size + 1 < _
    simp [World.setCell]; omega

/-- The answer is the least box. -/
def BoxAns (l : List Q) (e : Ending) : Prop := ∃ lo hi, e = .returned (.agg #[qe lo, qe hi]) ∧ BoxOf l lo hi

set_option maxRecDepth 100000 in
set_option maxHeartbeats 1600000 in
theorem planeBounds_any (l : List Q) (b off cap0 : Nat) (w : World) (hl : At w b off l) (hb : b < w.heap.size) (h2 : 2 ≤ l.length) (hn : l.length ≤ 32) (hcap : l.length ≤ cap0) :
    Calls Try.prog 42 #[.slice (some ⟨b, off, none⟩) l.length cap0] w fun e w' => BoxAns l e ∧ Below w.heap.size w w' := by
  have hst := store_complex
  have h0 : 0 < l.length := by omega
  have e4 : ¬ cap0 = 1 := by omega
  have k0 := hl 0 h0
  obtain ⟨z, hz⟩ : ∃ z, z = l[0] := ⟨_, rfl⟩
  rw [← hz] at k0
  obtain ⟨zr, zi, hzz⟩ : ∃ zr zi, qe z = .complex .f64 zr zi := ⟨_, _, rfl⟩
  rw [hzz] at k0
  rw [Nat.add_zero] at k0
  have e1 : (0 : Int) < (l.length : Int) := by omega
  have e2 : (1 : Int) ≤ (l.length : Int) := by omega
  have e3 : (1 : Int) ≤ (cap0 : Int) := by omega
  go_enter Try.func42, Try.ntmps42
  go_wp2_with fail
  go_region_held3 (fun w' => w'.cell? ⟨b, off, none⟩ = some (.complex .f64 zr zi)) (go_keep) (fail)
  have hB0 := boxed_start w z _ hzz
  have hT0 : BoxOf (l.take (0 + 1)) z z := by
    have : l.take (0 + 1) = [z] := by rw [hz]; cases l with | nil => simp at h0 | cons x r => simp
    rw [this]; exact box_one z
  clear k0 hz hzz
  go_wp2_with fail
  generalize hm : l.length - 1 = m
  go_loopw [16] (fun i wr => ∃ (k : Nat) (lo hi : Q), k ≤ m ∧ i = .int .i64 k ∧ Boxed w wr lo hi ∧ BoxOf (l.take (k + 1)) lo hi) (fun i _ => l.length - (intOf i).toNat)
  case atStart => exact ⟨0, z, z, Nat.zero_le _, rfl, hB0, hT0⟩
  case round =>
    clear hB0 hT0
    obtain ⟨k, lo, hi, hk, rfl, hX, hT⟩ := hrel
    have c0 := hX.c0
    have c1 := hX.c1
    have hsz := hX.size
    by_cases hlt : k < m
    · have hlt' : (k : Int) < (m : Int) := by omega
      have hkl : k + 1 < l.length := by omega
      have hc : wr.cell? ⟨b, off + 1 + k, none⟩ = some (qe l[k + 1]) := by rw [hX.below.cell (p := ⟨b, off + 1 + k, none⟩) hb, ← hl (k + 1) hkl]; congr 2; omega
      have hT2 := box_step hT l[k + 1]
      have e5 : l.take (k + 1) ++ [l[k + 1]] = l.take (k + 1 + 1) := (List.take_succ_eq_append_getElem hkl).symm
      rw [e5] at hT2
      have hw := fun w => widen_any lo hi l[k + 1] w
      generalize l[k + 1] = y at hc hT2 hw
      obtain ⟨yr, yi, hy⟩ : ∃ yr yi, qe y = .complex .f64 yr yi := ⟨_, _, rfl⟩
      obtain ⟨a1, a2, ha⟩ : ∃ a1 a2, qe lo = .complex .f64 a1 a2 := ⟨_, _, rfl⟩
      obtain ⟨b1, b2, hbb⟩ : ∃ b1 b2, qe hi = .complex .f64 b1 b2 := ⟨_, _, rfl⟩
      obtain ⟨r1, r2, hr⟩ : ∃ r1 r2, qe (qmin lo y) = .complex .f64 r1 r2 := ⟨_, _, rfl⟩
      obtain ⟨s1, s2, hs⟩ : ∃ s1 s2, qe (qmax hi y) = .complex .f64 s1 s2 := ⟨_, _, rfl⟩
      have hS := fun w' hbw => boxed_step (w' := w') hX hbw hr hs
      rw [hy] at hc hw
      rw [ha] at c0 hw
      rw [hbb] at c1 hw
      rw [hr, hs] at hw
      have k1 : ∀ w' : World, Below wr.heap.size wr w' → w'.cell? ⟨w.heap.size + 1, 0, none⟩ = some (.complex .f64 a1 a2) := fun w' h => by rw [h.cell (p := ⟨w.heap.size + 1, 0, none⟩) hsz]; exact c0
      have k2 : ∀ w' : World, Below wr.heap.size wr w' → w'.cell? ⟨w.heap.size + 1, 1, none⟩ = some (.complex .f64 b1 b2) := fun w' h => by rw [h.cell (p := ⟨w.heap.size + 1, 1, none⟩) hsz]; exact c1
      have k3 : ∀ w' : World, Below wr.heap.size wr w' → w'.frozen? ⟨w.heap.size + 1, 0, none⟩ = false := fun w' h => by rw [h.frozen (p := ⟨w.heap.size + 1, 0, none⟩) hsz]; exact hX.g0
      have k4 : ∀ w' : World, Below wr.heap.size wr w' → w'.frozen? ⟨w.heap.size + 1, 1, none⟩ = false := fun w' h => by rw [h.frozen (p := ⟨w.heap.size + 1, 1, none⟩) hsz]; exact hX.g1
      clear hX hT hy ha hbb hr hs hl
      go_wp2_with fail
      refine (hw _).mono ?_
      rintro e w2 ⟨rfl, hbw⟩
      have k1' := k1 _ hbw
      have k2' := k2 _ hbw
      have k3' := k3 _ hbw
      have k4' := k4 _ hbw
      have hS' := hS _ hbw
      clear k1 k2 k3 k4 hS hw hbw
      go_wp2
      go_roundw
      case rel => exact ⟨k + 1, qmin lo y, qmax hi y, by omega, by go_num, hS', hT2⟩
      case measure => simp [intOf]; omega
    · have hlt' : ¬ (k : Int) < (m : Int) := by omega
      have hkm : k + 1 = l.length := by omega
      rw [hkm, List.take_length] at hT
      obtain ⟨a1, a2, ha⟩ : ∃ a1 a2, qe lo = .complex .f64 a1 a2 := ⟨_, _, rfl⟩
      obtain ⟨b1, b2, hbb⟩ : ∃ b1 b2, qe hi = .complex .f64 b1 b2 := ⟨_, _, rfl⟩
      rw [ha] at c0
      rw [hbb] at c1
      have r0 := hX.r0
      have r1 := hX.r1
      have f0 := hX.f0
      have f1 := hX.f1
      have hBB := hX.below
      have hzs : w.heap.size < wr.heap.size := by omega
      clear hl hX
      go_wp2
      refine bodyPost_ret (v := .agg #[.complex .f64 a1 a2, .complex .f64 b1 b2]) (by simp [results, Try.results42, go_sem, r0, r1]) rfl ⟨⟨lo, hi, by rw [ha, hbb], hT⟩, ?_⟩
      exact (hBB.setCell (by show w.heap.size ≤ w.heap.size; omega) _).setCell (by show w.heap.size ≤ w.heap.size; omega) _

/-- The answer is the least box, and no error. -/
def BoxAns2 (l : List Q) (e : Ending) : Prop := ∃ lo hi, e = .returned (.tuple #[.agg #[qe lo, qe hi], .int .i64 0]) ∧ BoxOf l lo hi

theorem at_lies {w : World} {b off : Nat} {l : List Q} (h : At w b off l) : Lies w b off (l.map qc) := fun k hk => by
  have hk' : k < l.length := by simpa using hk
  rw [h k hk']; simp [qe]
theorem lies_at {w : World} {b off : Nat} {l : List Q} (h : Lies w b off (l.map qc)) : At w b off l := fun k hk => by
  rw [h k (by simpa using hk)]; simp [qe]

set_option maxRecDepth 100000 in
set_option maxHeartbeats 800000 in
theorem bounds_any (l : List Q) (b off cap0 : Nat) (w : World) (hl : At w b off l) (hb : b < w.heap.size) (h3 : 3 ≤ l.length) (hn : l.length ≤ 32) (hcap : l.length ≤ cap0) :
    Calls Try.prog 19 #[.slice (some ⟨b, off, none⟩) l.length cap0] w fun e w' => BoxAns2 l e ∧ Below w.heap.size w w' := by
  have hst := store_complex
  have hb1 : ∀ o, Below w.heap.size w (w.alloc o) := fun o => (Below.refl _ _).alloc (Nat.le_refl _) _
  have c1 := fun o => checkShape_ok (l.map qc) b off cap0 (w.alloc o) (lies_below (at_lies hl) (hb1 o) hb) (qs_lim l) (by simpa using h3) (by simpa using hn)
  simp only [List.length_map] at c1
  have c2 := fun o => planeBounds_any l b off cap0 (w.alloc o) (hl.below (hb1 o) hb) (by simp; omega) (by omega) hn hcap
  clear hl
  go_enter Try.func19, Try.ntmps19
  go_wp2_with fail
  refine (c1 _).mono ?_
  rintro e w' ⟨rfl, rfl⟩
  go_wp2_with fail
  refine (c2 _).mono ?_
  rintro e w2 ⟨⟨lo, hi, rfl, hX⟩, hbw⟩
  have r0 : w2.cell? ⟨w.heap.size, 0, none⟩ = some (.complex .f64 0 0) := by rw [hbw.cell (p := ⟨w.heap.size, 0, none⟩) (by simp)]; simp [go_sem]
  have r1 : w2.cell? ⟨w.heap.size, 1, none⟩ = some (.complex .f64 0 0) := by rw [hbw.cell (p := ⟨w.heap.size, 1, none⟩) (by simp)]; simp [go_sem]
  have f0 : w2.frozen? ⟨w.heap.size, 0, none⟩ = false := by rw [hbw.frozen (p := ⟨w.heap.size, 0, none⟩) (by simp)]; simp [go_sem]
  have f1 : w2.frozen? ⟨w.heap.size, 1, none⟩ = false := by rw [hbw.frozen (p := ⟨w.heap.size, 1, none⟩) (by simp)]; simp [go_sem]
  have HB : Hid (Below w.heap.size w w2) := (hb1 _).trans (hbw.mono (by simp))
  obtain ⟨a1, a2, ha⟩ : ∃ a1 a2, qe lo = .complex .f64 a1 a2 := ⟨_, _, rfl⟩
  obtain ⟨b1, b2, hbb⟩ : ∃ b1 b2, qe hi = .complex .f64 b1 b2 := ⟨_, _, rfl⟩
  have HA : Hid (qe lo = .complex .f64 a1 a2 ∧ qe hi = .complex .f64 b1 b2) := ⟨ha, hbb⟩
  rw [ha, hbb]
  clear hbw ha hbb c1 c2
  go_wp2_with fail
  refine bodyPost_ret (v := .tuple #[.agg #[.complex .f64 a1 a2, .complex .f64 b1 b2], .int .i64 0]) (by simp [results, Try.results19, go_sem, r0, r1]) rfl ⟨⟨lo, hi, by rw [HA.out.1, HA.out.2], hX⟩, ?_⟩
  exact (HB.out.setCell (Nat.le_refl _) _).setCell (Nat.le_refl _) _
end Go.Proofs.Ytnlkalbkjocoaaa
