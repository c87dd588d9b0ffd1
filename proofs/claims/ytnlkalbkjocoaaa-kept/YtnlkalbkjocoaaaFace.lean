/-
  What the face's Twice and Winds answer on a shape (3 to 32 points).
-/
import Derived.Test.YtnlkalbkjocoaaaLoop
namespace Go.Proofs.Ytnlkalbkjocoaaa
open Go.RowKit

theorem areB_true {l : List C} (h : ∀ c ∈ l, c.lim 1048576) : areB l = true := by
  unfold areB; rw [List.all_eq_true]; intro c hc; exact (C.within_iff _ _).2 (h c hc)

theorem smalls {l : List C} (h : ∀ c ∈ l, c.lim 1048576) : ∀ c ∈ l, c.re.small ∧ c.im.small := fun c hc => ⟨C.small_re (h c hc) (by decide), C.small_im (h c hc) (by decide)⟩

set_option maxHeartbeats 400000 in
theorem checkPoints_ok (l : List C) (b off cap : Nat) (w : World) (hl : Lies w b off l) (hs : ∀ c ∈ l, c.lim 1048576) (lo hi : Nat) (h3 : lo ≤ l.length) (hn : l.length ≤ hi) (hi1 : hi ≤ 1000) :
    Calls Try.prog 40 #[.slice (some ⟨b, off, none⟩) l.length cap, .int .i64 lo, .int .i64 hi] w fun e w' => e = .returned (.int .i64 0) ∧ w' = w := by
  have hA := arePoints_any l b off cap w hl (smalls hs) (by omega)
  rw [areB_true hs] at hA
  clear hl hs
  go_enter Try.func40, Try.ntmps40
  go_wp2_with (go_at_call 38; refine hA.mono ?_; rintro e w' ⟨rfl, rfl⟩)
  go_ret
  exact ⟨rfl, rfl⟩

set_option maxHeartbeats 400000 in
theorem checkShape_ok (l : List C) (b off cap : Nat) (w : World) (hl : Lies w b off l) (hs : ∀ c ∈ l, c.lim 1048576) (h3 : 3 ≤ l.length) (hn : l.length ≤ 32) :
    Calls Try.prog 32 #[.slice (some ⟨b, off, none⟩) l.length cap] w fun e w' => e = .returned (.int .i64 0) ∧ w' = w := by
  have hA := checkPoints_ok l b off cap w hl hs 3 32 h3 hn (by decide)
  clear hl hs
  go_enter Try.func32, Try.ntmps32
  go_wp2_with (go_at_call 40; refine hA.mono ?_; rintro e w' ⟨rfl, rfl⟩)
  go_ret
  exact ⟨rfl, rfl⟩

/-- Twice the area of a list, as Twice answers it. -/
def twiceL (l : List C) (h0 : 0 < l.length) : Int := (sumZ Z0 l[l.length - 1] l).val
def windsL (q : C) (l : List C) (h0 : 0 < l.length) : Int × Bool := windsZ 0 (l[l.length - 1].sub q) (l.map (C.sub · q))

set_option maxHeartbeats 400000 in
theorem twice_ok (l : List C) (b off cap : Nat) (w : World) (hl : Lies w b off l) (hs : ∀ c ∈ l, c.lim 1048576) (h3 : 3 ≤ l.length) (hn : l.length ≤ 32) (h0 : 0 < l.length) :
    Calls Try.prog 12 #[.slice (some ⟨b, off, none⟩) l.length cap] w fun e w' => e = .returned (.tuple #[.int .i64 (twiceL l h0), .int .i64 0]) ∧ w' = w := by
  have hA := checkShape_ok l b off cap w hl hs h3 hn
  have hB : Calls Try.prog 33 #[.slice (some ⟨b, off, none⟩) l.length cap] w fun e w' => e = .returned (.int .i64 (twiceL l h0)) ∧ w' = w := planeTwice_any l b off cap w hl hs hn h0
  clear hl hs
  go_enter Try.func12, Try.ntmps12
  go_wp2_with (first | (go_at_call 32; refine hA.mono ?_; rintro e w' ⟨rfl, rfl⟩) | (go_at_call 33; refine hB.mono ?_; rintro e w' ⟨rfl, rfl⟩))
  go_ret2
  exact ⟨rfl, rfl⟩

set_option maxHeartbeats 400000 in
theorem winds_ok (l : List C) (q : C) (b off cap : Nat) (w : World) (hl : Lies w b off l) (hs : ∀ c ∈ l, c.lim 1048576) (hq : q.lim 1048576) (h3 : 3 ≤ l.length) (hn : l.length ≤ 32) (h0 : 0 < l.length) :
    Calls Try.prog 13 #[.slice (some ⟨b, off, none⟩) l.length cap, .complex .f64 q.re.bits q.im.bits] w fun e w' =>
      e = .returned (.tuple #[.int .i64 (windsL q l h0).1, .bool (windsL q l h0).2, .int .i64 0]) ∧ w' = w := by
  have hA := checkShape_ok l b off cap w hl hs h3 hn
  have hP := isPoint_any q (C.small_re hq (by decide)) (C.small_im hq (by decide)) w
  rw [(C.within_iff _ _).2 hq] at hP
  have hB : Calls Try.prog 35 #[.slice (some ⟨b, off, none⟩) l.length cap, .complex .f64 q.re.bits q.im.bits] w fun e w' => e = .returned (.tuple #[.int .i64 (windsL q l h0).1, .bool (windsL q l h0).2]) ∧ w' = w := planeWinds_any l q b off cap w hl hs hq hn h0
  clear hl hs hq
  go_enter Try.func13, Try.ntmps13
  go_wp2_with (first | (go_at_call 32; refine hA.mono ?_; rintro e w' ⟨rfl, rfl⟩) | (go_at_call 34; refine hP.mono ?_; rintro e w' ⟨rfl, rfl⟩) | (go_at_call 35; refine hB.mono ?_; rintro e w' ⟨rfl, rfl⟩))
  go_ret3
  exact ⟨rfl, rfl⟩
end Go.Proofs.Ytnlkalbkjocoaaa
