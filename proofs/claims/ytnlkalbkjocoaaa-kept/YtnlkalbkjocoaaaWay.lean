/-
  What rightmostWay answers: the way along sorted points, in new memory.
-/
import Derived.Test.YtnlkalbkjocoaaaSteps
import Derived.Test.YtnlkalbkjocoaaaLess
import Derived.BigQuiet
import Derived.WalkSmall
namespace Go.Proofs.Ytnlkalbkjocoaaa
open Go.Shelf Go.RowKit

theorem owns_at {w : World} {base g n cap : Nat} {s : List Q} (h : Owns w base (.slice (some ⟨g, 0, none⟩) n cap) s) : At w g 0 s := by
  intro k hk
  obtain ⟨g', cap', e, -, -, -, -, -, hH⟩ := Go.Lib.holds_of_ownsRow h (by simp)
  cases e
  have := (hH k (by simpa using hk)).1
  rw [getElem!_pos s.toArray k (by simpa using hk)] at this
  simpa using this

/-- What the loops keep: 'way' is a slice of the call's own that holds the way, its top last. -/
structure Ways (w wr : World) (a : Option Addr) (cap : Nat) (st : List Q) : Prop where
  below : Below w.heap.size w wr
  own : wr.ownsRow w.heap.size 26 1 (.slice a st.length cap) st.length (st.reverse.map qe)

theorem Ways.form {w wr : World} {a : Option Addr} {cap : Nat} {st : List Q} (h : Ways w wr a cap st) (h0 : 0 < st.length) : ∃ g, a = some ⟨g, 0, none⟩ ∧ st.length ≤ cap ∧ w.heap.size ≤ g ∧ g < wr.heap.size := by
  rcases h.own.2 with h2 | ⟨g, cap', cur, hv, hb, hg, hn, -⟩
  · omega
  · injection hv with e1 _ e2
    subst e1 e2
    exact ⟨g, rfl, hn, hb, (h.own.lt g rfl).2⟩

theorem Ways.at {w wr : World} {g cap : Nat} {st : List Q} (h : Ways w wr (some ⟨g, 0, none⟩) cap st) (k : Nat) (hk : k < st.length) : wr.cell? ⟨g, st.length - 1 - k, none⟩ = some (qe st[k]) := by
  have hw := h.own
  have hl : st.length = st.reverse.length := by simp
  have h' : Owns wr w.heap.size (.slice (some ⟨g, 0, none⟩) st.length cap) st.reverse := by unfold Owns; rw [← hl]; exact hw
  have := owns_at h' (st.length - 1 - k) (by simp; omega)
  rw [Nat.zero_add] at this
  rw [this, List.getElem_reverse]
  have e : st.length - 1 - (st.length - 1 - k) = k := by omega
  simp only [e]

theorem Ways.pop {w wr : World} {g cap : Nat} {x : Q} {st : List Q} (h : Ways w wr (some ⟨g, 0, none⟩) cap (x :: st)) : Ways w wr (some ⟨g, 0, none⟩) cap st := by
  refine ⟨h.below, ?_⟩
  have hw := h.own
  rw [List.reverse_cons, List.map_append] at hw
  exact ownsRow_pop (by simp) hw

theorem Ways.drewN {w wr : World} {a : Option Addr} {cap : Nat} {st : List Q} (h : Ways w wr a cap st) (n : Nat) : Ways w (wr.drewN n) a cap st := ⟨⟨h.below.os, h.below.tape, h.below.output, h.below.size, h.below.block⟩, ⟨h.own.1, h.own.2⟩⟩

theorem Ways.push {w wr w1 : World} {a : Option Addr} {cap g cap' : Nat} {st : List Q} {z : Q} {o : Obj} (h : Ways w wr a cap st)
    (hown : w1.ownsRow w.heap.size 26 1 (.slice (some ⟨g, 0, none⟩) (st.length + 1) cap') (st.length + 1) (st.reverse.map qe ++ [qe z]))
    (hg : (wr.alloc o).grownBy w1 (Value.slice a st.length cap).ownBlock) : Ways w w1 (some ⟨g, 0, none⟩) cap' (z :: st) := by
  refine ⟨(h.below.alloc h.below.size o).grown hg (by have := h.below.size; simp; omega) (fun k hk => (h.own.lt k hk).1), ?_⟩
  simpa using hown

theorem qarea_eq (a b c : Q) : qarea a b c = area qx qy a b c := rfl

set_option maxRecDepth 100000 in
set_option maxHeartbeats 1600000 in
theorem way_any (s : List Q) (b off cap0 : Nat) (w : World) (hs : At w b off s) (hb : b < w.heap.size) (hn : s.length ≤ 64) :
    Calls Try.prog 64 #[.slice (some ⟨b, off, none⟩) s.length cap0] w fun e w' => ∃ (a : Option Addr) (cap : Nat), e = .returned (.slice a (wayW qx qy [] s).length cap) ∧ Ways w w' a cap (wayW qx qy [] s) := by
  obtain ⟨i0, hi0, hz0, hz1, hz2⟩ := info_parts Try.info26
  obtain ⟨R, hR⟩ : ∃ R, R = wayW qx qy [] s := ⟨_, rfl⟩
  rw [← hR]
  have HR : Hid (wayW qx qy [] (s.drop 0) = R) := hR.symm
  clear hR
  go_enter Try.func64, Try.ntmps64
  go_wp2
  go_loopw [3, 8] (fun v i wr => ∃ (k : Nat) (st : List Q) (a : Option Addr) (cap : Nat), k ≤ s.length ∧ st.length ≤ k ∧ i = .int .i64 k ∧ v = .slice a st.length cap ∧ Ways w wr a cap st ∧ Hid (wayW qx qy st (s.drop k) = R))
    (fun _ i _ => s.length - (intOf i).toNat)
  case atStart => exact ⟨0, [], none, 0, Nat.zero_le _, Nat.le_refl _, rfl, rfl, ⟨Below.refl _ _, World.ownsRow_nil _ _ _ _⟩, HR⟩
  case round =>
    obtain ⟨k, st, a, cap, hk, hst, rfl, rfl, hW, HA⟩ := hrel
    clear HR
    by_cases hlt : k < s.length
    · have hcell : wr.cell? ⟨b, off + k, none⟩ = some (qe s[k]) := by rw [hW.below.cell (p := ⟨b, off + k, none⟩) hb]; exact hs k hlt
      have HA2 : Hid (wayW qx qy (s[k] :: popW qx qy s[k] st) (s.drop (k + 1)) = R) := by have := HA.out; rw [drop_step s k hlt] at this; exact this
      generalize s[k] = z at hcell HA2
      obtain ⟨zr, zi, hz⟩ : ∃ zr zi, qe z = .complex .f64 zr zi := ⟨_, _, rfl⟩
      rw [hz] at hcell
      have HZ : Hid (qe z = .complex .f64 zr zi) := hz
      clear hz
      have hlt' : (k : Int) < (s.length : Int) := by omega
      clear hs HA
      go_wp2
      go_loopw [3] (fun v wr => ∃ (su : List Q) (a : Option Addr) (cap : Nat), su.length ≤ st.length ∧ v = .slice a su.length cap ∧ Ways w wr a cap su ∧ Hid (popW qx qy z su = popW qx qy z st)) (fun v _ => lenOf v)
      case atStart => exact ⟨st, a, cap, Nat.le_refl _, rfl, hW, rfl⟩
      case round =>
        clear hW hcell
        obtain ⟨su, a, cap, hsu, rfl, hW, HP⟩ := hrel
        by_cases h2 : 1 < su.length
        · obtain ⟨x, y, r, rfl⟩ : ∃ x y r, su = x :: y :: r := by
            match su, h2 with
            | x :: y :: r, _ => exact ⟨x, y, r, rfl⟩
          obtain ⟨g, rfl, hcap, hg1, hg2⟩ := hW.form (by simp)
          have c1 := hW.at 0 (by simp)
          have c2 := hW.at 1 (by simp)
          have hP : Hid (popW qx qy z (x :: y :: r) = if 0 < qarea y x z then x :: y :: r else popW qx qy z (y :: r)) := rfl
          have hW2 := hW.pop
          have hLr : (y :: r).length + 1 = (x :: y :: r).length := rfl
          generalize hL : (x :: y :: r).length = L at *
          simp only [List.getElem_cons_zero, List.getElem_cons_succ] at c1 c2
          obtain ⟨xr, xi, hx⟩ : ∃ xr xi, qe x = .complex .f64 xr xi := ⟨_, _, rfl⟩
          obtain ⟨yr, yi, hy⟩ : ∃ yr yi, qe y = .complex .f64 yr yi := ⟨_, _, rfl⟩
          have hbl := fun w => bendsLeft_any y x z w
          rw [hx] at c1 hbl
          rw [hy] at c2 hbl
          rw [HZ.out] at hbl
          have f1 : (1 : Int) < (L : Int) := by omega
          have f2 : IntKind.i64.wrap ((L : Int) - 2) = (L : Int) - 2 := by rw [IntKind.wrap_i64]; omega
          have f3 : IntKind.i64.wrap ((L : Int) - 1) = (L : Int) - 1 := by rw [IntKind.wrap_i64]; omega
          have f4 : (0 : Int) ≤ (L : Int) - 2 := by omega
          have f5 : (0 : Int) ≤ (L : Int) - 1 := by omega
          have f6 : (L : Int) - 2 < (L : Int) := by omega
          have f7 : (L : Int) - 1 < (L : Int) := by omega
          have f8 : ((L : Int) - 2).toNat = L - 2 := by omega
          have f9 : ((L : Int) - 1).toNat = L - 1 := by omega
          have f10 : L - 1 - 0 = L - 1 := by omega
          have f11 : L - 1 - 1 = L - 2 := by omega
          rw [f10] at c1
          rw [f11] at c2
          have HW : Hid (Ways w wr (some ⟨g, 0, none⟩) cap (x :: y :: r)) := hW
          have HW2 : Hid (Ways w wr (some ⟨g, 0, none⟩) cap (y :: r)) := hW2
          clear hx hy hW hW2 f10 f11
          by_cases hpos : 0 < qarea y x z
          · have hP2 : Hid (popW qx qy z (x :: y :: r) = x :: y :: r) := by have := hP.out; rw [if_pos hpos] at this; exact this
            rw [decide_eq_true hpos] at hbl
            clear hpos hP
            go_wp2_with fail
            go_quiet ((go_at_call 88; exact Calls.quiet_of_same (hbl _)))
            rename_i nq
            have hWn := HW.out.drewN nq
            have hown := hWn.own
            have hbase : w.heap.size ≤ wr.heap.size := HW.out.below.size
            rw [hL] at hown
            obtain ⟨xs, hxs⟩ : ∃ xs, xs = (x :: y :: r).reverse.map qe := ⟨_, rfl⟩
            rw [← hxs] at hown
            have HXS : Hid (xs = (x :: y :: r).reverse.map qe) := hxs
            clear hxs
            go_wp2_with (at_builtin; refine wpList_append_lies _ rfl _ _ 24 rfl w.heap.size 26 i0 _ 1 16 Try.underlying24 hi0 hz0 hz1 hz2 rfl (by omega) (.slice (some ⟨g, 0, none⟩) L cap) L xs rfl (hown.alloc _) ⟨(wr.drewN nq).heap.size, 0, none⟩ 1 1 [.complex .f64 zr zi] rfl rfl (World.news_of_block (cs := #[.complex .f64 zr zi]) (t := 26) (fr := (0, 0)) (heap_alloc_new (wr.drewN nq) _)) (by simp [Value.oneCell']) (by omega) (by unfold maxLen; omega) (by omega) (by simp; omega) ((wr.drewN nq).heap.size + 1) (by simp) ?_)
            intro gg cap' w1 hown1 hgrow hatt hlt1
            rw [← HZ.out, HXS.out] at hown1
            have hO := hWn.push (by rw [hL]; exact hown1) (by rw [hL]; exact hgrow)
            have HA3 : Hid (wayW qx qy (z :: (x :: y :: r)) (s.drop (k + 1)) = R) := by have := HA2.out; rw [← HP.out, hP2.out] at this; exact this
            clear hown1 hgrow hatt hlt1 hown hWn HW HP hP2 HA2
            go_wp2
            go_roundw
            case rel => exact ⟨k + 1, z :: (x :: y :: r), some ⟨gg, 0, none⟩, cap', by omega, by rw [List.length_cons, hL]; omega, by go_num, by rw [List.length_cons, hL], hO, HA3⟩
            case measure => simp [intOf]; omega
          · have hP2 : Hid (popW qx qy z (x :: y :: r) = popW qx qy z (y :: r)) := by have := hP.out; rw [if_neg hpos] at this; exact this
            rw [decide_eq_false hpos] at hbl
            clear hpos hP
            go_wp2_with fail
            go_quiet ((go_at_call 88; exact Calls.quiet_of_same (hbl _)))
            rename_i nq
            have hWn := HW2.out.drewN nq
            have g1 : (L : Int) - 1 ≤ (cap : Int) := by omega
            have g2 : Hid (L - 1 = (y :: r).length) := (by omega : L - 1 = (y :: r).length)
            have HQ : Hid (popW qx qy z (y :: r) = popW qx qy z st) := by rw [← hP2.out]; exact HP
            have hle : (y :: r).length ≤ st.length := by omega
            clear hLr hL
            go_wp2
            go_roundw
            case rel => exact ⟨y :: r, some ⟨g, 0, none⟩, cap, hle, by rw [g2.out], hWn, HQ⟩
            case measure => simp [lenOf]; omega
        · have hP2 : Hid (popW qx qy z su = su) := by
            match su, h2 with
            | [], _ => exact rfl
            | [_], _ => exact rfl
            | _ :: _ :: _, h => exact absurd (by simp) h
          have f1 : ¬ (1 : Int) < (su.length : Int) := by omega
          have f2 : decide ((su.length : Int) > 1) = false := by simp; omega
          have HW : Hid (Ways w wr a cap su) := hW
          clear hW
          go_wp2_with fail
          go_quiet (fail)
          rename_i nq
          have hWn := HW.out.drewN nq
          have hown := hWn.own
          have hbase : w.heap.size ≤ wr.heap.size := HW.out.below.size
          obtain ⟨xs, hxs⟩ : ∃ xs, xs = su.reverse.map qe := ⟨_, rfl⟩
          rw [← hxs] at hown
          have HXS : Hid (xs = su.reverse.map qe) := hxs
          clear hxs
          go_wp2_with (at_builtin; refine wpList_append_lies _ rfl _ _ 24 rfl w.heap.size 26 i0 _ 1 16 Try.underlying24 hi0 hz0 hz1 hz2 rfl (by omega) (.slice a su.length cap) su.length xs rfl (hown.alloc _) ⟨(wr.drewN nq).heap.size, 0, none⟩ 1 1 [.complex .f64 zr zi] rfl rfl (World.news_of_block (cs := #[.complex .f64 zr zi]) (t := 26) (fr := (0, 0)) (heap_alloc_new (wr.drewN nq) _)) (by simp [Value.oneCell']) (by omega) (by unfold maxLen; omega) (by omega) (by simp; omega) ((wr.drewN nq).heap.size + 1) (by simp) ?_)
          intro gg cap' w1 hown1 hgrow hatt hlt1
          rw [← HZ.out, HXS.out] at hown1
          have hO := hWn.push (by exact hown1) (by exact hgrow)
          have HA3 : Hid (wayW qx qy (z :: su) (s.drop (k + 1)) = R) := by have := HA2.out; rw [← HP.out, hP2.out] at this; exact this
          clear hown1 hgrow hatt hlt1 hown hWn HW HP hP2 HA2
          go_wp2
          go_roundw
          case rel => exact ⟨k + 1, z :: su, some ⟨gg, 0, none⟩, cap', by omega, by rw [List.length_cons]; omega, by go_num, by rw [List.length_cons], hO, HA3⟩
          case measure => simp [intOf]; omega
    · have hlt' : ¬ (k : Int) < (s.length : Int) := by omega
      have e : R = st := by have := HA.out; rw [List.drop_of_length_le (by omega)] at this; exact this.symm
      subst e
      go_wp2
      go_ret
      exact ⟨a, cap, rfl, hW⟩
end Go.Proofs.Ytnlkalbkjocoaaa
