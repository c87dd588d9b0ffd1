/-
  What the loops of package plane answer on a list of points: ArePoints, Twice, Winds.
-/
import Derived.Test.YtnlkalbkjocoaaaLeaf2
namespace Go.Proofs.Ytnlkalbkjocoaaa
open Go.RowKit

/-- The cells at block b from off on hold the numbers of l. -/
def Lies (w : World) (b off : Nat) (l : List C) : Prop := ∀ k (h : k < l.length), w.cell? ⟨b, off + k, none⟩ = some (.complex .f64 l[k].re.bits l[k].im.bits)

theorem drop_step {α : Type} (l : List α) (k : Nat) (h : k < l.length) : l.drop k = l[k] :: l.drop (k + 1) := List.drop_eq_getElem_cons h

/-- Are all of them points? -/
def areB (l : List C) : Bool := l.all (C.within 1048576)

set_option maxHeartbeats 400000 in
theorem arePoints_any (l : List C) (b off cap : Nat) (w : World) (hl : Lies w b off l) (hs : ∀ c ∈ l, c.re.small ∧ c.im.small) (hn : l.length ≤ 1000) :
    Calls Try.prog 38 #[.slice (some ⟨b, off, none⟩) l.length cap] w fun e w' => e = .returned (.bool (areB l)) ∧ w' = w := by
  go_enter Try.func38, Try.ntmps38
  go_wp2
  go_loop [7] (fun i => ∃ k : Nat, k ≤ l.length ∧ i = .int .i64 k ∧ Hid (areB (l.drop k) = areB l)) (fun i => l.length - (intOf i).toNat)
  case atStart => exact ⟨0, Nat.zero_le _, rfl, rfl⟩
  case round =>
    obtain ⟨k, hk, rfl, HA⟩ := hrel
    by_cases hlt : k < l.length
    · have hcell := hl k hlt
      have hsm := hs _ (List.getElem_mem hlt)
      have hd := drop_step l k hlt
      have hA2 : areB (l.drop k) = (C.within 1048576 l[k] && areB (l.drop (k + 1))) := by rw [hd]; rfl
      generalize l[k] = c at hcell hsm hA2
      have hp := fun w => isPoint_any c hsm.1 hsm.2 w
      clear hd hsm hl hs
      cases g : C.within 1048576 c with
      | true =>
        rw [g] at hp hA2
        have H2 : Hid (areB (l.drop (k + 1)) = areB l) := by rw [← HA.out, hA2, Bool.true_and]; exact rfl
        clear hA2 HA g
        go_wp2_with (go_at_call 34; refine (hp _).mono ?_; rintro e w' ⟨rfl, rfl⟩)
        go_round
        case rel => exact ⟨k + 1, by omega, by go_num, H2⟩
        case measure => simp [intOf]; omega
      | false =>
        rw [g] at hp hA2
        have H2 : Hid (areB l = false) := by rw [← HA.out, hA2, Bool.false_and]; exact rfl
        clear hA2 HA g
        go_wp2_with (go_at_call 34; refine (hp _).mono ?_; rintro e w' ⟨rfl, rfl⟩)
        go_ret
        exact ⟨ret_bool H2.out.symm, rfl⟩
    · have H2 : Hid (areB l = true) := by rw [← HA.out, List.drop_of_length_le (by omega)]; exact rfl
      clear HA
      go_wp2
      go_ret
      exact ⟨ret_bool H2.out.symm, rfl⟩

/-- The sum that Twice goes through, from s on, behind the corner p. -/
def sumZ (s : Z) (p : C) : List C → Z
  | [] => s
  | c :: r => sumZ (s.add (p.conj.mul c).im) c r

def Z0 : Z := ⟨false, 0⟩
theorem Z0_bits : (0 : Nat) = Z0.bits := zero_bits

set_option maxHeartbeats 400000 in
theorem planeTwice_any (l : List C) (b off cap : Nat) (w : World) (hl : Lies w b off l) (hs : ∀ c ∈ l, c.lim 1048576) (hn : l.length ≤ 32) (h0 : 0 < l.length) :
    Calls Try.prog 33 #[.slice (some ⟨b, off, none⟩) l.length cap] w fun e w' => e = .returned (.int .i64 (sumZ Z0 l[l.length - 1] l).val) ∧ w' = w := by
  have hlast := hl (l.length - 1) (by omega)
  have hlastl := hs _ (List.getElem_mem (show l.length - 1 < l.length by omega))
  have hR : ∃ R, R = (sumZ Z0 l[l.length - 1] l) := ⟨_, rfl⟩
  obtain ⟨R, hR⟩ := hR
  rw [← hR]
  generalize l[l.length - 1] = last at hlast hlastl hR
  have HR : Hid (R = sumZ Z0 last l) := hR
  clear hR
  go_enter Try.func33, Try.ntmps33
  go_wp2
  go_loop [3, 4, 15] (fun s f i => ∃ (k : Nat) (z : Z) (p : C), k ≤ l.length ∧ i = .int .i64 k ∧ s = .float .f64 z.bits ∧ f = .complex .f64 p.re.bits p.im.bits ∧ p.lim 1048576 ∧ (-(k * 2199023255552 : Int) ≤ z.val ∧ z.val ≤ k * 2199023255552) ∧ Hid (R = sumZ z p (l.drop k)))
    (fun _ _ i => l.length - (intOf i).toNat)
  case atStart => exact ⟨0, Z0, last, Nat.zero_le _, rfl, by rw [← Z0_bits], rfl, hlastl, by decide, HR⟩
  case round =>
    obtain ⟨k, z, p, hk, rfl, rfl, rfl, hp, hz, HA⟩ := hrel
    by_cases hlt : k < l.length
    · have hcell := hl k hlt
      have hsm := hs _ (List.getElem_mem hlt)
      have hd := drop_step l k hlt
      have hA2 : sumZ z p (l.drop k) = sumZ (z.add (p.conj.mul l[k]).im) l[k] (l.drop (k + 1)) := by rw [hd]; rfl
      generalize l[k] = c at hcell hsm hA2
      have hc := fun w => cross_any p c 1048576 1048576 hp hsm (by decide) (by decide) (by decide) w
      have hcl := C.lim_mul (C.lim_conj hp) hsm
      have hcy := hcl.2
      unfold C.Y at hcy
      have hzs : (z.add (p.conj.mul c).im).val = z.val + (p.conj.mul c).im.val := Z.val_add _ _
      have hop := fun t w => run_float_arith (P := Try.prog) w .add t .f64 _ _ _ (Z.bits_add z (p.conj.mul c).im (Z.small_of (by omega)) (C.small_im hcl (by decide)) (Z.small_of (by rw [hzs]; omega)))
      have H2 : Hid (R = sumZ (z.add (p.conj.mul c).im) c (l.drop (k + 1))) := by rw [← hA2]; exact HA
      have h3 : -((k + 1 : Nat) * 2199023255552 : Int) ≤ (z.add (p.conj.mul c).im).val ∧ (z.add (p.conj.mul c).im).val ≤ (k + 1 : Nat) * 2199023255552 := by rw [hzs]; omega
      have H3 : Hid (-((k + 1 : Nat) * 2199023255552 : Int) ≤ (z.add (p.conj.mul c).im).val ∧ (z.add (p.conj.mul c).im).val ≤ (k + 1 : Nat) * 2199023255552) := h3
      clear h3
      clear hd hl hs hA2 hcl hcy hzs HA hz hp
      go_wp2_with (go_at_call 55; refine (hc _).mono ?_; rintro e w' ⟨rfl, rfl⟩)
      go_round
      case rel => exact ⟨k + 1, _, c, by omega, by go_num, rfl, rfl, hsm, H3.out, H2⟩
      case measure => simp [intOf]; omega
    · have hR2 : R = z := by rw [HA.out, List.drop_of_length_le (by omega)]; rfl
      have hcv : ∀ w, (convert 61 3 (.float .f64 z.bits)).run Try.prog w = .ok (.int .i64 z.val) w := fun w => run_convert_float_int w 61 3 .f64 .i64 z.bits z.val (by rw [Try.underlying61]; rfl) Try.underlying3 (Z.toInt_bits _ (Z.small_of (by omega)))
      have H2 : Hid (R = z) := hR2
      clear hR2 HA hl hs
      go_wp2
      go_ret
      exact ⟨ret_int (by rw [H2.out]), rfl⟩

theorem ret_ib {a b : Int} {c d : Bool} (h : a = b) (h' : c = d) : Ending.returned (.tuple #[.int .i64 a, .bool c]) = .returned (.tuple #[.int .i64 b, .bool d]) := by rw [h, h']

/-- How often the edges go around, from t on, behind the corner p (all seen from the point); none if one touches it. -/
def windsZ (t : Int) (p : C) : List C → Int × Bool
  | [] => (t, false)
  | c :: r => if C.touchB p c then (0, true) else windsZ (t + C.rayI p c) c r

theorem rayI_bd (a b : C) : -1 ≤ C.rayI a b ∧ C.rayI a b ≤ 1 := by unfold C.rayI; split <;> (try split) <;> omega

set_option maxHeartbeats 400000 in
theorem planeWinds_any (l : List C) (q : C) (b off cap : Nat) (w : World) (hl : Lies w b off l) (hs : ∀ c ∈ l, c.lim 1048576) (hq : q.lim 1048576) (hn : l.length ≤ 32) (h0 : 0 < l.length) :
    Calls Try.prog 35 #[.slice (some ⟨b, off, none⟩) l.length cap, .complex .f64 q.re.bits q.im.bits] w fun e w' =>
      e = .returned (.tuple #[.int .i64 (windsZ 0 (l[l.length - 1].sub q) (l.map (C.sub · q))).1, .bool (windsZ 0 (l[l.length - 1].sub q) (l.map (C.sub · q))).2]) ∧ w' = w := by
  have hlast := hl (l.length - 1) (by omega)
  have hlastl := hs _ (List.getElem_mem (show l.length - 1 < l.length by omega))
  have hR : ∃ R, R = (windsZ 0 (l[l.length - 1].sub q) (l.map (C.sub · q))) := ⟨_, rfl⟩
  obtain ⟨R, hR⟩ := hR
  rw [← hR]
  generalize l[l.length - 1] = last at hlast hlastl hR
  have HR : Hid (R = windsZ 0 (last.sub q) (l.map (C.sub · q))) := hR
  clear hR
  have hop0 := fun t w => run_complex_sum (P := Try.prog) w .sub (Or.inr rfl) t .f64 _ _ _ _ _ _ (C.bits_sub hlastl hq (by decide) (by decide) (by decide))
  go_enter Try.func35, Try.ntmps35
  go_wp2
  go_loop [4, 6, 20] (fun s f i => ∃ (k : Nat) (z : Int) (p : C), k ≤ l.length ∧ i = .int .i64 k ∧ s = .int .i64 z ∧ f = .complex .f64 p.re.bits p.im.bits ∧ p.lim 2097152 ∧ -(k : Int) ≤ z ∧ z ≤ k ∧ Hid (R = windsZ z p ((l.drop k).map (C.sub · q))))
    (fun _ _ i => l.length - (intOf i).toNat)
  case atStart => exact ⟨0, 0, last.sub q, Nat.zero_le _, rfl, rfl, rfl, C.lim_sub hlastl hq, by decide, by decide, HR⟩
  case round =>
    obtain ⟨k, z, p, hk, rfl, rfl, rfl, hp, hz, hz', HA⟩ := hrel
    by_cases hlt : k < l.length
    · have hcell := hl k hlt
      have hsm := hs _ (List.getElem_mem hlt)
      have hd := drop_step l k hlt
      have hA2 : windsZ z p ((l.drop k).map (C.sub · q)) = if C.touchB p (l[k].sub q) then (0, true) else windsZ (z + C.rayI p (l[k].sub q)) (l[k].sub q) ((l.drop (k + 1)).map (C.sub · q)) := by rw [hd]; rfl
      generalize l[k] = c at hcell hsm hA2
      have hop := fun t w => run_complex_sum (P := Try.prog) w .sub (Or.inr rfl) t .f64 _ _ _ _ _ _ (C.bits_sub hsm hq (by decide) (by decide) (by decide))
      have hcq : (c.sub q).lim 2097152 := C.lim_sub hsm hq
      have ht := fun w => touches_any p (c.sub q) 2097152 2097152 hp hcq (by decide) (by decide) (by decide) w
      have hr := fun w => ray_any p (c.sub q) 2097152 2097152 hp hcq (by decide) (by decide) (by decide) w
      have hrb := rayI_bd p (c.sub q)
      clear hd hl hs hop0
      cases g : C.touchB p (c.sub q) with
      | true =>
        rw [g] at ht hA2
        rw [if_pos rfl] at hA2
        have H2 : Hid (R = (0, true)) := by rw [← hA2]; exact HA
        clear hA2 HA g hr hrb hp hz hz'
        go_wp2_with (go_at_call 57; refine (ht _).mono ?_; rintro e w' ⟨rfl, rfl⟩)
        go_ret2
        exact ⟨ret_ib (by rw [H2.out]) (by rw [H2.out]), rfl⟩
      | false =>
        rw [g] at ht hA2
        rw [if_neg (by decide)] at hA2
        have H2 : Hid (R = windsZ (z + C.rayI p (c.sub q)) (c.sub q) ((l.drop (k + 1)).map (C.sub · q))) := by rw [← hA2]; exact HA
        generalize C.rayI p (c.sub q) = r at hr hrb H2
        clear hA2 HA g hp
        go_wp2_with (first | (go_at_call 57; refine (ht _).mono ?_; rintro e w' ⟨rfl, rfl⟩) | (go_at_call 58; refine (hr _).mono ?_; rintro e w' ⟨rfl, rfl⟩))
        go_round
        case rel => exact ⟨k + 1, z + r, c.sub q, by omega, by go_num, rfl, rfl, hcq, by omega, by omega, H2⟩
        case measure => simp [intOf]; omega
    · have hR2 : R = (z, false) := by rw [HA.out, List.drop_of_length_le (by omega)]; rfl
      have H2 : Hid (R = (z, false)) := hR2
      clear hR2 HA hl hs
      go_wp2
      go_ret2
      exact ⟨ret_ib (by rw [H2.out]) (by rw [H2.out]), rfl⟩
end Go.Proofs.Ytnlkalbkjocoaaa
