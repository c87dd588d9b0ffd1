/-
  What the law Nearest's walk is told of a slice of steps that came in.
-/
import Derived.Test.YtnlkalbkjocoaaaEqT
import Derived.Test.YtnlkalbkjocoaaaRow
import Derived.Deep.Slices
import Derived.Deep.SlicePairs
namespace Go.Proofs.Ytnlkalbkjocoaaa
open Go.ChangeShapes Go.WideShapes Go.ChangeAt Go.RowKit Go.Deep

/-- What the walk is told of a slice of steps. -/
def IsSteps (w : World) (a : Option Addr) (len cap : Nat) : Prop :=
  (a = none ∧ len = 0 ∧ cap = 0) ∨ ∃ x, a = some x ∧ len ≤ cap ∧ cap ≤ maxLen ∧ ∀ i, i < len → ∃ s : Stp, w.cell? (x.add (i * 5)) = some (.int .i64 s.kd) ∧ w.cell? (x.add (i * 5 + 1)) = some (.int .i64 s.id) ∧ w.cell? (x.add (i * 5 + 2)) = some (.int .i64 s.x) ∧
    w.cell? (x.add (i * 5 + 3)) = some (.int .i64 s.y) ∧ w.cell? (x.add (i * 5 + 4)) = some (.int .i64 s.z) ∧ i64B s.id ∧ i64B s.x ∧ i64B s.y ∧ i64B s.z ∧ i64B s.kd

theorem steps_open {H : Type} {enc : TypeId × Value → H} {w : World} {base : Nat} {spare : Nat → Bool} {held : Bool} {fuel : Nat} {a : Option Addr} {len cap : Nat} {x : DataW H × List MemPlace}
    (h : DataW.trod enc Try.prog w base spare held fuel 51 [.slice a len cap] = some x) : IsSteps w a len cap := by
  rcases open_slice Try.underlying51 h with ⟨h0, -⟩ | ⟨ad, len', cap', m, n, D, Pl, hcs, hb, hl, hm, hmm, -, hx⟩
  · simp at h0
    obtain ⟨rfl, rfl, rfl⟩ := h0
    exact .inl ⟨rfl, rfl, rfl⟩
  · simp at hcs
    obtain ⟨rfl, rfl, rfl⟩ := hcs
    have hlm : len ≤ m := by rw [hmm]; split <;> omega
    refine .inr ⟨ad, rfl, hl, hm, fun i hi => ?_⟩
    obtain ⟨cs', h1, h2⟩ := hx i (by omega)
    rw [show Try.prog.cellsOf 57 = 5 by kernel_rfl] at h1
    obtain ⟨_, hlen, hcell⟩ := World.cells?_some h1
    obtain ⟨xs, k, hk, hxy, _, hxl, hf⟩ := DataW.trod_struct Try.underlying57 h2
    have c1 : Try.prog.cellsOf 3 = 1 := by kernel_rfl
    have h5 : xs.length = 5 := hxl
    have get : ∀ j, j < 5 → ∃ y, xs[j]? = some y := fun j hj => ⟨xs[j], List.getElem?_eq_getElem (by omega)⟩
    obtain ⟨y0, q0⟩ := get 0 (by omega)
    obtain ⟨y1, q1⟩ := get 1 (by omega)
    obtain ⟨y2, q2⟩ := get 2 (by omega)
    obtain ⟨y3, q3⟩ := get 3 (by omega)
    obtain ⟨y4, q4⟩ := get 4 (by omega)
    have g0 := (hf 0 _ rfl).trans q0
    have g1 := (hf 1 _ rfl).trans q1
    have g2 := (hf 2 _ rfl).trans q2
    have g3 := (hf 3 _ rfl).trans q3
    have g4 := (hf 4 _ rfl).trans q4
    obtain ⟨n0, m0, -, b0⟩ := DataW.trod_int Try.underlying3 g0
    obtain ⟨n1, m1, -, b1⟩ := DataW.trod_int Try.underlying3 g1
    obtain ⟨n2, m2, -, b2⟩ := DataW.trod_int Try.underlying3 g2
    obtain ⟨n3, m3, -, b3⟩ := DataW.trod_int Try.underlying3 g3
    obtain ⟨n4, m4, -, b4⟩ := DataW.trod_int Try.underlying3 g4
    have e0 := hcell 0 (by omega)
    have e1 := hcell 1 (by omega)
    have e2 := hcell 2 (by omega)
    have e3 := hcell 3 (by omega)
    have e4 := hcell 4 (by omega)
    rw [add_add] at e0 e1 e2 e3 e4
    have pick : ∀ (o : Nat) (v : Value), (cs'.drop o).take 1 = [v] → cs'[o]? = some v := fun o v hv => by
      have := congrArg (fun l => l[0]?) hv
      simpa using this
    change List.take (Try.prog.cellsOf 3) (List.drop 0 cs') = _ at m0
    rw [c1] at m0
    change List.take (Try.prog.cellsOf 3) (List.drop 1 cs') = _ at m1
    rw [c1] at m1
    change List.take (Try.prog.cellsOf 3) (List.drop 2 cs') = _ at m2
    rw [c1] at m2
    change List.take (Try.prog.cellsOf 3) (List.drop 3 cs') = _ at m3
    rw [c1] at m3
    change List.take (Try.prog.cellsOf 3) (List.drop 4 cs') = _ at m4
    rw [c1] at m4
    have p0 := pick 0 _ m0
    have p1 := pick 1 _ m1
    have p2 := pick 2 _ m2
    have p3 := pick 3 _ m3
    have p4 := pick 4 _ m4
    exact ⟨⟨n0, n1, n2, n3, n4⟩, by rw [← p0]; exact e0, by rw [← p1]; exact e1, by rw [← p2]; exact e2, by rw [← p3]; exact e3, by rw [← p4]; exact e4, wf_i64 b1, wf_i64 b2, wf_i64 b3, wf_i64 b4, wf_i64 b0⟩

/-- The steps as the law's walk wants them. -/
theorem steps_raw {w : World} {a : Option Addr} {len cap : Nat} (h : IsSteps w a len cap) : ∃ (st : List Stp) (b off : Nat), st.length = len ∧ (∀ k (h : k < st.length), a = some ⟨b, off, none⟩ ∧ StpAt w b (off + k * 5) st[k]) ∧ st.length ≤ 9223372036854775807 := by
  rcases h with ⟨rfl, rfl, rfl⟩ | ⟨x, rfl, hl, hm, hs⟩
  · exact ⟨[], 0, 0, rfl, fun k h => absurd h (by simp), by simp⟩
  · unfold maxLen at hm
    by_cases h0 : len = 0
    · subst h0; exact ⟨[], 0, 0, rfl, fun k h => absurd h (by simp), by simp⟩
    · obtain ⟨b, off, spot⟩ := x
      obtain ⟨s0, hc, -⟩ := hs 0 (by omega)
      have hspot : spot = none := by simpa [Addr.add] using World.cell?_spot hc
      subst hspot
      have ha : ∀ k, (⟨b, off, none⟩ : Addr).add k = ⟨b, off + k, none⟩ := fun k => by unfold Addr.add; split <;> simp_all
      have key : ∀ i, ∃ s : Stp, i < len → StpAt w b (off + i * 5) s := fun i => by
        by_cases hi : i < len
        · obtain ⟨s, k0, k1, k2, k3, k4, r1, r2, r3, r4, r0⟩ := hs i hi
          rw [ha] at k0 k1 k2 k3 k4
          exact ⟨s, fun _ => ⟨k0, by rw [← k1]; rfl, by rw [← k2]; rfl, by rw [← k3]; rfl, by rw [← k4]; rfl, r1, r2, r3, r4, r0⟩⟩
        · exact ⟨s0, fun h => absurd h hi⟩
      refine ⟨(List.range len).map fun i => Classical.choose (key i), b, off, by simp, fun k hk => ⟨rfl, ?_⟩, by simp; omega⟩
      have hk' : k < len := by simpa using hk
      have := Classical.choose_spec (key k) hk'
      simpa using this
end Go.Proofs.Ytnlkalbkjocoaaa
