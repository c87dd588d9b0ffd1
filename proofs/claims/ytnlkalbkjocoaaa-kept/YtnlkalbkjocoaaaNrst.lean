/-
  nearest: the distances, sorted.
-/
import Derived.Test.YtnlkalbkjocoaaaRound
import Derived.Test.YtnlkalbkjocoaaaSrt
namespace Go.Proofs.Ytnlkalbkjocoaaa
open Go.Shelf Go.RowKit

attribute [local go_sem] Oper.semAt_some

/-- The distance of an item from p. -/
def dOf (p : Q) (V : Nat → Q × Q) (i : Nat) (hi : i < 1000) : D := (⟨(distQ p (V i).1 (V i).2).toNat, by have := distQ_bd p (V i).1 (V i).2; omega⟩, ⟨i, hi⟩)

/-- What is known of an item: its id, and its shape's box. -/
def NearR (w : World) (V : Nat → Q × Q) (x : Nat × Nat) : Prop := x.1 < 1000 ∧ ShapeAt w x.2 (V x.1)
def dsOf {w : World} (p : Q) (V : Nat → Q × Q) (xs : List (It (NearR w V))) : List D := xs.map fun x => dOf p V x.1.1 x.2.1

/-- What the range of nearest has gathered. -/
def Gather (w : World) (p : Q) (V : Nat → Q × Q) (pre : List (It (NearR w V))) (W : World) : Prop :=
  (∃ v, Go.Boxed W (w.heap.size + 1) 126 v ∧ W.ownsRow (w.heap.size + 3) 129 2 v pre.length ((dsOf p V pre).flatMap de)) ∧ Go.Boxed W w.heap.size 104 (.func (.func 48) #[qe p] #[]) ∧ Below w.heap.size w W ∧ w.heap.size + 3 ≤ W.heap.size

theorem ownsRow_from {β : Type} (B base : Nat) (e : TypeId) (k : Nat) (v : Value) (n : β → Nat) (xs : β → List Value) : OwnFrom B (fun s W => W.ownsRow base e k v (n s) (xs s)) := fun s X Y row hs hg hr => hs.kept hg (by
  rcases hs.2 with ⟨hv, -⟩ | ⟨g, cap, cur, hv, -, hgb, -⟩
  · rw [hv]; simp [Value.ownBlock]
  · rw [hv]
    refine .inr fun e' => ?_
    obtain ⟨-, o, ho, hc⟩ := hr g (by simpa [Value.ownBlock] using e'.symm)
    rw [hgb] at ho; cases ho; cases hc)

theorem gather_own {w : World} {p : Q} {V : Nat → Q × Q} {B : Nat} (hB : w.heap.size ≤ B := by simp; omega) : OwnFrom B (fun pre W => Gather w p V pre W) := fun s X Y row ⟨⟨v, h1, h2⟩, h3, h4, h5⟩ hg hr =>
  ⟨⟨v, (Own.from (boxed_own _ _ (fun _ : Unit => v)) B) () X Y row h1 hg hr, (ownsRow_from B _ _ _ v (fun s : List (It (NearR w V)) => s.length) (fun s => (dsOf p V s).flatMap de)) s X Y row h2 hg hr⟩,
    (Own.from (boxed_own _ _ (fun _ : Unit => _)) B) () X Y row h3 hg hr, (ownFrom_below (β := Unit) (Nat.le_refl _) hB) () X Y row h4 hg hr, Nat.le_trans h5 hg.size⟩

theorem gather_start (w : World) (p : Q) (V : Nat → Q × Q) (pro : Option Addr) : Gather w p V [] (((w.alloc (.cells #[.func (.func 48) #[qe p] #[]] 104)).alloc (.cells #[.slice none 0 0] 126)).alloc (.cells #[.pointer pro] 94)) :=
  ⟨⟨_, by have := (Go.Boxed.new (w.alloc (.cells #[.func (.func 48) #[qe p] #[]] 104)) 126 (.slice none 0 0)).alloc (.cells #[.pointer pro] 94); rwa [World.size_alloc] at this, rfl, .inl ⟨rfl, rfl⟩⟩, ((Go.Boxed.new _ _ _).alloc _).alloc _, (((Below.refl _ _).alloc (Nat.le_refl _) _).alloc (by simp) _).alloc (by simp; omega) _, by simp⟩

theorem de_dOf (p : Q) (V : Nat → Q × Q) (i : Nat) (hi : i < 1000) : de (dOf p V i hi) = [.float .f64 (Z.of (distQ p (V i).1 (V i).2)).bits, .int .i64 i] := by
  unfold de dOf
  have := distQ_bd p (V i).1 (V i).2
  simp only
  rw [Int.toNat_of_nonneg this.1]

/-- What append has made of the distances. -/
def Appended (w : World) (p : Q) (V : Nat → Q × Q) (pre : List (It (NearR w V))) (x : It (NearR w V)) (W w1 w2 w3 : World) (v : Value) (g' cap' : Nat) : Prop :=
  Below W.heap.size W.drew w1 ∧ Below w1.heap.size w1 w2 ∧ w3.ownsRow (w.heap.size + 3) 129 2 (.slice (some ⟨g', 0, none⟩) (pre.length + 1) cap') (pre.length + 1) ((dsOf p V (pre ++ [x])).flatMap de) ∧
  (w2.alloc (.cells #[.float .f64 (Z.of (distQ p (V x.1.1).1 (V x.1.1).2)).bits, .int .i64 x.1.1] 129)).grownBy w3 v.ownBlock

theorem infoI : (Try.prog.info? 3).map (fun i => (i.zero, i.size, i.bytes)) = some (some (.int .i64 0), 1, 8) := by kernel_rfl
theorem infoD : (Try.prog.info? 129).map (fun i => (i.zero, i.size, i.bytes)) = some (some (.agg #[.float .f64 0, .int .i64 0]), 2, 16) := by kernel_rfl

/-- What nearest answers: the ids, in new memory. -/
def NearAns (w w' : World) (ids : List Nat) (e : Ending) : Prop := ∃ v, e = .returned v ∧ w'.ownsRow w.heap.size 3 1 v ids.length (ids.map fun i : Nat => .int .i64 (i : Int)) ∧ Below w.heap.size w w'

theorem ownBlock_ge {w : World} {base : Nat} {e : TypeId} {k : Nat} {v : Value} {n : Nat} {xs : List Value} (h : w.ownsRow base e k v n xs) {g : Nat} (hg : v.ownBlock = some g) : base ≤ g := by
  rcases h.2 with ⟨hv, -⟩ | ⟨g', cap, cur, hv, hb, -⟩
  · rw [hv] at hg; cases hg
  · rw [hv] at hg; cases hg; exact hb

theorem gather_step {w W w1 w2 : World} {p : Q} {V : Nat → Q × Q} {pre : List (It (NearR w V))} {v : Value} (hbx : Go.Boxed W (w.heap.size + 1) 126 v) (hrow : W.ownsRow (w.heap.size + 3) 129 2 v pre.length ((dsOf p V pre).flatMap de))
    (hfx : Go.Boxed W w.heap.size 104 (.func (.func 48) #[qe p] #[])) (hN : pre.length < 1000) (hW : w.heap.size + 3 ≤ W.heap.size) (x : It (NearR w V)) (h1 : Below W.heap.size W.drew w1) (h2 : Below w1.heap.size w1 w2) :
    ∃ g' cap' w3, (Builtin.append_ #[126, 126] 126 #[v, .slice (some ⟨w2.heap.size, 0, none⟩) 1 1]).run Try.prog (w2.alloc (.cells #[.float .f64 (Z.of (distQ p (V x.1.1).1 (V x.1.1).2)).bits, .int .i64 x.1.1] 129)) = .ok (.slice (some ⟨g', 0, none⟩) (pre.length + 1) cap') w3 ∧
      w2.cell? ⟨w.heap.size + 1, 0, none⟩ = some v ∧ (∀ o, (w2.alloc o).cell? ⟨w.heap.size + 1, 0, none⟩ = some v) ∧ w3.cell? ⟨w.heap.size + 1, 0, none⟩ = some v ∧ w3.frozen? ⟨w.heap.size + 1, 0, none⟩ = false ∧
      w2.cell? ⟨w.heap.size, 0, none⟩ = some (.func (.func 48) #[qe p] #[]) ∧ (∀ o, (w2.alloc o).cell? ⟨w.heap.size, 0, none⟩ = some (.func (.func 48) #[qe p] #[])) ∧ w3.cell? ⟨w.heap.size, 0, none⟩ = some (.func (.func 48) #[qe p] #[]) ∧
      (∀ u, (w3.setCell ⟨w.heap.size + 1, 0, none⟩ u).cell? ⟨w.heap.size, 0, none⟩ = some (.func (.func 48) #[qe p] #[])) ∧ Appended w p V pre x W w1 w2 w3 v g' cap' := by
  obtain ⟨i0, hi0, hz0, hz1, hz2⟩ := info_parts infoD
  have hsz1 := h1.size
  have hsz2 := h2.size
  have hb : Below W.heap.size W w2 := by
    have := h1.trans (h2.mono (by simpa using hsz1))
    exact ⟨this.os, this.tape, this.output, this.size, this.block⟩
  have hrow2 : (w2.alloc (.cells #[.float .f64 (Z.of (distQ p (V x.1.1).1 (V x.1.1).2)).bits, .int .i64 x.1.1] 129)).ownsRow (w.heap.size + 3) 129 2 v pre.length ((dsOf p V pre).flatMap de) := (owns_below hrow hb).alloc _
  obtain ⟨v', w3, hrun, r1, r2, r3⟩ := run_append_own (P := Try.prog) _ (w.heap.size + 3) 126 126 129 i0 _ 2 16 Try.underlying126 hi0 hz0 hz1 hz2 rfl (by omega) v pre.length _ hrow2 ⟨w2.heap.size, 0, none⟩ 1 1
    [.float .f64 (Z.of (distQ p (V x.1.1).1 (V x.1.1).2)).bits, .int .i64 x.1.1] rfl (fun j u hu => by
      rw [add_zero_none, cell_of_row _ w2.heap.size j _ _ _ (heap_alloc_last w2 _)]; simpa using hu) (by simp [Value.oneCell']) (by simp [maxLen]; omega) (by omega) (by simp; have := hb.size; omega)
  obtain ⟨g', cap', rfl⟩ := ownsRow_succ r1
  have hbx2 : Go.Boxed w2 (w.heap.size + 1) 126 v := (hb.block _ hbx.lt).trans hbx
  have hbx3 : Go.Boxed w3 (w.heap.size + 1) 126 v := (hbx2.alloc _).kept r2 (by
    intro e; have := ownBlock_ge hrow e.symm; omega)
  have hfx2 : Go.Boxed w2 w.heap.size 104 (.func (.func 48) #[qe p] #[]) := (hb.block _ hfx.lt).trans hfx
  have hfx3 : Go.Boxed w3 w.heap.size 104 (.func (.func 48) #[qe p] #[]) := (hfx2.alloc _).kept r2 (by
    intro e; have := ownBlock_ge hrow e.symm; omega)
  refine ⟨g', cap', w3, hrun, hbx2.cell, fun o => (hbx2.alloc o).cell, hbx3.cell, hbx3.frozen, hfx2.cell, fun o => (hfx2.alloc o).cell, hfx3.cell, fun u => ?_, h1, h2, ?_, r2⟩
  · rw [World.cell?_setCell_other _ _ _ _ (by intro e; simp only [Addr.mk.injEq] at e; omega)]; exact hfx3.cell
  have e : (dsOf p V (pre ++ [x])).flatMap de = (dsOf p V pre).flatMap de ++ [.float .f64 (Z.of (distQ p (V x.1.1).1 (V x.1.1).2)).bits, .int .i64 x.1.1] := by
    unfold dsOf
    rw [List.map_append, List.flatMap_append]
    simp only [List.map_cons, List.map_nil, List.flatMap_cons, List.flatMap_nil, List.append_nil, de_dOf]
  rw [e]; exact r1

theorem gather_end {w W w1 w2 w3 : World} {p : Q} {V : Nat → Q × Q} {pre : List (It (NearR w V))} {x : It (NearR w V)} {v : Value} {g' cap' : Nat} (hbx : Go.Boxed W (w.heap.size + 1) 126 v) (hrow : W.ownsRow (w.heap.size + 3) 129 2 v pre.length ((dsOf p V pre).flatMap de))
    (hfx : Go.Boxed W w.heap.size 104 (.func (.func 48) #[qe p] #[])) (hB : Below w.heap.size w W) (hW : w.heap.size + 3 ≤ W.heap.size) (h : Appended w p V pre x W w1 w2 w3 v g' cap') :
    KeepsOthers W (w3.setCell ⟨w.heap.size + 1, 0, none⟩ (.slice (some ⟨g', 0, none⟩) (pre.length + 1) cap')) ∧ KeepsB (w.heap.size + 3) (w.heap.size + 1) W (w3.setCell ⟨w.heap.size + 1, 0, none⟩ (.slice (some ⟨g', 0, none⟩) (pre.length + 1) cap')) ∧
      Gather w p V (pre ++ [x]) (w3.setCell ⟨w.heap.size + 1, 0, none⟩ (.slice (some ⟨g', 0, none⟩) (pre.length + 1) cap')) := by
  obtain ⟨h1, h2, h3, h4⟩ := h
  have hsz1 := h1.size
  have hsz2 := h2.size
  have hb : Below W.heap.size W w2 := by
    have := h1.trans (h2.mono (by simpa using hsz1))
    exact ⟨this.os, this.tape, this.output, this.size, this.block⟩
  have hkeep : ∀ j, j < W.heap.size → v.ownBlock ≠ some j → w3.heap[j]? = W.heap[j]? := fun j hj hn => by
    rw [h4.block j (by simp; have := hb.size; omega) (fun e => hn e.symm)]
    exact (heap_old _ _ (by have := hb.size; omega) rfl).trans (hb.block j hj)
  have hlow : ∀ j, j < w.heap.size + 3 → v.ownBlock ≠ some j := fun j hj e => by have := ownBlock_ge hrow e; omega
  have hs3 : W.heap.size ≤ w3.heap.size := by have := h4.size; simp at this; have := hb.size; omega
  have hg' : w.heap.size + 3 ≤ g' := ownBlock_ge h3 rfl
  have hbx3 : Go.Boxed w3 (w.heap.size + 1) 126 v := (hkeep _ hbx.lt (hlow _ (by omega))).trans hbx
  have hsetK : KeepsB (w.heap.size + 3) (w.heap.size + 1) W (w3.setCell ⟨w.heap.size + 1, 0, none⟩ (.slice (some ⟨g', 0, none⟩) (pre.length + 1) cap')) :=
    ⟨by simpa [World.setCell] using hs3, fun j hj hn => (heap_setCell_other _ _ _ _ hn).trans (hkeep j (by omega) (hlow j hj))⟩
  refine ⟨⟨hsetK.size, fun k o hk ho => ?_⟩, hsetK, ⟨⟨_, hbx3.set _, ?_⟩, ?_, ?_, Nat.le_trans hW hsetK.size⟩⟩
  · have hkl : k < W.heap.size := (Array.getElem?_eq_some_iff.1 hk).1
    have hne : k ≠ w.heap.size + 1 := by
      rintro rfl
      rw [show W.heap[w.heap.size + 1]? = _ from hbx] at hk; cases hk; cases ho
    refine (heap_setCell_other _ _ _ _ hne).trans ?_
    refine (hkeep k hkl ?_).trans hk
    intro e
    rcases hrow.2 with ⟨hv, -⟩ | ⟨g, cap, cur, hv, -, hgb, -⟩
    · rw [hv] at e; cases e
    · rw [hv] at e
      have : g = k := by simpa [Value.ownBlock] using e
      subst this
      rw [hgb] at hk; cases hk; cases ho
  · have hlen : (pre ++ [x]).length = pre.length + 1 := by simp
    rw [hlen]
    refine h3.kept (row := some (w.heap.size + 1)) ?_ (.inr ?_)
    · exact ⟨rfl, rfl, rfl, by simp [World.setCell], fun j _ hn => heap_setCell_other _ _ _ _ (fun e => hn (by rw [e]))⟩
    · intro e; have : g' = w.heap.size + 1 := by simpa [Value.ownBlock] using e
      omega
  · exact ((heap_setCell_other _ _ _ _ (by show w.heap.size ≠ w.heap.size + 1; omega)).trans (hkeep _ hfx.lt (hlow _ (by omega)))).trans hfx
  · have hs := hsetK.size
    refine ⟨?_, ?_, ?_, Nat.le_trans hB.size hs, fun j hj => ((hsetK.block j (by omega) (by omega)).trans (hB.block j hj))⟩
    · show w3.os = w.os; rw [h4.os, show (w2.alloc _).os = w2.os from rfl, hb.os, hB.os]
    · show w3.tape = w.tape; rw [h4.tape, show (w2.alloc _).tape = w2.tape from rfl, hb.tape, hB.tape]
    · show w3.output = w.output; rw [h4.output, show (w2.alloc _).output = w2.output from rfl, hb.output, hB.output]

set_option maxRecDepth 100000 in
set_option maxHeartbeats 400000 in
theorem nearest_any (w : World) (p : Q) (bv n : Nat) (r : Option Nat) (g : Nat → Option Nat) (V : Nat → Q × Q) (hS : ShelfAt w bv r g) (hV : ∀ i k, i < 1000 → g i = some k → NearR w V (i, k)) (hn : n ≤ 100) (L : List D) (HL : Hid (L = dsOf p V (allItems g hV))) :
    Calls Try.prog 47 #[.pointer (some ⟨bv, 0, none⟩), .func (.func 48) #[qe p] #[], .int .i64 n] w fun e w' => NearAns w w' (((sortL L).take n).map fun d => d.2.val) e := by
  obtain ⟨ro, hview, hS⟩ := hS.view
  have hlt : bv < w.heap.size := (Array.getElem?_eq_some_iff.1 hview).1
  have hv : ∀ o1 o2, ((w.alloc o1).alloc o2).cell? ⟨bv, 0, none⟩ = some (ptr ro) := fun o1 o2 => by rw [World.cell?_alloc_lt _ _ _ (by simp; omega), World.cell?_alloc_lt _ _ _ hlt, cell_of_row w bv 0 _ _ _ hview]; rfl
  have HP : Hid (ptr ro = .pointer (ro.map fun k => ⟨k, 0, none⟩)) := rfl
  rw [HP.out] at hv
  generalize ro.map (fun k => (⟨k, 0, none⟩ : Addr)) = pro at hv HP
  refine (callsIn_wide (n := 5)).1 ?_
  refine callsIn_of_wp_marks Try.func47 rfl trivial ?_ rfl
  simp only [Try.ntmps47, List.size_toArray, List.length_cons, List.length_nil, Nat.reduceAdd, Nat.reduceSub, Array.replicate_succ, Array.replicate_zero, List.push_toArray, List.append_toArray, List.nil_append, List.cons_append]
  gi_wp2_with (refine ⟨trivial, ?_⟩; gi_at_call 49; refine (callsIn_wide.2 (all_any _ _)).mono ?_; rintro e w' ⟨rfl, rfl⟩)
  have hb1 : Below w.heap.size w (((w.alloc (.cells #[.func (.func 48) #[qe p] #[]] 104)).alloc (.cells #[.slice none 0 0] 126)).alloc (.cells #[.pointer pro] 94)) := (((Below.refl _ _).alloc (Nat.le_refl _) _).alloc (by simp) _).alloc (by simp; omega) _
  have hcnt : (((w.alloc (.cells #[.func (.func 48) #[qe p] #[]] 104)).alloc (.cells #[.slice none 0 0] 126)).alloc (.cells #[.pointer pro] 94)).heap[w.heap.size + 1]? = some (.cells #[.slice none 0 0] 126) := heap_old _ _ (by simp) (heap_last _ _ _ (by simp))
  refine wpIn_rangeFunc_ownF (α := It (NearR w V)) rfl (by omega) (gf := 75) (lb := #[.pointer (some ⟨w.heap.size + 1 + 1, 0, none⟩)]) rfl trivial (enters_of Try.func75 (by kernel_rfl) rfl)
    (all_stops 4 (w.heap.size + 1 + 1) (w.heap.size + 1) ro r g hV (by omega) _ (by rw [HP.out]; exact heap_last _ _ _ (by simp)) (fun j c t hj ht => ne_of_type hj hcnt (by rcases ht with rfl | rfl | rfl <;> decide)) (hS.below hb1))
    (fun h k => h.trans k) (keepsB_b (Nat.le_refl _)) (Below.refl _ _) (fun _ => rfl)
    (fun pre W => Gather w p V pre W) (fun _ _ _ => False) gather_own
    (fun _ _ _ _ _ h _ _ => h)
    (gather_start w p V pro)
    (fun x => { tmps := #[.pointer (some ⟨bv, 0, none⟩), .func (.func 48) #[qe p] #[], .int .i64 n, undef, .pointer (some ⟨w.heap.size, 0, none⟩), undef, .slice none 0 0, .pointer (some ⟨w.heap.size + 1, 0, none⟩), .int .i64 x.1.1, .pointer (some ⟨x.1.2, 0, none⟩), undef, undef, undef, .pointer (some ⟨bv, 0, none⟩), .pointer (some ⟨bv, 0, none⟩), .pointer (some ⟨bv, 0, none⟩), .agg #[.pointer pro], .func (.func 75) #[] #[.pointer (some ⟨w.heap.size + 1 + 1, 0, none⟩)], .int .i64 x.1.1, .pointer (some ⟨x.1.2, 0, none⟩), undef, undef, undef, undef, undef, undef, undef, undef, undef, undef, undef, undef, undef, undef, undef, undef, undef, undef, undef, undef, undef, undef, undef, undef, undef, undef, undef, undef, undef], defers := [] }) ?assign ?body ?done ?stop
  case assign =>
    intro l x W K hK
    unfold itE
    rw [zip2]
    gi_wp2
    exact hK
  case body =>
    rintro l pre x W hG hN
    obtain ⟨⟨v, hbx, hrow⟩, hfx, hB, hW⟩ := hG
    have hcA : W.drew.cell? ⟨w.heap.size + 1, 0, none⟩ = some v := hbx.cell
    have hcF : W.drew.cell? ⟨w.heap.size, 0, none⟩ = some (.func (.func 48) #[qe p] #[]) := hfx.cell
    have hsl : x.1.2 < W.heap.size := Nat.lt_of_lt_of_le x.2.2.lt hB.size
    have hb := box_any W.drew x.1.2 (V x.1.1) (x.2.2.kept (hB.block _ x.2.2.lt))
    have hoff := fun w => off_any p (V x.1.1).1 (V x.1.1).2 w
    have happ := fun w1 w2 (h1 : Below W.heap.size W.drew w1) (h2 : Below w1.heap.size w1 w2) => gather_step hbx hrow hfx hN hW x h1 h2
    have HG : Hid (∀ w1 w2 w3 g' cap', Appended w p V pre x W w1 w2 w3 v g' cap' → KeepsOthers W (w3.setCell ⟨w.heap.size + 1, 0, none⟩ (.slice (some ⟨g', 0, none⟩) (pre.length + 1) cap')) ∧ KeepsB (((w.alloc (.cells #[.func (.func 48) #[qe p] #[]] 104)).alloc (.cells #[.slice none 0 0] 126)).alloc (.cells #[.pointer pro] 94)).heap.size (w.heap.size + 1) W (w3.setCell ⟨w.heap.size + 1, 0, none⟩ (.slice (some ⟨g', 0, none⟩) (pre.length + 1) cap')) ∧ Gather w p V (pre ++ [x]) (w3.setCell ⟨w.heap.size + 1, 0, none⟩ (.slice (some ⟨g', 0, none⟩) (pre.length + 1) cap'))) := fun w1 w2 w3 g' cap' h => by
      rw [show (((w.alloc (.cells #[.func (.func 48) #[qe p] #[]] 104)).alloc (.cells #[.slice none 0 0] 126)).alloc (.cells #[.pointer pro] 94)).heap.size = w.heap.size + 3 by simp]
      exact gather_end hbx hrow hfx hB hW h
    clear hbx hrow hfx hB
    generalize hpe : qe p = pe at *
    generalize hbe : Value.agg #[qe (V x.1.1).1, qe (V x.1.1).2] = be at *
    generalize hdb : (Z.of (distQ p (V x.1.1).1 (V x.1.1).2)).bits = db at *
    clear hpe hbe
    have hmx : Try.prog.follows .mixedOrders = true := by kernel_rfl
    gi_wp2
    refine region_round (S := fun w' => w'.cell? ⟨w.heap.size, 0, none⟩ = some (.func (.func 48) #[pe] #[])) 10 rfl (by kernel_rfl) (by kernel_rfl) (fun ⟨_, _, h⟩ => h) ?_
    refine wpAnyH_take (i := 1) (v := .func (.func 48) #[pe] #[]) rfl (by kernel_rfl) (by kernel_rfl) (by kernel_rfl) (fun _ _ _ h => h) (Or.inl ⟨by rfl, fun w' hw' => by dsimp only at hw'; go_simp⟩) hcF ?_
    refine wpAnyH_take (i := 2) (v := .pointer (some ⟨x.1.2, 0, none⟩)) rfl (by kernel_rfl) (by kernel_rfl) (by kernel_rfl) (fun _ _ _ h => h) (Or.inl ⟨by rfl, fun w' hw' => by dsimp only at hw'; go_simp⟩) hcF ?_
    refine wpAnyH_take (i := 5) (v := .int .i64 x.1.1) rfl (by kernel_rfl) (by kernel_rfl) (by kernel_rfl) (fun _ _ _ h => h) (Or.inl ⟨by rfl, fun w' hw' => by dsimp only at hw'; go_simp⟩) hcF ?_
    refine step2 0 3 _ _ (by kernel_rfl) rfl rfl rfl rfl ?_ ?_
    · as_aux_lemma =>
        intro K hK
        unfold Oper.wp
        go_simp
        refine hK _ _ hcF ?_
        clear hK K
        refine step1 3 _ (by kernel_rfl) rfl rfl ?_
        intro K hK
        unfold Oper.wp
        go_simp
        refine hb.mono ?_
        rintro e w1 ⟨rfl, hw1⟩
        have hcA1 := (hw1.cell (p := ⟨w.heap.size + 1, 0, none⟩) (World.block_lt_of_cell? _ _ hcA)).trans hcA
        have hcF1 := (hw1.cell (p := ⟨w.heap.size, 0, none⟩) (World.block_lt_of_cell? _ _ hcF)).trans hcF
        refine hK _ _ hcF1 ?_
        clear hK K
        refine step1 4 _ (by kernel_rfl) rfl rfl ?_
        intro K hK
        unfold Oper.wp
        go_simp
        refine (hoff _).mono ?_
        rintro e w2 ⟨rfl, hw2⟩
        obtain ⟨g', cap', w3, hrun, hcA2, hcA2a, hcA3, hfA3, hcF2, hcF2a, hcF3, hcF4, hap⟩ := happ _ _ hw1 hw2
        refine hK _ _ hcF2 ?_
        clear hK K
        refine wpAnyH_take (i := 6) (v := .agg #[.float .f64 db, .int .i64 x.1.1]) rfl (by kernel_rfl) (by kernel_rfl) (by kernel_rfl) (fun _ _ _ h => h) (Or.inl ⟨by rfl, fun w' hw' => by dsimp only at hw'; go_simp⟩) hcF2 ?_
        refine step1 7 _ (by kernel_rfl) rfl rfl ?_
        intro K hK
        unfold Oper.wp
        go_simp
        refine hK _ _ (hcF2a _) ?_
        clear hK K
        refine step1 8 _ (by kernel_rfl) rfl rfl ?_
        intro K hK
        refine wp_append_run (.tmp 20) (.tmp 27) 126 rfl rfl rfl hrun ?_
        refine hK _ _ hcF3 ?_
        clear hK K
        refine step1 9 _ (by kernel_rfl) rfl rfl ?_
        intro K hK
        unfold Oper.wp
        go_simp
        refine hK _ _ (hcF4 _) ?_
        clear hK K
        refine wpAnyH_done (by kernel_rfl) ?_ _
        exact HG.out _ _ _ _ _ hap
    · skip
      intro K hK
      unfold Oper.wp
      go_simp
      refine hb.mono ?_
      rintro e w1 ⟨rfl, hw1⟩
      have hcA1 := (hw1.cell (p := ⟨w.heap.size + 1, 0, none⟩) (World.block_lt_of_cell? _ _ hcA)).trans hcA
      have hcF1 := (hw1.cell (p := ⟨w.heap.size, 0, none⟩) (World.block_lt_of_cell? _ _ hcF)).trans hcF
      refine hK _ _ hcF1 ?_
      clear hK K
      refine step2 0 4 _ _ (by kernel_rfl) rfl rfl rfl rfl ?_ ?_
      · as_aux_lemma =>
          intro K hK
          unfold Oper.wp
          go_simp
          refine hK _ _ hcF1 ?_
          clear hK K
          refine step1 4 _ (by kernel_rfl) rfl rfl ?_
          intro K hK
          unfold Oper.wp
          go_simp
          refine (hoff _).mono ?_
          rintro e w2 ⟨rfl, hw2⟩
          obtain ⟨g', cap', w3, hrun, hcA2, hcA2a, hcA3, hfA3, hcF2, hcF2a, hcF3, hcF4, hap⟩ := happ _ _ hw1 hw2
          refine hK _ _ hcF2 ?_
          clear hK K
          refine wpAnyH_take (i := 6) (v := .agg #[.float .f64 db, .int .i64 x.1.1]) rfl (by kernel_rfl) (by kernel_rfl) (by kernel_rfl) (fun _ _ _ h => h) (Or.inl ⟨by rfl, fun w' hw' => by dsimp only at hw'; go_simp⟩) hcF2 ?_
          refine step1 7 _ (by kernel_rfl) rfl rfl ?_
          intro K hK
          unfold Oper.wp
          go_simp
          refine hK _ _ (hcF2a _) ?_
          clear hK K
          refine step1 8 _ (by kernel_rfl) rfl rfl ?_
          intro K hK
          refine wp_append_run (.tmp 20) (.tmp 27) 126 rfl rfl rfl hrun ?_
          refine hK _ _ hcF3 ?_
          clear hK K
          refine step1 9 _ (by kernel_rfl) rfl rfl ?_
          intro K hK
          unfold Oper.wp
          go_simp
          refine hK _ _ (hcF4 _) ?_
          clear hK K
          refine wpAnyH_done (by kernel_rfl) ?_ _
          exact HG.out _ _ _ _ _ hap
      · skip
        intro K hK
        unfold Oper.wp
        go_simp
        refine (hoff _).mono ?_
        rintro e w2 ⟨rfl, hw2⟩
        obtain ⟨g', cap', w3, hrun, hcA2, hcA2a, hcA3, hfA3, hcF2, hcF2a, hcF3, hcF4, hap⟩ := happ _ _ hw1 hw2
        refine hK _ _ hcF2 ?_
        clear hK K
        refine wpAnyH_take (i := 6) (v := .agg #[.float .f64 db, .int .i64 x.1.1]) rfl (by kernel_rfl) (by kernel_rfl) (by kernel_rfl) (fun _ _ _ h => h) (Or.inl ⟨by rfl, fun w' hw' => by dsimp only at hw'; go_simp⟩) hcF2 ?_
        refine step2 0 7 _ _ (by kernel_rfl) rfl rfl rfl rfl ?_ ?_
        · as_aux_lemma =>
            intro K hK
            unfold Oper.wp
            go_simp
            refine hK _ _ hcF2 ?_
            clear hK K
            refine step1 7 _ (by kernel_rfl) rfl rfl ?_
            intro K hK
            unfold Oper.wp
            go_simp
            refine hK _ _ (hcF2a _) ?_
            clear hK K
            refine step1 8 _ (by kernel_rfl) rfl rfl ?_
            intro K hK
            refine wp_append_run (.tmp 20) (.tmp 27) 126 rfl rfl rfl hrun ?_
            refine hK _ _ hcF3 ?_
            clear hK K
            refine step1 9 _ (by kernel_rfl) rfl rfl ?_
            intro K hK
            unfold Oper.wp
            go_simp
            refine hK _ _ (hcF4 _) ?_
            clear hK K
            refine wpAnyH_done (by kernel_rfl) ?_ _
            exact HG.out _ _ _ _ _ hap
        · skip
          intro K hK
          unfold Oper.wp
          go_simp
          refine hK _ _ (hcF2a _) ?_
          clear hK K
          refine step1 0 _ (by kernel_rfl) rfl rfl ?_
          intro K hK
          unfold Oper.wp
          go_simp
          refine hK _ _ (hcF2a _) ?_
          clear hK K
          refine step1 8 _ (by kernel_rfl) rfl rfl ?_
          intro K hK
          refine wp_append_run (.tmp 20) (.tmp 27) 126 rfl rfl rfl hrun ?_
          refine hK _ _ hcF3 ?_
          clear hK K
          refine step1 9 _ (by kernel_rfl) rfl rfl ?_
          intro K hK
          unfold Oper.wp
          go_simp
          refine hK _ _ (hcF4 _) ?_
          clear hK K
          refine wpAnyH_done (by kernel_rfl) ?_ _
          exact HG.out _ _ _ _ _ hap
  case done =>
    rintro D ys W hD rfl hG hK
    obtain ⟨⟨v, hbx, hrow⟩, hfx, hB, hW⟩ := hG
    have hL : L.length = (allItems g hV).length := by rw [HL.out]; unfold dsOf; simp
    have hL' : L.length ≤ 1000 := by rw [hL, allItems_eq]; exact items_len 1000
    rw [← hL, ← HL.out] at hrow
    clear hL HL
    have hcA := hbx.cell
    rcases hrow.2 with ⟨rfl, h0⟩ | ⟨gb, cap, cur, rfl, hgb, -, -⟩
    · have hl0 : Hid (L = []) := List.length_eq_zero_iff.1 h0
      clear hrow
      have c1 := fun w => callsIn_wide (n := 4) |>.2 (AnyF.slices_SortFunc_none (P := Try.prog) { sortD with } none 0 (.func (.func 71) #[] #[]) w)
      change ∀ w, CallsIn _ _ Try.prog 70 _ _ _ at c1
      gi_wp2_with (refine ⟨trivial, ?_⟩; gi_at_call 70; refine (c1 _).mono ?_; rintro e w' ⟨rfl, rfl⟩)
      gi_loopw [38, 10] (fun i o wr => i = .int .i64 0 ∧ o = .slice none 0 0 ∧ wr = w') (fun _ _ _ => 0)
      case atStart => exact ⟨rfl, rfl, rfl⟩
      case round =>
        obtain ⟨rfl, rfl, rfl⟩ := hrel
        gi_wp2
        refine ⟨by simp, .inl ⟨_, _, rfl, run_takeDeferred hK, ?_⟩⟩
        refine ⟨_, results_tmp rfl _ _ _, _, rfl, by rw [hl0.out, show sortL [] = [] by simp [sortL], List.take_nil]; exact ⟨rfl, .inl ⟨rfl, rfl⟩⟩, ?_⟩
        exact hB.trans (belowK_b (w := w) (Nat.le_refl _) _ D _ _ (by simp at hD; omega) hK rfl rfl)
    · have hgW : gb < W.heap.size := by
        rcases hrow.2 with ⟨h, -⟩ | ⟨g', cap', cur', he, -, hg', -⟩
        · cases h
        · cases he; exact (Array.getElem?_eq_some_iff.1 hg').1
      have hne : gb ≠ D := by
        rintro rfl
        rcases hrow.2 with ⟨h, -⟩ | ⟨g', cap', cur', he, -, hg', -⟩
        · cases h
        · cases he; rw [hK] at hg'; cases hg'
      have hcap : L.length ≤ cap := by
        rcases hrow.2 with ⟨h, -⟩ | ⟨g', cap', cur', he, -, -, hc, -⟩
        · cases h
        · cases he; exact hc
      have c1 := callsIn_wide (n := 4) |>.2 (sort_d hrow hL')
      have hlen : (sortL L).length = L.length := by unfold sortL; simp
      have HB : Hid (Below w.heap.size w W ∧ Go.Boxed W (w.heap.size + 1) 126 (.slice (some ⟨gb, 0, none⟩) L.length cap)) := ⟨hB, hbx⟩
      clear hrow hfx hB hbx hb1
      gi_wp2_with (refine ⟨trivial, ?_⟩; gi_at_call 70; refine c1.mono ?_; rintro e w1 ⟨rfl, hH, hKB⟩; have hcA1 : w1.cell? ⟨w.heap.size + 1, 0, none⟩ = some (.slice (some ⟨gb, 0, none⟩) L.length cap) := Go.Boxed.cell ((hKB.block _ HB.out.2.lt (by omega)).trans HB.out.2))
      obtain ⟨m, hm, hmS⟩ : ∃ m : Nat, min (n : Int) (L.length : Int) = (m : Int) ∧ m = min n (sortL L).length := ⟨min n L.length, by omega, by rw [hlen]⟩
      rw [hm, show max (m : Int) 0 = m by omega, Int.toNat_natCast]
      have hmle : m ≤ (sortL L).length := by omega
      have HT : Hid ((sortL L).take n = (sortL L).take m) := by
        show _ = _
        rw [hmS]; exact List.take_eq_take_iff.2 (by omega)
      have hS1000 : (sortL L).length ≤ 1000 := by omega
      clear hm hmS hlen hcap hL' c1
      obtain ⟨S, hSe⟩ : ∃ S, S = sortL L := ⟨_, rfl⟩
      rw [← hSe] at hH hmle HT hS1000
      have HS : Hid (S = sortL L) := hSe
      clear hSe
      obtain ⟨i0, hi0, hz0, hz1, hz2⟩ := info_parts infoI
      have hst0 := fun a x mo w => run_store Try.prog w a (.float .f64 x) mo rfl
      gi_loopw [38, 10] (fun i o wr => ∃ k : Nat, k ≤ m ∧ i = .int .i64 k ∧ wr.ownsRow w1.heap.size 3 1 o k ((S.take k).map fun d => .int .i64 (d.2.val : Int)) ∧ Below w1.heap.size w1 wr) (fun i _ _ => m - (intOf i).toNat)
      case atStart => exact ⟨0, Nat.zero_le _, rfl, ⟨rfl, .inl ⟨rfl, rfl⟩⟩, Below.refl _ _⟩
      case round =>
        obtain ⟨k, hk, rfl, hO, hBr⟩ := hrel
        by_cases hlt : k < m
        · have hlt' : (k : Int) < (m : Int) := by omega
          have hkS : k < S.length := by omega
          have k1 : wr.cell? ⟨gb, k * 2, none⟩ = some (.float .f64 (Z.of (S[k].1.val : Int)).bits) := by
            rw [hBr.cell (p := ⟨gb, k * 2, none⟩) (by show gb < _; have := hKB.size; omega)]
            have := (hH.cell (i := k) (c := 0) (by simpa using hkS) (by omega)).1
            rw [Nat.zero_add, Nat.add_zero] at this
            rw [this, getElem!_pos S.toArray k (by simpa using hkS)]; simp [de]
          have k2 : wr.cell? ⟨gb, k * 2 + 1, none⟩ = some (.int .i64 (S[k].2.val : Int)) := by
            rw [hBr.cell (p := ⟨gb, k * 2 + 1, none⟩) (by show gb < _; have := hKB.size; omega)]
            have := (hH.cell (i := k) (c := 1) (by simpa using hkS) (by omega)).1
            rw [Nat.zero_add] at this
            rw [this, getElem!_pos S.toArray k (by simpa using hkS)]; simp [de]
          have eT : (S.take k).map (fun d : Ytnlkalbkjocoaaa.D => Value.int .i64 (d.2.val : Int)) ++ [.int .i64 (S[k].2.val : Int)] = (S.take (k + 1)).map (fun d : Ytnlkalbkjocoaaa.D => Value.int .i64 (d.2.val : Int)) := by
            rw [List.take_succ_eq_append_getElem hkS, List.map_append]; rfl
          generalize (Z.of (S[k].1.val : Int)).bits = f0 at k1
          generalize (S[k].2.val : Int) = i1 at k2 eT
          gi_wp2_with (gi_at_builtin; refine wpListIn_append_own _ rfl (.tmp 42) (.tmp 45) 22 rfl w1.heap.size 3 i0 _ 1 8 Try.underlying22 hi0 hz0 hz1 hz2 rfl (by decide) _ k _ rfl ((hO.alloc _).alloc _) ⟨wr.heap.size + 1, 0, none⟩ 1 1 [.int .i64 i1] rfl rfl (fun j u hu => by rw [add_zero_none, cell_of_row _ _ j _ _ _ (heap_last _ _ _ (by simp))]; simpa using hu) (by simp [Value.oneCell']) (by simp [maxLen]; omega) (by omega) (by simp; have := hBr.size; omega) ?_; intro v' w2 hO2 hgr _; obtain ⟨g', cap', rfl⟩ := ownsRow_succ hO2)
          have hB2 : Below w1.heap.size w1 w2 := ((hBr.alloc hBr.size _).alloc (by simp; have := hBr.size; omega) _).grown hgr (by simp; have := hBr.size; omega) (fun j e => ownBlock_ge hO e)
          rw [eT] at hO2
          go_roundw
          case rel => exact ⟨k + 1, by omega, by go_num, hO2, hB2⟩
          case measure => simp [intOf]; omega
        · have hlt' : ¬ (k : Int) < (m : Int) := by omega
          obtain rfl : k = m := by omega
          have hDW : D < W.heap.size := (Array.getElem?_eq_some_iff.1 hK).1
          have hD1 : D < w1.heap.size := Nat.lt_of_lt_of_le hDW hKB.size
          have hK2 : wr.heap[D]? = some (.deferred (some [])) := (hBr.block D hD1).trans ((hKB.block D hDW hne.symm).trans hK)
          have hws : w.heap.size ≤ D := by simp at hD; omega
          gi_wp2
          refine ⟨by simp, .inl ⟨_, _, rfl, run_takeDeferred hK2, ?_⟩⟩
          refine ⟨_, results_tmp rfl _ _ _, _, rfl, ?_, ?_⟩
          · rw [← HS.out, ← List.map_take, HT.out, List.map_map, List.length_map, List.length_take, Nat.min_eq_left hmle]
            refine (own_mono hO (Nat.le_trans HB.out.1.size hKB.size)).kept (grownBy_putObj' wr D _) ?_
            rcases hO.2 with ⟨hv, -⟩ | ⟨g', cap', cur', hv, hg', -⟩
            · left; rw [hv]; rfl
            · right; rw [hv]; intro e; have : g' = D := by simpa [Value.ownBlock] using e
              omega
          · have hb2 : Below w.heap.size W w1 := ⟨hKB.os, hKB.tape, hKB.output, hKB.size, fun j hj => hKB.block j (by omega) (by omega)⟩
            exact ((HB.out.1.trans hb2).trans (hBr.mono (by have := hKB.size; omega))).trans (belowK_b (w := w) (Nat.le_refl _) wr D _ _ hws hK2 rfl rfl)
  case stop =>
    rintro D c pre W _ _ h _
    exact h.elim
end Go.Proofs.Ytnlkalbkjocoaaa
