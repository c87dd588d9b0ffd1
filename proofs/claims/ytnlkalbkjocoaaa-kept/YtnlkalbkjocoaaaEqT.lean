/-
  Two arrays of truth values that are the same; a step in its cells.
-/
import Derived.Test.YtnlkalbkjocoaaaTold2
import Derived.ChangeKeysEq
import Derived.Laws.StructEq
namespace Go.Proofs.Ytnlkalbkjocoaaa
open Go.Shelf Go.RowKit

theorem infoB : ∃ i, Try.prog.info? 4 = some i := info_of_underlying Try.underlying4
theorem cellsB : Try.prog.cellsOf 4 = 1 := by kernel_rfl
theorem plainB : Try.prog.plainKey 4 = true := by kernel_rfl

theorem eqItems_self (w : World) (d : Nat) (X : Array Value) (hX : ∀ i, i < 30 → ∃ b, X[i]? = some (.bool b)) : ∀ is : List Nat, (∀ i ∈ is, i < 30) → (Op.eqItems (d + 1) 4 1 X X is).run Try.prog w = .ok true w
  | [], _ => rfl
  | i :: is, h => by
    obtain ⟨b, hb⟩ := hX i (h i (by simp))
    have hp : (part 4 X (i * 1)).run Try.prog w = .ok (.bool b) w := run_part_plain w plainB (by rw [Nat.mul_one]; exact hb)
    have he : (Op.equalIn (d + 1) 4 (.bool b) (.bool b)).run Try.prog w = .ok (b == b) w := run_equalIn_bool w d _ b b Try.underlying4
    rw [beq_self_eq_true] at he
    simp only [Op.eqItems, Sem.run_bind, hp, he, Result.andThen_ok]
    exact eqItems_self w d X hX is fun j hj => h j (by simp [hj])

theorem eq_there (g : Nat → Option Nat) (w : World) : (binOp .eql 55 (.agg (thereC g).toArray) (.agg (thereC g).toArray)).run Try.prog w = .ok (.bool true) w := by
  obtain ⟨i, hi⟩ := infoB
  rw [run_eql_struct, run_equalIn_array w 9999 _ _ Try.underlying55 hi, cellsB]
  rw [eqItems_self w 9998 _ (fun i hi => ⟨(g i).isSome, by rw [List.getElem?_toArray]; unfold thereC; rw [List.getElem?_map, List.getElem?_range hi]; rfl⟩) _ (fun i hi => List.mem_range.1 hi)]
  rfl
/-- A step as it was handed in. -/
structure Stp where
  kd : Int
  id : Int
  x : Int
  y : Int
  z : Int

def i64B (n : Int) : Prop := -9223372036854775808 ≤ n ∧ n ≤ 9223372036854775807
/-- A step's five numbers, in their cells. -/
structure StpAt (w : World) (b o : Nat) (s : Stp) : Prop where
  c0 : w.cell? ⟨b, o, none⟩ = some (.int .i64 s.kd)
  c1 : w.cell? ⟨b, o + 1, none⟩ = some (.int .i64 s.id)
  c2 : w.cell? ⟨b, o + 2, none⟩ = some (.int .i64 s.x)
  c3 : w.cell? ⟨b, o + 3, none⟩ = some (.int .i64 s.y)
  c4 : w.cell? ⟨b, o + 4, none⟩ = some (.int .i64 s.z)
  b1 : i64B s.id
  b2 : i64B s.x
  b3 : i64B s.y
  b4 : i64B s.z
  b0 : i64B s.kd
theorem StpAt.lt {w : World} {b o : Nat} {s : Stp} (h : StpAt w b o s) : b < w.heap.size := World.block_lt_of_cell? _ _ h.c0
theorem StpAt.kept {w w' : World} {b o : Nat} {s : Stp} (h : StpAt w b o s) (hb : Below w.heap.size w w') : StpAt w' b o s := by
  have hl := h.lt
  exact ⟨(hb.cell (p := ⟨b, o, none⟩) hl).trans h.c0, (hb.cell (p := ⟨b, o + 1, none⟩) hl).trans h.c1, (hb.cell (p := ⟨b, o + 2, none⟩) hl).trans h.c2, (hb.cell (p := ⟨b, o + 3, none⟩) hl).trans h.c3, (hb.cell (p := ⟨b, o + 4, none⟩) hl).trans h.c4, h.b1, h.b2, h.b3, h.b4, h.b0⟩

end Go.Proofs.Ytnlkalbkjocoaaa
