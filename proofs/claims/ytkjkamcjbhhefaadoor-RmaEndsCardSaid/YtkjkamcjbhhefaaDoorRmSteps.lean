/-
  The table of what may happen to a return, as memory holds it. Conditions: those of each theorem ('StepsAt': memory holds the table).
-/
import Derived.Test.YtkjkamcjbhhefaaDoorDoor
namespace Go.Proofs.YtkjkamcjbhhefaaDoor
open Go.ChangeShapes Go.WideShapes Go.ChangeAt Go.RowKit
set_option maxRecDepth 100000

/-- The rows: what happens, from, to. -/
def stepRow (k : Nat) : Int × Int × Int := ([(1, 1, 2), (2, 2, 3), (3, 3, 4), (4, 4, 5), (5, 3, 5), (6, 5, 6), (7, 1, 7), (7, 2, 7), (8, 1, 8), (8, 2, 8), (9, 1, 9), (9, 2, 9)] : List (Int × Int × Int)).getD k (0, 0, 0)
def stepCells : Array Value := ((List.range 12).map fun k => [Value.int .i64 (stepRow k).1, .int .i64 (stepRow k).2.1, .int .i64 (stepRow k).2.2]).flatten.toArray
/-- Memory holds the table. -/
structure StepsAt (w : World) : Prop where
  lt : 0 < w.heap.size
  val : ∀ j v, stepCells[j]? = some v → w.cell? ⟨0, j, none⟩ = some v
theorem StepsAt.below {w w' : World} (h : StepsAt w) (hb : Below w.heap.size w w') : StepsAt w' :=
  ⟨Nat.lt_of_lt_of_le h.lt hb.size, fun j v hv => (hb.cell (p := ⟨0, j, none⟩) h.lt).trans (h.val j v hv)⟩

abbrev stepsLaid : List (String × DataW Unit) := [("recoup/rma.steps", Rows.laid_recoup_rma_steps)]
theorem steps_global : Tryd.prog.globalNamed "recoup/rma.steps" = some 0 := by kernel_rfl
theorem steps_type : (Tryd.prog.globals[0]?).map (·.type) = some 56 := by kernel_rfl
theorem steps_cells : Tryd.prog.cellsOf 55 = 3 := by kernel_rfl
theorem steps_one : Tryd.prog.cellsOf 3 = 1 := by kernel_rfl
theorem steps_datum : (Rows.laid_recoup_rma_steps : DataW Unit) = .agg ((List.range 12).map fun k => .agg [.lit (.int .i64 (stepRow k).1), .lit (.int .i64 (stepRow k).2.1), .lit (.int .i64 (stepRow k).2.2)]) := rfl
theorem stepCells_get (k : Nat) (hk : k < 12) : stepCells[k * 3]? = some (.int .i64 (stepRow k).1) ∧ stepCells[k * 3 + 1]? = some (.int .i64 (stepRow k).2.1) ∧ stepCells[k * 3 + 2]? = some (.int .i64 (stepRow k).2.2) := by
  rcases k with _ | _ | _ | _ | _ | _ | _ | _ | _ | _ | _ | _ | k <;> first | exact ⟨rfl, rfl, rfl⟩ | omega
theorem stepCells_size : stepCells.size = 36 := by kernel_rfl

/-- What the listing says of memory. -/
theorem steps_of_laid {W : World} (h : laidMetH Tryd.prog stepsLaid W) : StepsAt W := by
  have hp : laidMet Tryd.prog stepsLaid W := h
  obtain ⟨ps, ⟨g, t, cs, f, p, q, hg, ht, hv, hd, _, _⟩, _, hc⟩ := hp
  obtain rfl := Option.some.inj (steps_global.symm.trans hg)
  obtain rfl := Option.some.inj (steps_type.symm.trans ht)
  obtain ⟨xs, m1, rfl, hx1, hlen, hn3, hel⟩ := DataW.trod_array Tryd.underlying56 hd
  have hx2 := congrArg Prod.fst hx1
  rw [steps_datum] at hx2
  injection hx2 with hx2
  have key : ∀ i, i < 12 → ∀ j, j < 3 → ∀ v, stepCells[i * 3 + j]? = some v → W.cell? ⟨0, i * 3 + j, none⟩ = some v := by
    intro i hi j hj v hv9
    have h1 := hel i hi
    rw [steps_cells] at h1
    have hlt : i < xs.length := by omega
    rw [List.getElem?_eq_getElem hlt] at h1
    have h3 := congrArg (fun l => l[i]?) hx2
    simp only [List.getElem?_map, List.getElem?_eq_getElem hlt, Option.map_some, List.getElem?_range hi, Option.some.injEq] at h3
    obtain ⟨ys, m2, rfl, hy1, hyl, hyn, hye⟩ := DataW.trod_struct Tryd.underlying55 h1
    rw [hy1] at h3
    simp only at h3
    injection h3 with h3
    have h3l := congrArg List.length h3
    simp only [List.length_cons, List.length_nil, List.length_map] at h3l
    have one : ∀ (o : Nat) (k : Int) (hf : ∃ f, (Tryd.prog.fieldsOf 55)[o]? = some f ∧ f.type = 3 ∧ f.offset = o) (ho : o < 3), (ys.map (fun x => x.1))[o]? = some (.lit (.int .i64 k)) → W.cell? ⟨0, i * 3 + o, none⟩ = some (.int .i64 k) := by
      rintro o k ⟨f, hf, hf1, hf2⟩ ho hk
      have h4 := hye o f (by simpa [Program.fieldsOf, Tryd.underlying55] using hf)
      rw [hf1, hf2, steps_one] at h4
      have hol : o < ys.length := by omega
      rw [List.getElem?_eq_getElem hol] at h4
      obtain ⟨n, e1, e2, _⟩ := DataW.trod_int Tryd.underlying3 h4
      rw [List.getElem?_map, List.getElem?_eq_getElem hol, e2] at hk
      simp only [Option.map_some, Option.some.injEq, DataW.lit.injEq, Lit.int.injEq, true_and] at hk
      subst hk
      have h5 := congrArg (fun l => l[0]?) e1
      simp only [List.getElem?_take, List.getElem?_drop, List.getElem?_cons_zero, Nat.add_zero] at h5
      rw [World.var?_cell hg hv (i * 3 + o)]
      rw [if_pos (by decide), if_pos ho] at h5
      rw [Array.getElem?_toList] at h5
      exact h5
    obtain ⟨c0, c1, c2⟩ := stepCells_get i hi
    match j, hj with
    | 0, _ =>
      rw [Nat.add_zero, c0] at hv9
      injection hv9 with hv9
      subst hv9
      exact one 0 _ ⟨_, rfl, by kernel_rfl, by kernel_rfl⟩ (by decide) (by rw [← h3]; rfl)
    | 1, _ =>
      rw [c1] at hv9
      injection hv9 with hv9
      subst hv9
      exact one 1 _ ⟨_, rfl, by kernel_rfl, by kernel_rfl⟩ (by decide) (by rw [← h3]; rfl)
    | 2, _ =>
      rw [c2] at hv9
      injection hv9 with hv9
      subst hv9
      exact one 2 _ ⟨_, rfl, by kernel_rfl, by kernel_rfl⟩ (by decide) (by rw [← h3]; rfl)
  have all : ∀ j v, stepCells[j]? = some v → W.cell? ⟨0, j, none⟩ = some v := fun j v hv9 => by
    have hjl := (Array.getElem?_eq_some_iff.1 hv9).1
    rw [stepCells_size] at hjl
    have e : j = j / 3 * 3 + j % 3 := by omega
    rw [e] at hv9 ⊢
    exact key (j / 3) (by omega) (j % 3) (by omega) v hv9
  exact ⟨World.block_lt_of_cell? _ _ (all 0 _ rfl), all⟩
/-- The door's own heap meets the listing. -/
theorem door_met (os : Os) (args : Array Value) : laidMetH Tryd.prog stepsLaid ((World.doorLaid Tryd.prog 26 os).forCall (fun _ _ => 0) ⟨#[], args, []⟩).memory :=
  laidMetH_of_parts3 (fuel := 8) (laidMet_of_run' 8 (by kernel_rfl) (by kernel_rfl)) (by kernel_rfl) (by kernel_rfl)
end Go.Proofs.YtkjkamcjbhhefaaDoor
