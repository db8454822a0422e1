/-
  A law's row out of a contract, where the row lists the table of the sums of half bytes: what the listing says of memory. Conditions: those of each theorem.
-/
import Derived.Test.YtfoapnclfipkiaaDoorHalves
import Derived.LaidMore
import Derived.LaidOnce
import Derived.Handed
import Derived.Stop.Joined
namespace Go.Proofs.YtfoapnclfipkiaaDoor
open Go.ChangeShapes Go.WideShapes Go.ChangeAt Go.RowKit
set_option maxRecDepth 100000

/-- A law's step over a row that lists variables: from a contract that says 'true, and nothing that was there has turned'. -/
theorem law_lifted_laid {C : Checked} {f : FuncId} {fn : Func} {s : ChangeSpec} {conds : List PathCond} {tb : TypeId} {ld : List (String × DataW Unit)}
    (own : ownKnob C.prog.godebug = none) (laid : laidOutB C.prog = true) (noInit : C.prog.inits.idxOf? f = none) (hfn : C.prog.funcs[f]? = some fn)
    (hvars : s.vars = []) (hres : fn.resultTypes = #[tb]) (hb : C.prog.underlying tb = some .bool)
    (hread : ∀ t ∈ fn.params.toList, C.prog.readableRec t = true ∧ t < C.prog.types.size)
    (hspec : ∀ (H : Type) (ds : List (DataW H)), ds.length = fn.params.toList.length → s.fn H (ds ++ []) = { results := [.lit (.bool true)], args := ds, vars := [] })
    (os : Os) (started : os.Started) (H : Type) (enc : TypeId × Value → H)
    (witness : ∃ (w : World) (tape : Tape) (i : Input), w.os = os ∧ (w.forCall tape i).Shaped C.prog ∧ i.vars = [] ∧ Input.okWide C.prog (w.forCall tape i) .any w.heap.size f i ∧
      ((s.pre enc C.prog fn conds false (w.forCall tape i).memory i.args ∧ laidMetH C.prog ld (w.forCall tape i).memory) ∧ sizedMet enc C.prog fn (OpenSpec.ofChange s) false (w.forCall tape i).memory i.args) ∧ Assume.holds {} C.prog (lone (Frame.enter C.prog f i.args .normal) [] (w.forCall tape i)))
    (contract : ∀ (W : World) (args : Array Value), laidMetH C.prog ld W → Each C.prog W fn.params.toList args.toList →
      Calls C.prog f args W fun e W' => e = .returned (.bool true) ∧ Below W.heap.size W W') :
    ReturnsInHanded {} C os f .any (fun w args => (s.pre enc C.prog fn conds false w args ∧ laidMetH C.prog ld w) ∧ sizedMet enc C.prog fn (OpenSpec.ofChange s) false w args) (s.post enc C.prog fn false true false false) := by
  refine returnsInHanded_of_change_and (X := fun w _ => laidMetH C.prog ld w) (fun _ _ _ hh h => laidMetH.of_heap hh h) own started noInit hfn witness ?_
  intro W base args ds gs before hval hW _ hsz hL _
  have hsize : ∀ (j : Nat) t d, fn.params.toList[j]? = some t → ds[j]? = some d → ∀ n ∈ d.weights C.prog t, n ≤ reachBytes := fun j t d h1 h2 n hn => by
    have hj := (List.getElem?_eq_some_iff.1 h1).1
    have hk := (List.getElem?_eq_some_iff.1 h2).1
    have := List.all_eq_true.1 hsz n (DataW.weights_mem_each (j := j) (t := t) (d := d) (by rw [List.getElem?_append_left hj]; exact h1) (by rw [List.getElem?_append_left hk]; exact h2) n hn)
    simpa using this
  have hW' := hW
  obtain ⟨p, q, hA, hV, rfl, hfz, hnd⟩ := hW
  rw [hvars] at hV
  obtain ⟨rfl, rfl⟩ := trodVars_none hV
  have hlen : ds.length = fn.params.toList.length := trodAll_len _ _ _ _ hA
  refine (contract W args hL (each_of _ _ _ _ base (fun j t v h1 h2 => hval j t v (by simpa using h1) (by simpa using h2)) hsize hA)).mono fun e W' ⟨he, bel⟩ => ?_
  subst he
  obtain ⟨_, hst⟩ := trodAll_stays laid bel _ _ _ _ hread hA
  have e1 := hspec H ds hlen
  refine ⟨_, rfl, ds, [], p ++ [], [], p, [], hW', ?_, ?_, ?_, bel.frame _, fun h => by cases h⟩
  · rw [e1, hres]
    exact trodAll_mk1 (shut_bool hb _)
  · rw [e1]
    exact hst
  · rw [e1, hvars]
    rfl

abbrev halvesLaid : List (String × DataW Unit) := [("recoup/frame.halves", Rows.laid_recoup_frame_halves)]
theorem halves_global : Tryd.prog.globalNamed "recoup/frame.halves" = some 0 := by kernel_rfl
theorem halves_type : (Tryd.prog.globals[0]?).map (·.type) = some 118 := by kernel_rfl
theorem halves_cells : Tryd.prog.cellsOf 105 = 1 := by kernel_rfl
def halvesNat : List Nat := [0, 498536548, 997073096, 651767980, 1994146192, 1802195444, 1303535960, 1342533948, 3988292384, 4027552580, 3604390888, 3412177804, 2607071920, 2262029012, 2685067896, 3183342108]
theorem halves_vals : (List.range 16).map (crcIter 4) = halvesNat := by decide +kernel
theorem halves_datum : (Rows.laid_recoup_frame_halves : DataW Unit) = .agg (halvesNat.map fun n : Nat => .lit (.int .u32 (n : Int))) := rfl

/-- What the listing says of memory. -/
theorem halves_of_laid {W : World} (h : laidMetH Tryd.prog halvesLaid W) : HalvesAt W := by
  have hp : laidMet Tryd.prog halvesLaid W := h
  obtain ⟨ps, ⟨g, t, cs, f, p, q, hg, ht, hv, hd, _, _⟩, _, hc⟩ := hp
  obtain rfl := Option.some.inj (halves_global.symm.trans hg)
  obtain rfl := Option.some.inj (halves_type.symm.trans ht)
  obtain ⟨xs, m1, rfl, hx1, hlen, hn3, hel⟩ := DataW.trod_array Tryd.underlying118 hd
  have hx2 : halvesNat.map (fun n : Nat => (DataW.lit (.int .u32 (n : Int)) : DataW Unit)) = xs.map (fun x => x.1) := by
    have h1 := congrArg Prod.fst hx1
    rw [halves_datum] at h1
    injection h1
  have key : ∀ i, i < 16 → W.cell? ⟨0, i, none⟩ = some (.int .u32 (crcIter 4 i : Nat)) := by
    intro i hi
    have h1 := hel i hi
    rw [halves_cells, Nat.mul_one] at h1
    have hlt : i < xs.length := by omega
    rw [List.getElem?_eq_getElem hlt] at h1
    obtain ⟨k, e1, e2, _⟩ := DataW.trod_int Tryd.underlying105 h1
    have h3 := congrArg (fun l => l[i]?) hx2
    simp only [List.getElem?_map, List.getElem?_eq_getElem hlt, Option.map_some] at h3
    rw [← halves_vals, List.getElem?_map, List.getElem?_range hi] at h3
    simp only [Option.map_some, Option.some.injEq] at h3
    have h4 : xs[i].1 = .lit (.int .u32 k) := by rw [e2]
    rw [h4] at h3
    injection h3 with h3
    injection h3 with _ h3
    rw [World.var?_cell hg hv i, h3]
    have h5 := congrArg (fun l => l[0]?) e1
    simp only [List.getElem?_take, List.getElem?_drop, List.getElem?_cons_zero, Nat.add_zero] at h5
    simpa using h5
  exact ⟨World.block_lt_of_cell? _ _ (key 0 (by decide)), key⟩

theorem frame_own : ownKnob Tryd.prog.godebug = none := by kernel_rfl
theorem frame_laidOut : laidOutB Tryd.prog = true := by kernel_rfl
theorem cells_u8' : Tryd.prog.cellsOf 5 = 1 := by kernel_rfl
/-- The door's own heap meets the listing. -/
theorem door_met (os : Os) (args : Array Value) : laidMetH Tryd.prog halvesLaid ((World.doorLaid Tryd.prog 14 os).forCall (fun _ _ => 0) ⟨#[], args, []⟩).memory :=
  laidMetH_of_parts3 (fuel := 8) (laidMet_of_run' 8 (by kernel_rfl) (by kernel_rfl)) (by kernel_rfl) (by kernel_rfl)
end Go.Proofs.YtfoapnclfipkiaaDoor
