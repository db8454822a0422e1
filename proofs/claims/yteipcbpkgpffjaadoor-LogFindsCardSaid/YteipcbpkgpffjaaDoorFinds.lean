/-
  LogFinds: of any two files the log that counts is found, with its image and its records, and what stands behind is cut off; else there is none; tied to the program's text. No conditions: every input. Ahead of it, in one text: A law's row out of a contract, where the row lists the table of the sums of half bytes: what the listing says of memory. Conditions: those of each theorem. The document's log of a disk's files: recoupref01.Find. Conditions: those of each theorem ('RefAt': the pointer leads to a reference disk that holds D).
-/
import Derived.Test.YteipcbpkgpffjaaDoorHalves
import Derived.LaidMore
import Derived.LaidOnce
import Derived.Handed
import Derived.Stop.Joined
import Derived.Test.YteipcbpkgpffjaaDoorFramesRef
import Derived.Test.YteipcbpkgpffjaaDoorLists
import Derived.Test.YteipcbpkgpffjaaDoorLogPlain
import Derived.Test.YteipcbpkgpffjaaDoorRefs
import Derived.StillTailTactics
import Derived.Test.YteipcbpkgpffjaaDoorNumbers
import Derived.Test.YteipcbpkgpffjaaDoorLogOpen
import Derived.Test.YteipcbpkgpffjaaDoorLogAwake
import Derived.Test.YteipcbpkgpffjaaDoorCards
import Derived.Test.YteipcbpkgpffjaaDoorTie
import Derived.Lib.SmallJoins
import Derived.SevenTiedAt
namespace Go.Proofs.YteipcbpkgpffjaaDoor
open Go.ChangeShapes Go.WideShapes Go.ChangeAt Go.RowKit
set_option maxRecDepth 100000

/-- A law's step over a row that lists variables: from a contract that says 'true, and nothing that was there has turned'. -/
theorem law_lifted_laid {C : Checked} {f : FuncId} {fn : Func} {s : ChangeSpec} {conds : List PathCond} {tb : TypeId} {ld : List (String × DataW Unit)}
    (own : ownKnob C.prog.godebug = none) (laid : laidOutB C.prog = true) (noInit : C.prog.inits.idxOf? f = none) (hfn : C.prog.funcs[f]? = some fn)
    (hvars : s.vars = []) (hres : fn.resultTypes = #[tb]) (hb : C.prog.underlying tb = some .bool)
    (hread : ∀ t ∈ fn.params.toList, C.prog.readableRec t = true ∧ t < C.prog.types.size)
    (hspec : ∀ (H : Type) (ds : List (DataW H)), ds.length = fn.params.toList.length → s.fn H (ds ++ []) = { results := [.lit (.bool true)], args := ds, vars := [] })
    (os : Os) (started : os.Started) (H : Type) (enc : TypeId × Value → H)
    (witness : ∃ (w : World) (tape : Tape) (i : Input), w.os = os ∧ (w.forCall tape i).Shaped C.prog ∧ i.vars = [] ∧ Input.okWide C.prog (w.forCall tape i) .any w.heap.size f i ∧
      ((s.pre enc C.prog fn conds false (w.forCall tape i).memory i.args ∧ laidMetH C.prog ld (w.forCall tape i).memory) ∧ sizedMet enc C.prog fn (OpenSpec.ofChange s) false (w.forCall tape i).memory i.args) ∧ Assume.holds {} C.prog (lone (Frame.enter C.prog f i.args .normal) [] (w.forCall tape i)))
    (contract : ∀ (W : World) (args : Array Value), laidMetH C.prog ld W → Each C.prog W fn.params.toList args.toList →
      Calls C.prog f args W fun e W' => e = .returned (.bool true) ∧ Below W.heap.size W W') :
    ReturnsInHanded {} C os f .any (fun w args => (s.pre enc C.prog fn conds false w args ∧ laidMetH C.prog ld w) ∧ sizedMet enc C.prog fn (OpenSpec.ofChange s) false w args) (s.post enc C.prog fn false true false false) := by
  refine returnsInHanded_of_change_and (X := fun w _ => laidMetH C.prog ld w) (fun _ _ _ hh h => laidMetH.of_heap hh h) own started noInit hfn witness ?_
  intro W base args ds gs before hval hW _ hsz hL _
  have hsize : ∀ (j : Nat) t d, fn.params.toList[j]? = some t → ds[j]? = some d → ∀ n ∈ d.weights C.prog t, n ≤ reachBytes := fun j t d h1 h2 n hn => by
    have hj := (List.getElem?_eq_some_iff.1 h1).1
    have hk := (List.getElem?_eq_some_iff.1 h2).1
    have := List.all_eq_true.1 hsz n (DataW.weights_mem_each (j := j) (t := t) (d := d) (by rw [List.getElem?_append_left hj]; exact h1) (by rw [List.getElem?_append_left hk]; exact h2) n hn)
    simpa using this
  have hW' := hW
  obtain ⟨p, q, hA, hV, rfl, hfz, hnd⟩ := hW
  rw [hvars] at hV
  obtain ⟨rfl, rfl⟩ := trodVars_none hV
  have hlen : ds.length = fn.params.toList.length := trodAll_len _ _ _ _ hA
  refine (contract W args hL (each_of _ _ _ _ base (fun j t v h1 h2 => hval j t v (by simpa using h1) (by simpa using h2)) hsize hA)).mono fun e W' ⟨he, bel⟩ => ?_
  subst he
  obtain ⟨_, hst⟩ := trodAll_stays laid bel _ _ _ _ hread hA
  have e1 := hspec H ds hlen
  refine ⟨_, rfl, ds, [], p ++ [], [], p, [], hW', ?_, ?_, ?_, bel.frame _, fun h => by cases h⟩
  · rw [e1, hres]
    exact trodAll_mk1 (shut_bool hb _)
  · rw [e1]
    exact hst
  · rw [e1, hvars]
    rfl

abbrev halvesLaid : List (String × DataW Unit) := [("recoup/frame.halves", Rows.laid_recoup_frame_halves)]
theorem halves_global : Tryd.prog.globalNamed "recoup/frame.halves" = some 0 := by kernel_rfl
theorem halves_type : (Tryd.prog.globals[0]?).map (·.type) = some 118 := by kernel_rfl
theorem halves_cells : Tryd.prog.cellsOf 105 = 1 := by kernel_rfl
def halvesNat : List Nat := [0, 498536548, 997073096, 651767980, 1994146192, 1802195444, 1303535960, 1342533948, 3988292384, 4027552580, 3604390888, 3412177804, 2607071920, 2262029012, 2685067896, 3183342108]
theorem halves_vals : (List.range 16).map (crcIter 4) = halvesNat := by decide +kernel
theorem halves_datum : (Rows.laid_recoup_frame_halves : DataW Unit) = .agg (halvesNat.map fun n : Nat => .lit (.int .u32 (n : Int))) := rfl

/-- What the listing says of memory. -/
theorem halves_of_laid {W : World} (h : laidMetH Tryd.prog halvesLaid W) : HalvesAt W := by
  have hp : laidMet Tryd.prog halvesLaid W := h
  obtain ⟨ps, ⟨g, t, cs, f, p, q, hg, ht, hv, hd, _, _⟩, _, hc⟩ := hp
  obtain rfl := Option.some.inj (halves_global.symm.trans hg)
  obtain rfl := Option.some.inj (halves_type.symm.trans ht)
  obtain ⟨xs, m1, rfl, hx1, hlen, hn3, hel⟩ := DataW.trod_array Tryd.underlying118 hd
  have hx2 : halvesNat.map (fun n : Nat => (DataW.lit (.int .u32 (n : Int)) : DataW Unit)) = xs.map (fun x => x.1) := by
    have h1 := congrArg Prod.fst hx1
    rw [halves_datum] at h1
    injection h1
  have key : ∀ i, i < 16 → W.cell? ⟨0, i, none⟩ = some (.int .u32 (crcIter 4 i : Nat)) := by
    intro i hi
    have h1 := hel i hi
    rw [halves_cells, Nat.mul_one] at h1
    have hlt : i < xs.length := by omega
    rw [List.getElem?_eq_getElem hlt] at h1
    obtain ⟨k, e1, e2, _⟩ := DataW.trod_int Tryd.underlying105 h1
    have h3 := congrArg (fun l => l[i]?) hx2
    simp only [List.getElem?_map, List.getElem?_eq_getElem hlt, Option.map_some] at h3
    rw [← halves_vals, List.getElem?_map, List.getElem?_range hi] at h3
    simp only [Option.map_some, Option.some.injEq] at h3
    have h4 : xs[i].1 = .lit (.int .u32 k) := by rw [e2]
    rw [h4] at h3
    injection h3 with h3
    injection h3 with _ h3
    rw [World.var?_cell hg hv i, h3]
    have h5 := congrArg (fun l => l[0]?) e1
    simp only [List.getElem?_take, List.getElem?_drop, List.getElem?_cons_zero, Nat.add_zero] at h5
    simpa using h5
  exact ⟨World.block_lt_of_cell? _ _ (key 0 (by decide)), key⟩

theorem frame_own : ownKnob Tryd.prog.godebug = none := by kernel_rfl
theorem frame_laidOut : laidOutB Tryd.prog = true := by kernel_rfl
theorem cells_u8' : Tryd.prog.cellsOf 5 = 1 := by kernel_rfl
/-- The door's own heap meets the listing. -/
theorem door_met (os : Os) (args : Array Value) : laidMetH Tryd.prog halvesLaid ((World.doorLaid Tryd.prog 14 os).forCall (fun _ _ => 0) ⟨#[], args, []⟩).memory :=
  laidMetH_of_parts3 (fuel := 8) (laidMet_of_run' 8 (by kernel_rfl) (by kernel_rfl)) (by kernel_rfl) (by kernel_rfl)
end Go.Proofs.YteipcbpkgpffjaaDoor

namespace Go.Proofs.YteipcbpkgpffjaaDoor
open Go.RowKit
set_option maxRecDepth 100000

theorem endOf_append (j : Nat) (L M : List (List UInt8)) : endOf j (L ++ M) = endOf (endOf j L) M := by
  induction L generalizing j with
  | nil => rfl
  | cons x L ih => simp only [List.cons_append, endOf, ih]
/-- What the document's frames are. -/
theorem Fr.all {w w' : World} {xs : List UInt8} {v u : Value} (h : Fr w w' xs (endOf 0 (frames xs)) v u) :
    Below w.heap.size w w' ∧ ∃ E, RowsOf w' w.heap.size v E (frames xs) ∧ w'.ownsRow w.heap.size 3 1 u (frames xs).length ((places 0 (frames xs)).map ival) ∧ ∀ g, E g → w.heap.size ≤ g := by
  obtain ⟨hb, E, L, h1, h2, h3, _, h5, h6⟩ := h
  have e : frames xs = L := by
    have h7 : endOf 0 (frames xs) = endOf (endOf 0 L) (frames (xs.drop (endOf 0 (frames xs)))) := by rw [← endOf_append, ← h6]
    rw [← h5] at h7
    have h8 := endOf_ge (endOf 0 (frames xs)) (frames (xs.drop (endOf 0 (frames xs))))
    have h9 : (frames (xs.drop (endOf 0 (frames xs)))).length = 0 := by omega
    rw [List.length_eq_zero_iff.1 h9, List.append_nil] at h6
    exact h6
  subst e
  exact ⟨hb, E, h1, h2, fun g hg => (h3 g hg).1⟩
/-- A place out of a row of them. -/
theorem place_at {w : World} {base : Nat} {a : Option Addr} {c m : Nat} {P : List Nat} (h : w.ownsRow base 3 1 (.slice a m c) m (P.map ival)) {i z : Nat} (hz : P[i]? = some z) : ∃ g, a = some ⟨g, 0, none⟩ ∧ w.cell? ⟨g, i, none⟩ = some (.int .i64 (z : Nat)) := by
  obtain ⟨hi, rfl⟩ := List.getElem?_eq_some_iff.1 hz
  rcases h.2 with ⟨_, h2⟩ | ⟨g, cap, cur, hv, _, hh, _, _, _, ht⟩
  · have := h.1
    simp at this
    omega
  · injection hv with e1 _ _
    subst e1
    refine ⟨g, rfl, ?_⟩
    rw [cell_of_row w g i cur _ (0, 0) hh]
    have h1 : (P.map ival)[i]? = some (ival P[i]) := by simp [List.getElem?_map, List.getElem?_eq_getElem hi]
    rw [← ht, List.getElem?_take] at h1
    split at h1
    · show cur[i]? = some (ival P[i])
      simpa using h1
    · cases h1
theorem places_last (j : Nat) (L : List (List UInt8)) (x : List UInt8) : (places j (x :: L))[L.length]? = some (endOf j (x :: L)) := by
  induction L generalizing j x with
  | nil => rfl
  | cons y L ih =>
    have h := ih (j + 7 + x.length) y
    simpa [places, endOf] using h

/-- What memory holds of a list of lists of bytes, all of it in blocks above B. -/
def ListsOff (w : World) (B : Nat) (a : Option Addr) (L : List (List UInt8)) : Prop :=
  L = [] ∨ ∃ b off, a = some ⟨b, off, none⟩ ∧ b < w.heap.size ∧ B < b ∧ ∀ i (h : i < L.length), ∃ ad c, w.cell? ⟨b, off + i, none⟩ = some (.slice ad L[i].length c) ∧ IsBytes w ad L[i] ∧ L[i].length ≤ c ∧ c ≤ maxLen ∧ (ad = none → c = 0) ∧ ∀ y, ad = some y → B < y.block
theorem ListsOff.lists {w : World} {B : Nat} {a : Option Addr} {L : List (List UInt8)} (h : ListsOff w B a L) : ListsAt w a L := by
  rcases h with h | ⟨b, off, h1, h2, _, h3⟩
  · exact .inl h
  · refine .inr ⟨b, off, h1, h2, fun i hi => ?_⟩
    obtain ⟨ad, c, q1, q2, q3, q4, q5, _⟩ := h3 i hi
    exact ⟨ad, c, q1, q2, q3, q4, q5⟩
theorem ListsOff.upd {T : Nat → Prop} {w w' : World} {B : Nat} {a : Option Addr} {L : List (List UInt8)} (h : ListsOff w B a L) (hu : Upd T w w') (hT : ∀ k, T k → k ≤ B) : ListsOff w' B a L := by
  rcases h with h | ⟨b, off, h1, h2, h0, h3⟩
  · exact .inl h
  · refine .inr ⟨b, off, h1, Nat.lt_of_lt_of_le h2 hu.size, h0, fun i hi => ?_⟩
    obtain ⟨ad, c, q1, q2, q3, q4, q5, q6⟩ := h3 i hi
    exact ⟨ad, c, (hu.cell (p := ⟨b, off + i, none⟩) h2 (fun x => by have h9 : b ≤ B := hT _ x; omega)).trans q1, q2.upd hu (fun _ y hy x => by have h9 := hT _ x; have := q6 y hy; omega), q3, q4, q5, q6⟩
theorem ListsOff.low {w : World} {B C : Nat} {a : Option Addr} {L : List (List UInt8)} (h : ListsOff w B a L) (hC : C ≤ B) : ListsOff w C a L := by
  rcases h with h | ⟨b, off, h1, h2, h0, h3⟩
  · exact .inl h
  · refine .inr ⟨b, off, h1, h2, by omega, fun i hi => ?_⟩
    obtain ⟨ad, c, q1, q2, q3, q4, q5, q6⟩ := h3 i hi
    exact ⟨ad, c, q1, q2, q3, q4, q5, fun y hy => by have := q6 y hy; omega⟩
/-- The first of a row's slices, and those behind it. -/
theorem RowsOf.head {w : World} {base n c : Nat} {a : Option Addr} {E : Nat → Prop} {x : List UInt8} {R : List (List UInt8)} (h : RowsOf w base (.slice a n c) E (x :: R)) :
    ∃ g, a = some ⟨g, 0, none⟩ ∧ base ≤ g ∧ g < w.heap.size ∧ n ≤ c ∧ c ≤ maxLen ∧ n = R.length + 1 ∧ (∃ ad c0, w.cell? ⟨g, 0, none⟩ = some (.slice ad x.length c0) ∧ IsBytes w ad x ∧ x.length ≤ c0 ∧ c0 ≤ maxLen ∧ (ad = none → c0 = 0) ∧ ∀ y, ad = some y → E y.block) ∧
      ∀ B, B < g → (∀ y, E y → B < y) → ListsOff w B (some ⟨g, 1, none⟩) R := by
  obtain ⟨vals, hr, hi⟩ := h
  rcases hr.2 with ⟨_, h2⟩ | ⟨g, cap, cur, hv, hb, hg, h4, h5, _, ht⟩
  · simp at h2
  · injection hv with h1 h2 h3
    subst h1 h2 h3
    have hlt := (Array.getElem?_eq_some_iff.1 hg).1
    have key : ∀ i v, vals[i]? = some v → w.cell? ⟨g, i, none⟩ = some v := fun i v p1 => by
      rw [cell_of_row w g i cur _ (0, 0) hg]
      rw [← ht, List.getElem?_take] at p1
      split at p1
      · simpa using p1
      · cases p1
    refine ⟨g, rfl, hb, hlt, h4, h5, by simp, ?_, fun B hB hE => ?_⟩
    · obtain ⟨ad, c', p1, p2, p3, p4, p5, p6⟩ := hi 0 (by simp)
      exact ⟨ad, c', key 0 _ p1, p2, p3, p4, p5, p6⟩
    · refine .inr ⟨g, 1, rfl, hlt, hB, fun i h => ?_⟩
      obtain ⟨ad, c', p1, p2, p3, p4, p5, p6⟩ := hi (i + 1) (by simpa using h)
      refine ⟨ad, c', ?_, p2, p3, p4, p5, fun y hy => hE _ (p6 y hy)⟩
      rw [Nat.add_comm 1 i]
      exact key (i + 1) _ p1

/-- The generation of the file that counts so far. -/
def genC (D : DM) (c : Nat) : Nat := if c = 0 then 0 else genOf (D.f c).b
/-- Which file counts, of those ahead of the k-th. -/
def bestF (D : DM) : Nat → Nat
  | 0 => 0
  | k + 1 => if k = 0 then 0 else if genC D (bestF D k) < genOf (D.f k).b then k else bestF D k
theorem bestF_one (D : DM) : bestF D 1 = 0 := rfl
theorem bestF_three (D : DM) : bestF D 3 = counts (D.f 1).b (D.f 2).b := by
  have e2 : bestF D 2 = if 0 < genOf (D.f 1).b then 1 else 0 := by
    rw [bestF, if_neg (by decide), bestF_one]
    rfl
  rw [bestF, if_neg (by decide), e2]
  unfold counts
  by_cases h1 : 0 < genOf (D.f 1).b
  · rw [if_pos h1]
    show (if genC D 1 < _ then 2 else 1) = _
    rw [show genC D 1 = genOf (D.f 1).b from rfl]
  · rw [if_neg h1]
    show (if genC D 0 < _ then 2 else 0) = _
    rw [show genC D 0 = 0 from rfl]
    by_cases h2 : genOf (D.f 1).b < genOf (D.f 2).b
    · rw [if_pos h2, if_pos (by omega)]
    · rw [if_neg h2, if_neg (by omega)]
theorem bestF_no {D : DM} {k : Nat} (hk : k ≠ 0) (h : ¬ genC D (bestF D k) < genOf (D.f k).b) : bestF D (k + 1) = bestF D k := by rw [bestF, if_neg hk, if_neg h]
theorem bestF_yes {D : DM} {k : Nat} (hk : k ≠ 0) (h : genC D (bestF D k) < genOf (D.f k).b) : bestF D (k + 1) = k := by rw [bestF, if_neg hk, if_pos h]

/-- What memory holds, at block B, of the log that counts. -/
structure FoundAt (w : World) (B : Nat) (D : DM) (c : Nat) : Prop where
  f : w.cell? ⟨B, 0, none⟩ = some (.int .i64 (c : Int))
  g : w.cell? ⟨B, 1, none⟩ = some (.int .i64 (genC D c : Int))
  mem : ∃ ai ni ci ar nr cr wh, w.cell? ⟨B, 2, none⟩ = some (.slice ai ni ci) ∧ w.cell? ⟨B, 3, none⟩ = some (.slice ar nr cr) ∧ w.cell? ⟨B, 4, none⟩ = some (.int .i64 ((wh : Nat) : Int)) ∧
    (c ≠ 0 → ∃ x R, frames (D.f c).b = x :: R ∧ 4 ≤ x.length ∧ ni = x.length - 4 ∧ IsBytes w ai (x.drop 4) ∧ (∀ y, ai = some y → B < y.block) ∧ nr = R.length ∧ ListsOff w B ar R ∧ wh = endOf 0 (x :: R))
theorem FoundAt.below {w w' : World} {B : Nat} {D : DM} {c : Nat} (h : FoundAt w B D c) (hB : B < w.heap.size) (hb : Below w.heap.size w w') : FoundAt w' B D c := by
  have e := fun o => hb.cell (p := ⟨B, o, none⟩) hB
  obtain ⟨ai, ni, ci, ar, nr, cr, wh, h1, h2, h3, h4⟩ := h.mem
  refine ⟨(e 0).trans h.f, (e 1).trans h.g, ai, ni, ci, ar, nr, cr, wh, (e 2).trans h1, (e 3).trans h2, (e 4).trans h3, fun hc => ?_⟩
  obtain ⟨x, R, q1, q2, q3, q4, q5, q6, q7, q8⟩ := h4 hc
  exact ⟨x, R, q1, q2, q3, q4.below hb, q5, q6, q7.upd (T := fun _ => False) (below_upd _ hb) (fun _ x => x.elim), q8⟩

/-- A block of five cells, of a log's. -/
def Row5 (w : World) (B : Nat) : Prop := ∃ cur, w.heap[B]? = some (.cells cur 48 (0, 0)) ∧ cur.size = 5
theorem Row5.upd {S : Nat → Prop} {w w' : World} {B : Nat} (h : Row5 w B) (hu : Upd S w w') (hn : ¬ S B) : Row5 w' B := by
  obtain ⟨cur, h1, h2⟩ := h
  exact ⟨cur, by rw [hu.block B (Array.getElem?_eq_some_iff.1 h1).1 hn]; exact h1, h2⟩
theorem Row5.below {w w' : World} {B : Nat} (h : Row5 w B) (hb : Below w.heap.size w w') : Row5 w' B := h.upd (S := fun _ => False) (below_upd _ hb) id
theorem Row5.frozen {w : World} {B : Nat} (h : Row5 w B) (o : Nat) : w.frozen? ⟨B, o, none⟩ = false := by
  obtain ⟨cur, h1, _⟩ := h
  simp [World.frozen?, h1]

theorem Row5.cells {w : World} {B : Nat} (h : Row5 w B) : ∃ v0 v1 v2 v3 v4, w.cell? ⟨B, 0, none⟩ = some v0 ∧ w.cell? ⟨B, 1, none⟩ = some v1 ∧ w.cell? ⟨B, 2, none⟩ = some v2 ∧ w.cell? ⟨B, 3, none⟩ = some v3 ∧ w.cell? ⟨B, 4, none⟩ = some v4 := by
  obtain ⟨cur, h1, h2⟩ := h
  have key : ∀ i, i < 5 → ∃ v, w.cell? ⟨B, i, none⟩ = some v := fun i hi => ⟨cur[i]'(by omega), by rw [cell_of_row w B i cur _ _ h1]; exact Array.getElem?_eq_getElem (by omega)⟩
  obtain ⟨v0, e0⟩ := key 0 (by decide)
  obtain ⟨v1, e1⟩ := key 1 (by decide)
  obtain ⟨v2, e2⟩ := key 2 (by decide)
  obtain ⟨v3, e3⟩ := key 3 (by decide)
  obtain ⟨v4, e4⟩ := key 4 (by decide)
  exact ⟨v0, v1, v2, v3, v4, e0, e1, e2, e3, e4⟩
theorem Row5.put {w : World} {B : Nat} (h : Row5 w B) (a b c d e : Value) : ∃ W, Hid (((((w.setCell ⟨B, 0, none⟩ a).setCell ⟨B, 1, none⟩ b).setCell ⟨B, 2, none⟩ c).setCell ⟨B, 3, none⟩ d).setCell ⟨B, 4, none⟩ e = W) ∧
    W.heap[B]? = some (.cells #[a, b, c, d, e] 48 (0, 0)) ∧ Upd (fun k => k = B) w W := by
  obtain ⟨⟨cur⟩, h1, h2⟩ := h
  match cur, h2 with
  | [x0, x1, x2, x3, x4], _ =>
    have k := setCell_heap_at (o := 4) (u := e) (setCell_heap_at (o := 3) (u := d) (setCell_heap_at (o := 2) (u := c) (setCell_heap_at (o := 1) (u := b) (setCell_heap_at (o := 0) (u := a) h1))))
    exact ⟨_, Lib.hid rfl, by simpa using k,
      (((((Upd.refl (fun k => k = B) w).setCell (p := ⟨B, 0, none⟩) (.inl rfl) a).setCell (p := ⟨B, 1, none⟩) (.inl rfl) b).setCell (p := ⟨B, 2, none⟩) (.inl rfl) c).setCell (p := ⟨B, 3, none⟩) (.inl rfl) d).setCell (p := ⟨B, 4, none⟩) (.inl rfl) e⟩
theorem log_info : (Tryd.prog.info? 48).map (·.size) = some 5 := by kernel_rfl
/-- What lies behind the first four bytes of a slice. -/
theorem drop_four {W : World} {ad AI : Option Addr} {c0 B : Nat} {x : List UInt8} {f : Addr → Addr} (hf : ∀ b o, f ⟨b, o, none⟩ = ⟨b, o + 4, none⟩) (hA : (if c0 = 4 then ad else Option.map f ad) = AI) (hx : IsBytes W ad x) (hl : 4 ≤ x.length) (hc : x.length ≤ c0)
    (hB : ∀ y, ad = some y → B < y.block) : IsBytes W AI (x.drop 4) ∧ ∀ y, AI = some y → B < y.block := by
  rcases hx with rfl | ⟨b, off, rfl, hb, hcs⟩
  · simp at hl
  by_cases h : c0 = 4
  · rw [if_pos h] at hA
    subst hA
    exact ⟨.inl (List.drop_of_length_le (by omega)), hB⟩
  · rw [if_neg h, Option.map_some, hf] at hA
    subst hA
    refine ⟨.inr ⟨b, off + 4, rfl, hb, fun i hi => ?_⟩, fun y hy => ?_⟩
    · rw [List.getElem_drop, Nat.add_assoc]
      exact hcs (4 + i) (by simp at hi; omega)
    · injection hy with hy
      subst hy
      exact hB ⟨b, off, none⟩ rfl
/-- .. behind the first of a row's slices. -/
theorem drop_one {W : World} {AR : Option Addr} {g c1 B : Nat} {R : List (List UInt8)} (hA : (if c1 = 1 then some (⟨g, 0, none⟩ : Addr) else some ⟨g, 1, none⟩) = AR) (h : ListsOff W B (some ⟨g, 1, none⟩) R) (hc : R.length + 1 ≤ c1) : ListsOff W B AR R := by
  by_cases h1 : c1 = 1
  · exact .inl (List.length_eq_zero_iff.1 (by omega))
  · rw [if_neg h1] at hA
    subst hA
    exact h
theorem alloc_two (w : World) (o1 o2 : Obj) : ((w.alloc o1).alloc o2).heap[w.heap.size + 1]? = some o2 := by
  have e : (w.alloc o1).heap.size = w.heap.size + 1 := by simp
  rw [← e]
  exact heap_alloc_new _ _
theorem alloc_one (w : World) (o1 o2 : Obj) : ((w.alloc o1).alloc o2).heap[w.heap.size]? = some o1 := by
  have e : w.heap.size < (w.alloc o1).heap.size := by simp
  rw [((Below.refl _ (w.alloc o1)).alloc (Nat.le_refl _) o2).block _ e]
  exact heap_alloc_new _ _

set_option maxHeartbeats 1600000 in
theorem find_ref {w : World} {p : Nat} {S : Nat → Prop} {V : Nat → Value} {D : DM} (h : RefAt w p S V D) (hsz : ∀ i, i < 8 → (D.f i).b.length ≤ 1000000) :
    Calls Tryd.prog 24 #[.pointer (some ⟨p, 0, none⟩)] w fun e w' => Below w.heap.size w w' ∧ ∃ c ai ni ci ar nr cr wh, c = counts (D.f 1).b (D.f 2).b ∧ e = .returned (.agg #[.int .i64 (c : Nat), .int .i64 (genC D c), .slice ai ni ci, .slice ar nr cr, .int .i64 (wh : Nat)]) ∧
      (c ≠ 0 → ∃ x R, frames (D.f c).b = x :: R ∧ 4 ≤ x.length ∧ ni = x.length - 4 ∧ IsBytes w' ai (x.drop 4) ∧ (∀ y, ai = some y → w.heap.size < y.block) ∧ nr = R.length ∧ ListsOff w' w.heap.size ar R ∧ wh = endOf 0 (x :: R)) := by
  have hp := h.lt p h.own
  have HD := Lib.hid h
  have HZ := Lib.hid hsz
  clear hsz h
  go_enter Tryd.func24, Tryd.ntmps24
  go_wp2
  go_loopw [4] (fun i wr => ∃ k : Nat, 1 ≤ k ∧ k ≤ 3 ∧ i = .int .i64 k ∧ Below w.heap.size w wr ∧ w.heap.size + 1 < wr.heap.size ∧ Row5 wr w.heap.size ∧ Row5 wr (w.heap.size + 1) ∧ FoundAt wr (w.heap.size + 1) D (bestF D k)) (fun i _ => 3 - (intOf i).toNat)
  case atStart =>
    refine ⟨1, Nat.le_refl _, by decide, rfl, ((Below.refl _ w).alloc (Nat.le_refl _) _).alloc (by simp) _, by simp, ⟨_, alloc_one _ _ _, rfl⟩, ⟨_, alloc_two _ _ _, rfl⟩, ?_⟩
    rw [bestF_one]
    exact ⟨by simp, by simp [genC], none, 0, 0, none, 0, 0, 0, by simp, by simp, by simp, fun h => (h rfl).elim⟩
  case round =>
    obtain ⟨k, hk1, hk3, rfl, hB, hlt, r0, r1, hF⟩ := hrel
    by_cases hk : k = 3
    · subst hk
      rw [bestF_three] at hF
      obtain ⟨f0, f1, ai, ni, ci, ar, nr, cr, wh, f2, f3, f4, hm⟩ := hF
      obtain ⟨c, hc⟩ : ∃ c, c = counts (D.f 1).b (D.f 2).b := ⟨_, rfl⟩
      rw [← hc] at f0 f1 hm
      have HC := Lib.hid hc
      have HM := Lib.hid hm
      have HB := Lib.hid hB
      clear hc hm hB hk1 hk3
      obtain ⟨v0, v1, v2, v3, v4, e0, e1, e2, e3, e4⟩ := r0.cells
      have z0 := r0.frozen 0
      have z1 := r0.frozen 1
      have z2 := r0.frozen 2
      have z3 := r0.frozen 3
      have z4 := r0.frozen 4
      obtain ⟨W, hW, hr, hu⟩ := r0.put (.int .i64 (c : Int)) (.int .i64 (genC D c : Int)) (.slice ai ni ci) (.slice ar nr cr) (.int .i64 (wh : Int))
      have HR := Lib.hid hr
      have HU := Lib.hid hu
      clear r0 r1 hr hu
      go_wp2
      rw [hW.out]
      refine bodyPost_ret (results_cell_row rfl _ _ w.heap.size _ _ _ _ rfl HR.out Tryd.underlying48 rfl log_info) rfl ⟨HB.out.trans (HU.out.toBelow HB.out.size (fun k hk x => by have h9 : k = w.heap.size := x; omega)), c, ai, ni, ci, ar, nr, cr, wh, HC.out, rfl, fun h0 => ?_⟩
      obtain ⟨x, R, q1, q2, q3, q4, q5, q6, q7, q8⟩ := HM.out h0
      exact ⟨x, R, q1, q2, q3, q4.upd HU.out (fun _ y hy x => by have h9 : y.block = w.heap.size := x; have := q5 y hy; omega), (fun y hy => by have := q5 y hy; omega), q6, (q7.upd HU.out (fun k x => by have h9 : k = w.heap.size := x; omega)).low (Nat.le_succ _), q8⟩
    · have hk2 : (k : Int) ≤ 2 := by omega
      have hk0 : (1 : Int) ≤ (k : Int) := by omega
      have hk8 : k < 8 := by omega
      have hD := HD.out.below hB
      obtain ⟨a, cap, hv, hby, hcl, hcm, hnil⟩ := hD.bytes k hk8
      have hval := hD.val k hk8
      rw [hv] at hval
      have hz := HZ.out k hk8
      clear hv hD
      obtain ⟨xs, hxs⟩ : ∃ xs, xs = (D.f k).b := ⟨_, rfl⟩
      rw [← hxs] at hby hcl hval hz
      have HXS := Lib.hid hxs
      clear hxs
      obtain ⟨m, hm⟩ : ∃ m, xs.length = m := ⟨_, rfl⟩
      rw [hm] at hcl hval hz
      have HM := Lib.hid hm
      clear hm
      go_wp2_with fail
      refine (frames_ref a xs m cap wr HM.out hby hcl hcm hnil hz).mono ?_
      rintro e w1 ⟨v, u, rfl, hfr⟩
      obtain ⟨b1, E, hv, hu, hE⟩ := hfr.all
      obtain ⟨F, hFr⟩ : ∃ F, F = frames xs := ⟨_, rfl⟩
      rw [← hFr] at hv hu
      have HFR := Lib.hid hFr
      clear hFr hfr hby hnil hval hz hcl hcm
      have HB1 := Lib.hid (hB.trans (b1.mono hB.size))
      have HLT : Hid (w.heap.size + 1 < w1.heap.size) := Nat.lt_of_lt_of_le hlt b1.size
      have R0 := Lib.hid (r0.below b1)
      have R1 := Lib.hid (r1.below b1)
      have HF := Lib.hid (hF.below hlt b1)
      have HBL : Hid (w.heap.size + 1 < wr.heap.size) := hlt
      have HE := Lib.hid hE
      have HG : Hid (genOf (D.f k).b = genOf xs) := by
        show genOf _ = genOf xs
        rw [HXS.out]
      clear hF r0 r1 hB b1 hE hlt
      obtain ⟨a1, c1, rfl⟩ := hv.slice
      obtain ⟨a2, c2, rfl⟩ := own_slice hu
      have HV := Lib.hid hv
      have HU := Lib.hid hu
      clear hv hu
      cases F with
      | nil =>
        have hg0 : Hid (bestF D (k + 1) = bestF D k) := bestF_no (by omega) (by
          rw [HG.out, genOf, ← HFR.out]
          exact Nat.not_lt_zero _)
        simp only [List.length_nil]
        go_wp2
        go_roundw
        case rel => exact ⟨k + 1, by omega, by omega, by go_num, HB1.out, HLT.out, R0.out, R1.out, by rw [hg0.out]; exact HF.out⟩
        case measure => simp [intOf]; omega
      | cons x R =>
        obtain ⟨g, rfl, g1, g2, g3, g4, -, ⟨ad, c0, h0, hx, hx1, hx2, hx3, hx4⟩, htl⟩ := HV.out.head
        have HTL := Lib.hid htl
        have HX4 := Lib.hid hx4
        clear htl hx4
        obtain ⟨nf, hnf⟩ : ∃ nf, nf = (x :: R).length := ⟨_, rfl⟩
        rw [← hnf] at g3
        have hnf1 : nf = R.length + 1 := by rw [hnf]; rfl
        have HNF := Lib.hid hnf
        rw [← hnf]
        clear hnf
        obtain ⟨mx, hmx⟩ : ∃ mx, x.length = mx := ⟨_, rfl⟩
        rw [hmx] at h0 hx1
        have HMX := Lib.hid hmx
        clear hmx
        have n1 : (nf == 0) = false := by simp; omega
        have n2 : (0 : Int) < (nf : Int) := by omega
        have n3 : ((nf : Int) == 0) = false := by simp; omega
        have HN1 := Lib.hid hnf1
        clear hnf1
        by_cases hs : mx < 4
        · have hs' : (mx : Int) < 4 := by omega
          have hg0 : Hid (bestF D (k + 1) = bestF D k) := bestF_no (by omega) (by
            rw [HG.out, genOf, ← HFR.out]
            show ¬ genC D (bestF D k) < (if x.length < 4 then 0 else _)
            rw [if_pos (by rw [HMX.out]; exact hs)]
            exact Nat.not_lt_zero _)
          clear hs
          go_wp2
          go_roundw
          case rel => exact ⟨k + 1, by omega, by omega, by go_num, HB1.out, HLT.out, R0.out, R1.out, by rw [hg0.out]; exact HF.out⟩
          case measure => simp [intOf]; omega
        · have hs' : ¬ (mx : Int) < 4 := by omega
          have hs4 : (4 : Int) ≤ (mx : Int) := by omega
          have hc4 : (4 : Int) ≤ (c0 : Int) := by omega
          have hc4n : 4 ≤ c0 := by omega
          have hgen : Hid (genOf (D.f k).b = numLe (x.take 4)) := by
            show genOf _ = _
            rw [HG.out, genOf, ← HFR.out]
            show (if x.length < 4 then 0 else _) = _
            rw [if_neg (by rw [HMX.out]; exact hs)]
          have hlt32 : numLe (x.take 4) < 4294967296 := part2_lt x 4
          have htl4 : Hid ((x.take 4).length = 4) := by
            show (x.take 4).length = 4
            rw [List.length_take, HMX.out]
            omega
          have hx14 := hx.take' 4
          have HUR := Lib.hid (u64r_small (n := numLe (x.take 4)) (by omega))
          go_wp2_with fail
          refine (number_ref ad (x.take 4) 4 c0 w1 htl4.out hx14 (by decide)).mono ?_
          rintro e w2 ⟨rfl, rfl⟩
          rw [HUR.out]
          obtain ⟨G, hG⟩ : ∃ G, G = numLe (x.take 4) := ⟨_, rfl⟩
          rw [← hG] at hlt32 ⊢
          have HG2 := Lib.hid hG
          clear hG
          have f1 := HF.out.g
          by_cases hbest : genC D (bestF D k) < G
          · have hb' : (genC D (bestF D k) : Int) < (G : Int) := by omega
            have hlast := place_at HU.out (places_last 0 R x)
            obtain ⟨q, rfl, hq⟩ := hlast
            have hbest' : Hid (bestF D (k + 1) = k) := bestF_yes (by omega) (by rw [hgen.out, ← HG2.out]; exact hbest)
            generalize genC D (bestF D k) = G0 at *
            obtain ⟨r, hr⟩ : ∃ r, r = R.length := ⟨_, rfl⟩
            rw [← hr] at hq
            have hnr : IntKind.i64.wrap ((nf : Int) - 1) = (r : Int) := by
              have h1 := HN1.out
              have e : (nf : Int) - 1 = (r : Int) := by omega
              rw [e, IntKind.wrap_i64]
              have h2 := g3
              unfold maxLen at *
              omega
            have r0 : (0 : Int) ≤ (r : Int) := by omega
            have rn : (r : Int) < (nf : Int) := by have h1 := HN1.out; omega
            have hnf1 : (1 : Int) ≤ (nf : Int) := by omega
            have hnf0 : 0 < nf := by omega
            have hc1 : (nf : Int) ≤ (c1 : Int) := by omega
            have hc1' : (1 : Int) ≤ (c1 : Int) := by omega
            have hx1' : (mx : Int) ≤ (c0 : Int) := by omega
            have HRr := Lib.hid hr
            clear hbest hr n1 n3
            go_wp2_with fail
            have h0d : w1.drew.cell? ⟨g, 0, none⟩ = some (.slice ad mx c0) := h0
            have hqd : w1.drew.cell? ⟨q, r, none⟩ = some (.int .i64 (endOf 0 (x :: R) : Nat)) := hq
            go_still_tail 15, (by kernel_rfl)
            change wpList _ _ _ _ _ w1.drew
            have R1d : Row5 w1.drew (w.heap.size + 1) := R1.out.upd (S := fun _ => False) (Upd.refl _ w1).drew id
            have R0d : Row5 w1.drew w.heap.size := R0.out.upd (S := fun _ => False) (Upd.refl _ w1).drew id
            have B1d : Below w.heap.size w w1.drew := HB1.out.drew
            have Hxd : IsBytes w1.drew ad x := hx.below (Below.refl _ w1).drew
            have HTd : ListsOff w1.drew (w.heap.size + 1) (some ⟨g, 1, none⟩) R := (HTL.out (w.heap.size + 1) (by have := HBL.out; omega) (fun y hy => by have := HE.out y hy; have := HBL.out; omega)).upd (T := fun _ => False) (Upd.refl _ w1).drew (fun _ h => h.elim)
            have HLd : Hid (w.heap.size + 1 < w1.drew.heap.size) := HLT.out
            have G1d : g < w1.drew.heap.size := g2
            generalize w1.drew = W at *
            obtain ⟨v0, v1, v2, v3, v4, e0, e1, e2, e3, e4⟩ := R1d.cells
            have z0 := R1d.frozen 0
            have z1 := R1d.frozen 1
            have z2 := R1d.frozen 2
            have z3 := R1d.frozen 3
            have z4 := R1d.frozen 4
            generalize hAI : (if c0 = 4 then ad else Option.map _ ad) = AI at *
            generalize hAR : (if c1 = 1 then some (⟨g, 0, none⟩ : Addr) else some ⟨g, 1, none⟩) = AR at *
            obtain ⟨d1, d2⟩ := drop_four (fun b o => by first | rfl | exact addr_add b o _) hAI Hxd (by rw [HMX.out]; omega) (by rw [HMX.out]; omega) (B := w.heap.size + 1) (fun y hy => by have := HE.out _ (HX4.out y hy); have := HBL.out; omega)
            have d3 := drop_one hAR HTd (by have := HN1.out; omega)
            obtain ⟨mi, hmi⟩ : ∃ mi, mi = mx - 4 := ⟨_, rfl⟩
            obtain ⟨ci, hci⟩ : ∃ ci, ci = c0 - 4 := ⟨_, rfl⟩
            obtain ⟨cr, hcr⟩ : ∃ cr, cr = c1 - 1 := ⟨_, rfl⟩
            have hn1 : nf - 1 = r := by have := HN1.out; have := HRr.out; omega
            rw [← hmi, ← hci, ← hcr, hn1]
            obtain ⟨wh, hwh⟩ : ∃ wh, wh = endOf 0 (x :: R) := ⟨_, rfl⟩
            rw [← hwh]
            obtain ⟨W2, hW2, hr2, hu2⟩ := R1d.put (.int .i64 (k : Int)) (.int .i64 (G : Int)) (.slice AI mi ci) (.slice AR r cr) (.int .i64 (wh : Int))
            have HR2 := Lib.hid hr2
            have HU2 := Lib.hid hu2
            have R0' := Lib.hid (R0d.upd hu2 (by omega))
            have B2' := Lib.hid (B1d.trans (hu2.toBelow B1d.size (fun k hk x => by have h9 : k = w.heap.size + 1 := x; omega)))
            have HL2 : Hid (w.heap.size + 1 < W2.heap.size) := Nat.lt_of_lt_of_le HLd.out hu2.size
            have D1 := Lib.hid (d1.upd hu2 (fun _ y hy x => by have h9 : y.block = w.heap.size + 1 := x; have := d2 y hy; omega))
            have D2 := Lib.hid d2
            have D3 := Lib.hid (d3.upd hu2 (fun k x => by have h9 : k = w.heap.size + 1 := x; omega))
            have HMI : Hid (mi = x.length - 4) := by
              show mi = _
              rw [hmi, HMX.out]
            have HWH := Lib.hid hwh
            clear hr2 hu2 d1 d2 d3 hAI hAR hmi hci hcr hn1 hwh R0d R1d B1d Hxd HTd hqd h0d
            go_wp2
            rw [hW2.out]
            have hcell : ∀ j v, (#[.int .i64 (k : Int), .int .i64 (G : Int), .slice AI mi ci, .slice AR r cr, .int .i64 (wh : Int)] : Array Value)[j]? = some v → W2.cell? ⟨w.heap.size + 1, j, none⟩ = some v := fun j v hj => by
              rw [cell_of_row W2 _ j _ _ _ HR2.out]
              exact hj
            have hfound : FoundAt W2 (w.heap.size + 1) D k := by
              refine ⟨hcell 0 _ rfl, ?_, AI, mi, ci, AR, r, cr, wh, hcell 2 _ rfl, hcell 3 _ rfl, hcell 4 _ rfl, fun _ => ⟨x, R, ?_, ?_, HMI.out, D1.out, D2.out, HRr.out, D3.out, HWH.out⟩⟩
              · have e9 : genC D k = G := by
                  rw [genC, if_neg (by omega), hgen.out, HG2.out]
                rw [e9]
                exact hcell 1 _ rfl
              · rw [← HXS.out, ← HFR.out]
              · rw [HMX.out]
                omega
            go_roundw
            case rel => exact ⟨k + 1, by omega, by omega, by go_num, B2'.out, HL2.out, R0'.out, ⟨_, HR2.out, rfl⟩, by rw [hbest'.out]; exact hfound⟩
            case measure => simp [intOf]; omega
          · have hb' : ¬ (genC D (bestF D k) : Int) < (G : Int) := by omega
            have hg0 : Hid (bestF D (k + 1) = bestF D k) := bestF_no (by omega) (by rw [hgen.out, ← HG2.out]; exact hbest)
            generalize hG0 : genC D (bestF D k) = G0 at *
            clear hbest
            go_wp2
            go_roundw
            case rel => exact ⟨k + 1, by omega, by omega, by go_num, HB1.out, HLT.out, R0.out, R1.out, by rw [hg0.out]; exact HF.out⟩
            case measure => simp [intOf]; omega
end Go.Proofs.YteipcbpkgpffjaaDoor

namespace Go.Proofs.YteipcbpkgpffjaaDoor
open Go.RowKit Go.WideShapes
set_option maxRecDepth 100000

theorem frames_fit (xs : List UInt8) : endOf 0 (frames xs) ≤ xs.length := by
  obtain ⟨k, hk⟩ := come_end (xs := xs) (frames xs).length (Nat.le_refl _)
  have h1 := hk.at'
  rw [List.take_length] at h1
  have h2 := hk.in'
  omega
theorem keep64 {w : World} {v : Value} {r : Reach} {base : Nat} (hv : Value.okWide Tryd.prog w r base 34 v) (h : Rd Tryd.prog w 34 v.cells.toList) :
    ∃ k0 k1 k2 k3 k4 k5 k6 k7, v = .agg #[.int .i64 k0, .int .i64 k1, .int .i64 k2, .int .i64 k3, .int .i64 k4, .int .i64 k5, .int .i64 k6, .int .i64 k7] ∧
      ∀ i, -9223372036854775808 ≤ kp k0 k1 k2 k3 k4 k5 k6 k7 i ∧ kp k0 k1 k2 k3 k4 k5 k6 k7 i ≤ 9223372036854775807 := by
  have hl := (h.array Tryd.underlying34).1
  rw [cells_keep] at hl
  rw [val_agg hv Tryd.underlying34]
  generalize v.cells = cs at *
  obtain ⟨l⟩ := cs
  match l, hl with
  | [c4, c5, c6, c7, c8, c9, c10, c11], _ =>
    obtain ⟨k0, k1, k2, k3, k4, k5, k6, k7, rfl, rfl, rfl, rfl, rfl, rfl, rfl, rfl, h0, h1, h2, h3, h4, h5, h6, h7⟩ := rd_ints8 h
    refine ⟨k0, k1, k2, k3, k4, k5, k6, k7, rfl, fun i => ?_⟩
    unfold I64 at *
    unfold kp
    split <;> assumption

/-- A file more, on a disk whose fuse isn't lit. -/
def DM.one (D : DM) (i : Nat) (ys : List UInt8) : DM := D.set i { has := true, b := (D.f i).b ++ ys, safe := (D.f i).safe }
def DM.safely (D : DM) (i : Nat) : DM := D.set i { has := (D.f i).has, b := (D.f i).b, safe := (D.f i).b.length }
theorem spend_dark {D : DM} (hq : D.lit = false) : D.spend = (0, D) := by unfold DM.spend; rw [hq]; rfl
theorem append_dark {D : DM} {i : Nat} {ys : List UInt8} (hl : D.lost = false) (hq : D.lit = false) (hi : i < 8) (hr : D.used 8 + ys.length ≤ D.cap) : D.append (i : Int) ys = (0, D.one i ys) := by
  unfold DM.append
  rw [if_pos (rd_ok hl hi), if_neg (by omega), spend_dark hq, if_pos rfl, Int.toNat_natCast]
  rfl
theorem sync_dark {D : DM} {i : Nat} (hl : D.lost = false) (hq : D.lit = false) (hi : i < 8) (hh : (D.f i).has = true) : D.sync (i : Int) = (0, D.safely i) := by
  unfold DM.sync
  rw [if_pos (prs_ok hl hi hh), spend_dark hq, if_pos rfl, Int.toNat_natCast]
  rfl
/-- The disk ahead of the power's loss, and behind it. -/
def laidF (f s : List UInt8) : DM := (((DM.new 1048576).one 1 f).one 2 s).safely 1
theorem laidF_steps (f s : List UInt8) (hf : f.length ≤ 70000) (hs : s.length ≤ 70000) :
    (DM.new 1048576).append (1 : Int) f = (0, (DM.new 1048576).one 1 f) ∧ ((DM.new 1048576).one 1 f).append (2 : Int) s = (0, ((DM.new 1048576).one 1 f).one 2 s) ∧
      (((DM.new 1048576).one 1 f).one 2 s).sync (1 : Int) = (0, laidF f s) ∧ (DM.new 1048576).used 8 + f.length ≤ 1048576 ∧ ((DM.new 1048576).one 1 f).used 8 + s.length ≤ 1048576 := by
  have u0 := DM.new_used 1048576 8
  have u1 := used_fupd (D := DM.new 1048576) (E := (DM.new 1048576).one 1 f) (i := 1) (x := { has := true, b := ((DM.new 1048576).f 1).b ++ f, safe := ((DM.new 1048576).f 1).safe }) (by omega) rfl
  have e0 : ((DM.new 1048576).f 1).b = [] := rfl
  simp only [e0, List.nil_append, List.length_nil] at u1
  exact ⟨append_dark (i := 1) rfl rfl (by omega) (by rw [u0]; show 0 + f.length ≤ 1048576; omega), append_dark (i := 2) rfl rfl (by omega) (by show _ ≤ 1048576; omega), sync_dark (i := 1) rfl rfl (by omega) rfl, by omega, by omega⟩
theorem laidF_len (f s : List UInt8) (hf : f.length ≤ 70000) (hs : s.length ≤ 70000) (k : Nat → Int) (i : Nat) : (((laidF f s).restart k).f i).b.length ≤ 70000 := by
  have h1 : ((laidF f s).f i).b.length ≤ 70000 := by
    unfold laidF DM.safely DM.one DM.set
    by_cases e1 : i = 1
    · subst e1; simpa [DM.new] using hf
    · by_cases e2 : i = 2
      · subst e2; simpa [DM.new] using hs
      · simp [e1, e2, DM.new]
  show (if i < 8 then ((laidF f s).f i).restart (k i) else (laidF f s).f i).b.length ≤ 70000
  by_cases h8 : i < 8
  · rw [if_pos h8]
    unfold FM.restart
    rw [List.length_take]
    omega
  · rw [if_neg h8]
    exact h1
theorem laidF_dark (f s : List UInt8) (k : Nat → Int) : ((laidF f s).restart k).lost = false ∧ ((laidF f s).restart k).lit = false := ⟨rfl, rfl⟩

/-- The file's end is cut off. -/
theorem trim_dark {D : DM} {c : Nat} (hl : D.lost = false) (hq : D.lit = false) (hc : c < 8) (hh : (D.f c).has = true) : (D.trim c).1 = 0 ∧ ((D.trim c).2.f c).b.length = endOf 0 (frames (D.f c).b) := by
  have hfit := frames_fit (D.f c).b
  unfold DM.trim
  by_cases he : endOf 0 (frames (D.f c).b) = (D.f c).b.length
  · rw [if_pos he]
    exact ⟨rfl, he.symm⟩
  · rw [if_neg he]
    rcases cut_two (n := endOf 0 (frames (D.f c).b)) hl hc hh hfit with ⟨h1, h2⟩ | ⟨_, h2⟩
    · refine ⟨h1, ?_⟩
      rw [h2.f, fupd_same]
      show ((D.f c).b.take _).length = _
      rw [List.length_take]
      omega
    · have h3 := h2.lit
      rw [hq] at h3
      cases h3
/-- What Open answers, of what is found. -/
theorem open_found' {D : DM} {c : Nat} {x : List UInt8} {R : List (List UInt8)} (hok : Tidy D) (hl : D.lost = false) (hq : D.lit = false) (hc : counts (D.f 1).b (D.f 2).b = c) (h0 : c ≠ 0) (hx : frames (D.f c).b = x :: R) (h4 : 4 ≤ x.length) :
    (logOpen D).1 = 0 ∧ (logOpen D).2.2 = ⟨c, genC D c, x.drop 4, R, false⟩ ∧ ((logOpen D).2.1.f c).b.length = endOf 0 (x :: R) ∧ c < 8 := by
  obtain ⟨h1, _, h3⟩ := counts_in hok hc h0
  have hc8 : c < 8 := by omega
  obtain ⟨t1, t2⟩ := trim_dark hl hq hc8 h3
  have e : logOpen D = ((D.trim c).1, (D.trim c).2, loadL (frames (D.f c).b) c (frames (D.f c).b).length) := by
    unfold logOpen
    rw [hl, if_neg (by decide), hc, if_neg h0]
  rw [e]
  refine ⟨t1, ?_, ?_, hc8⟩
  · show loadL _ _ _ = _
    rw [hx]
    have g1 : genC D c = genT x := by
      rw [genC, if_neg h0, genOf, hx]
      rfl
    rw [g1]
    simp only [List.length_cons, loadL, List.headD_cons, List.take_succ_cons, List.drop_succ_cons, List.drop_zero, List.take_length]
    rw [imgT, if_neg (by omega)]
  · show ((D.trim c).2.f c).b.length = _
    rw [t2, hx]
theorem open_none {D : DM} (hl : D.lost = false) (hc : counts (D.f 1).b (D.f 2).b = 0) : logOpen D = (7, D, LM.bare 0) := by
  unfold logOpen
  rw [hl, if_neg (by decide), if_pos hc]

/-- The two disks, the code's and the document's, and the numbers to be kept. -/
structure Two (w wr : World) (p q : Nat) (S T : Nat → Prop) (K : Array Value) (D E : DM) : Prop where
  below : Below w.heap.size w wr
  box : w.heap.size < wr.heap.size
  cells : ∀ j v, K[j]? = some v → wr.cell? ⟨w.heap.size, j, none⟩ = some v
  code : ∃ V, DiskAt wr p S V D
  ref : ∃ U, RefAt wr q T U E
  sB : ∀ k, S k → w.heap.size < k
  tB : ∀ k, T k → w.heap.size < k
  st : ∀ k, S k → ¬ T k
theorem Two.stepC {w wr w' : World} {p q : Nat} {S T : Nat → Prop} {K : Array Value} {D E : DM} {r : Int × DM} {e : Ending} (h : Two w wr p q S T K D E) (ha : After wr p S r e w') :
    e = .returned (.int .i64 r.1) ∧ ∃ S', Two w w' p q S' T K r.2 E := by
  obtain ⟨he, S', V', h1, u1, m1⟩ := ha
  obtain ⟨U, hr⟩ := h.ref
  refine ⟨he, S', h.below.trans (u1.toBelow h.below.size (fun k hk hs => by have := h.sB k hs; omega)), Nat.lt_of_lt_of_le h.box u1.size, fun j v hj => ?_, ⟨V', h1⟩, ⟨U, hr.upd u1 (fun k hk hs => h.st k hs hk)⟩, fun k hk => ?_, h.tB, fun k hk ht => ?_⟩
  · exact (u1.cell (p := ⟨w.heap.size, j, none⟩) h.box (fun hs => by have h9 := h.sB _ hs; exact absurd h9 (Nat.lt_irrefl _))).trans (h.cells j v hj)
  · exact (m1 k hk).elim (h.sB k) (fun x => Nat.lt_of_lt_of_le h.box x.1)
  · rcases m1 k hk with x | x
    · exact h.st k x ht
    · have := hr.lt k ht; omega
theorem Two.stepR {w wr w' : World} {p q : Nat} {S T : Nat → Prop} {K : Array Value} {D E : DM} {r : Int × DM} {e : Ending} (h : Two w wr p q S T K D E) (ha : AfterR wr q T r e w') :
    e = .returned (.int .i64 r.1) ∧ ∃ T', Two w w' p q S T' K D r.2 := by
  obtain ⟨he, S', V', h1, u1, m1⟩ := ha
  obtain ⟨V, hd⟩ := h.code
  refine ⟨he, S', h.below.trans (u1.toBelow h.below.size (fun k hk hs => by have := h.tB k hs; omega)), Nat.lt_of_lt_of_le h.box u1.size, fun j v hj => ?_, ⟨V, hd.upd u1 (fun k hk hs => h.st k hk hs)⟩, ⟨V', h1⟩, h.sB, fun k hk => ?_, fun k hk ht => ?_⟩
  · exact (u1.cell (p := ⟨w.heap.size, j, none⟩) h.box (fun hs => by have h9 := h.tB _ hs; exact absurd h9 (Nat.lt_irrefl _))).trans (h.cells j v hj)
  · exact (m1 k hk).elim (h.tB k) (fun x => Nat.lt_of_lt_of_le h.box x.1)
  · rcases m1 k ht with x | x
    · exact h.st k hk x
    · have := hd.lt k hk; omega
theorem Two.bytes {w wr : World} {p q : Nat} {S T : Nat → Prop} {K : Array Value} {D E : DM} (h : Two w wr p q S T K D E) {a : Option Addr} {xs : List UInt8} (hx : IsBytes w a xs) :
    IsBytes wr a xs ∧ (xs ≠ [] → ∀ x, a = some x → ¬ S x.block) ∧ (xs ≠ [] → ∀ x, a = some x → ¬ T x.block) :=
  ⟨hx.below h.below, fun h0 x e hs => by have := hx.lt h0 x e; have := h.sB _ hs; omega, fun h0 x e hs => by have := hx.lt h0 x e; have := h.tB _ hs; omega⟩

theorem info_keep8 : (Tryd.prog.info? 34).map (·.size) = some 8 := by kernel_rfl
/-- What Same answers, over whatever is new. -/
theorem finds_same {W w' : World} {q p : Nat} {T : Nat → Prop} {L : LM} (h : LogAt W q p T L) (hr : L.recs.length ≤ 1000000) {a ar : Option Addr} {n c m cr : Nat} (hn : L.image.length = n) (hx : IsBytes W a L.image) (hm : L.recs.length = m) (hR : ListsAt W ar L.recs) (hb : Below W.heap.size W w') :
    Calls Tryd.prog 14 #[.pointer (some ⟨q, 0, none⟩), .slice a n c, .slice ar m cr] w' fun e w2 => e = .returned (.bool true) ∧ Below W.heap.size W w2 := by
  have hs : same L L.image L.recs = true := same_iff.2 ⟨rfl, rfl⟩
  have h60 := h.i60
  refine (same_log (h.below hb) hr a ar L.image L.recs n c m cr hn (hx.below hb) (by unfold maxLen; omega) hm (hR.below hb) (by unfold maxLen; omega)).mono ?_
  rintro e w2 ⟨rfl, b2⟩
  rw [hs]
  exact ⟨rfl, hb.trans (b2.mono hb.size)⟩
theorem finds_gen {W w' : World} {q p : Nat} {T : Nat → Prop} {L : LM} (h : LogAt W q p T L) (hb : Below W.heap.size W w') :
    Calls Tryd.prog 25 #[.pointer (some ⟨q, 0, none⟩)] w' fun e w2 => e = .returned (.int .i64 (L.gen : Int)) ∧ Below W.heap.size W w2 := by
  refine (log_generation (h.below hb)).mono ?_
  rintro e w2 ⟨rfl, rfl⟩
  exact ⟨rfl, hb⟩
theorem finds_size {W w' : World} {p c z : Nat} {S : Nat → Prop} {V : Nat → Value} {D : DM} (h : DiskAt W p S V D) (hc : c < 8) (hz : (D.f c).b.length = z) (hb : Below W.heap.size W w') :
    Calls Tryd.prog 26 #[.pointer (some ⟨p, 0, none⟩), .int .i64 (c : Int)] w' fun e w2 => e = .returned (.int .i64 (z : Int)) ∧ Below W.heap.size W w2 := by
  refine (size_in (h.below hb) c hc).mono ?_
  rintro e w2 ⟨rfl, b2⟩
  rw [hz]
  exact ⟨rfl, hb.trans (b2.mono hb.size)⟩

set_option maxHeartbeats 4000000 in
theorem finds_near (a0 a1 : Option Addr) (f s : List UInt8) (n c0 m c1 : Nat) (k0 k1 k2 k3 k4 k5 k6 k7 : Int) (w : World) (hH : HalvesAt w) (hn : f.length = n) (hm : s.length = m) (hf : IsBytes w a0 f) (hs : IsBytes w a1 s) (hnc : n ≤ c0) (hc0 : c0 ≤ maxLen) (hn0 : a0 = none → c0 = 0)
    (hmc : m ≤ c1) (hc1 : c1 ≤ maxLen) (hn1 : a1 = none → c1 = 0) (hk : ∀ i, -9223372036854775808 ≤ kp k0 k1 k2 k3 k4 k5 k6 k7 i ∧ kp k0 k1 k2 k3 k4 k5 k6 k7 i ≤ 9223372036854775807) (h7 : n ≤ 70000) (h7' : m ≤ 70000) :
    Calls Tryd.prog 4 #[.slice a0 n c0, .slice a1 m c1, .agg #[.int .i64 k0, .int .i64 k1, .int .i64 k2, .int .i64 k3, .int .i64 k4, .int .i64 k5, .int .i64 k6, .int .i64 k7]] w fun e w' => e = .returned (.bool true) ∧ Below w.heap.size w w' := by
  subst hn hm
  have hi0 : ¬ (70000 : Int) < (f.length : Int) := by omega
  have hi1 : ¬ (70000 : Int) < (s.length : Int) := by omega
  have HS := Lib.hid (laidF_steps f s h7 h7')
  have HLEN := Lib.hid (laidF_len f s h7 h7' (kp k0 k1 k2 k3 k4 k5 k6 k7))
  have HK := Lib.hid hk
  have HH := Lib.hid hH
  have HF := Lib.hid hf
  have HSS := Lib.hid hs
  clear hk hH hf hs
  go_enter Tryd.func4, Tryd.ntmps4
  go_wp2_with fail
  obtain ⟨KK, hKK⟩ : ∃ KK : Array Value, KK = #[.int .i64 k0, .int .i64 k1, .int .i64 k2, .int .i64 k3, .int .i64 k4, .int .i64 k5, .int .i64 k6, .int .i64 k7] := ⟨_, rfl⟩
  have hbx := upd_box (w := w) (.cells #[.int .i64 k0, .int .i64 k1, .int .i64 k2, .int .i64 k3, .int .i64 k4, .int .i64 k5, .int .i64 k6, .int .i64 k7] 34)
  have hbl := heap_alloc_new w (.cells #[.int .i64 k0, .int .i64 k1, .int .i64 k2, .int .i64 k3, .int .i64 k4, .int .i64 k5, .int .i64 k6, .int .i64 k7] 34)
  have hsz : w.heap.size < (w.alloc (.cells #[.int .i64 k0, .int .i64 k1, .int .i64 k2, .int .i64 k3, .int .i64 k4, .int .i64 k5, .int .i64 k6, .int .i64 k7] 34)).heap.size := by simp
  have HBX := Lib.hid hbx
  have HSZ := Lib.hid hsz
  have HCE : Hid (∀ j v, KK[j]? = some v → (w.alloc (.cells #[.int .i64 k0, .int .i64 k1, .int .i64 k2, .int .i64 k3, .int .i64 k4, .int .i64 k5, .int .i64 k6, .int .i64 k7] 34)).cell? ⟨w.heap.size, j, none⟩ = some v) := by
    refine Lib.hid (fun j v hj => ?_)
    rw [cell_of_row _ _ j _ _ _ hbl]
    rw [hKK] at hj
    exact hj
  have HKK := Lib.hid hKK
  clear hKK hbx hbl hsz
  generalize w.alloc (.cells #[.int .i64 k0, .int .i64 k1, .int .i64 k2, .int .i64 k3, .int .i64 k4, .int .i64 k5, .int .i64 k6, .int .i64 k7] 34) = w0 at *
  refine (log_awake _ (HH.out.below HBX.out)).mono ?_
  rintro e w1 ⟨rfl, b1⟩
  go_wp2_with fail
  refine (new_in 1048576 w1 (by omega)).mono ?_
  rintro e w2 ⟨rfl, ⟨V2, h2⟩, b2, s2⟩
  have B2 := Lib.hid (b1.trans (b2.mono b1.size))
  have B1 := Lib.hid b1
  have S2 := Lib.hid s2
  have H2 := Lib.hid h2
  have B12 := Lib.hid b2
  clear b1 b2 s2 h2
  go_wp2_with fail
  refine (rnew_in 1048576 w2 (by omega)).mono ?_
  rintro e w3 ⟨rfl, ⟨U3, r3⟩, b3, s3⟩
  have T3 : Two w w3 w1.heap.size w2.heap.size (fun k => k = w1.heap.size) (fun k => k = w2.heap.size) KK (DM.new 1048576) (DM.new 1048576) := by
    have B3 := B2.out.trans (b3.mono B2.out.size)
    have q0 := HSZ.out
    have q1 := B1.out.size
    have q2 := S2.out
    have q3 := b3.size
    refine ⟨HBX.out.trans (B3.mono (Nat.le_of_lt q0)), by omega, fun j v hj => ?_, ⟨V2, H2.out.below b3⟩, ⟨U3, r3⟩, fun k hk => ?_, fun k hk => ?_, fun k hk ht => ?_⟩
    · exact (B3.cell (p := ⟨w.heap.size, j, none⟩) q0).trans (HCE.out j v hj)
    · have h9 : k = w1.heap.size := hk
      omega
    · have h9 : k = w2.heap.size := hk
      omega
    · have h8 : k = w1.heap.size := hk
      have h9 : k = w2.heap.size := ht
      omega
  generalize w1.heap.size = p at *
  generalize w2.heap.size = q at *
  clear r3 b3 s3 HCE HSZ
  have X3 := Lib.hid T3
  obtain ⟨V3, hd3⟩ := T3.code
  obtain ⟨g1, g2, -⟩ := T3.bytes HF.out
  have HA := Lib.hid (append_in hd3 (1 : Int) a0 f c0 hnc hc0 g1 hn0 g2)
  rw [HS.out.1] at HA
  clear T3 hd3 g1 g2
  go_wp2_with fail
  refine HA.out.mono ?_
  intro e w4 ha
  obtain ⟨rfl, S4, T4⟩ := X3.out.stepC ha
  have X4 := Lib.hid T4
  obtain ⟨V4, hd4⟩ := T4.code
  obtain ⟨g1, g2, -⟩ := T4.bytes HSS.out
  have HA2 := Lib.hid (append_in hd4 (2 : Int) a1 s c1 hmc hc1 g1 hn1 g2)
  rw [HS.out.2.1] at HA2
  clear T4 hd4 g1 g2 ha HA X3
  go_wp2_with fail
  refine HA2.out.mono ?_
  intro e w5 ha
  obtain ⟨rfl, S5, T5⟩ := X4.out.stepC ha
  have X5 := Lib.hid T5
  obtain ⟨U5, hr5⟩ := T5.ref
  obtain ⟨g1, -, g2⟩ := T5.bytes HF.out
  have HR1 := Lib.hid (ract_append_unlit hr5 0 1 a0 f c0 rfl (by omega) hnc hc0 g1 hn0 g2 HS.out.2.2.2.1 rfl)
  clear T5 hr5 g1 g2 ha HA2 X4
  go_wp2_with fail
  refine HR1.out.mono ?_
  intro e w6 ha
  obtain ⟨rfl, T6', T6⟩ := X5.out.stepR ha
  have X6 : Hid (Two w w6 p q S5 T6' KK (((DM.new 1048576).one 1 f).one 2 s) ((DM.new 1048576).one 1 f)) := T6
  obtain ⟨U6, hr6⟩ := X6.out.ref
  obtain ⟨g1, -, g2⟩ := X6.out.bytes HSS.out
  have HR2 := Lib.hid (ract_append_unlit hr6 0 2 a1 s c1 rfl (by omega) hmc hc1 g1 hn1 g2 HS.out.2.2.2.2 rfl)
  clear T6 hr6 g1 g2 ha HR1 X5
  go_wp2_with fail
  refine HR2.out.mono ?_
  intro e w7 ha
  obtain ⟨rfl, T7', T7⟩ := X6.out.stepR ha
  have X7 : Hid (Two w w7 p q S5 T7' KK (((DM.new 1048576).one 1 f).one 2 s) (((DM.new 1048576).one 1 f).one 2 s)) := T7
  obtain ⟨V7, hd7⟩ := X7.out.code
  have HY := Lib.hid (sync_in hd7 (1 : Int))
  rw [HS.out.2.2.1] at HY
  clear T7 hd7 ha HR2 X6
  go_wp2_with fail
  refine HY.out.mono ?_
  intro e w8 ha
  obtain ⟨rfl, S8, T8⟩ := X7.out.stepC ha
  have X8 := Lib.hid T8
  obtain ⟨U8, hr8⟩ := T8.ref
  have HY2 := Lib.hid (ract_sync hr8 0 1 (.slice none 0 0) rfl (by omega) rfl)
  have e8 : (((DM.new 1048576).one 1 f).one 2 s).sync (1 : Nat) = (0, laidF f s) := HS.out.2.2.1
  rw [e8] at HY2
  clear T8 hr8 ha HY X7 e8
  go_wp2_with fail
  refine HY2.out.mono ?_
  intro e w9 ha
  obtain ⟨rfl, T9', T9⟩ := X8.out.stepR ha
  have X9 := Lib.hid T9
  obtain ⟨V9, hd9⟩ := T9.code
  have HZ := Lib.hid (restart_in hd9 k0 k1 k2 k3 k4 k5 k6 k7)
  have hc9 := T9.cells
  rw [HKK.out] at hc9
  clear T9 hd9 ha HY2 X8
  go_wp2_with (refine wpList_load_cells rfl 34 _ rfl w.heap.size 0 rfl #[.int .i64 k0, .int .i64 k1, .int .i64 k2, .int .i64 k3, .int .i64 k4, .int .i64 k5, .int .i64 k6, .int .i64 k7] _ (fun j v hj => by rw [Nat.zero_add]; exact hc9 j v hj) Tryd.underlying34 rfl info_keep8 ?_)
  refine HZ.out.mono ?_
  rintro e wa ⟨rfl, ⟨Va, ha⟩, ua⟩
  obtain ⟨-, Sa, Ta⟩ := X9.out.stepC (r := (0, (laidF f s).restart (kp k0 k1 k2 k3 k4 k5 k6 k7))) (e := .returned (.int .i64 0)) ⟨rfl, S8, Va, ha, ua, fun k hk => .inl hk⟩
  have XA := Lib.hid Ta
  obtain ⟨Ua, hra⟩ := Ta.ref
  have HZ2 := Lib.hid (rrestart_in hra k0 k1 k2 k3 k4 k5 k6 k7 HK.out)
  have hca := Ta.cells
  rw [HKK.out] at hca
  clear Ta hra ha ua HZ X9 hc9
  go_wp2_with (refine wpList_load_cells rfl 34 _ rfl w.heap.size 0 rfl #[.int .i64 k0, .int .i64 k1, .int .i64 k2, .int .i64 k3, .int .i64 k4, .int .i64 k5, .int .i64 k6, .int .i64 k7] _ (fun j v hj => by rw [Nat.zero_add]; exact hca j v hj) Tryd.underlying34 rfl info_keep8 ?_)
  refine HZ2.out.mono ?_
  rintro e wb ⟨rfl, ⟨Vb, Tb', hb, mb⟩, ub⟩
  obtain ⟨-, Tb, TB⟩ := XA.out.stepR (r := (0, (laidF f s).restart (kp k0 k1 k2 k3 k4 k5 k6 k7))) (e := .returned (.int .i64 0)) ⟨rfl, Tb', Vb, hb, ub, mb⟩
  have XB := Lib.hid TB
  have HD := Lib.hid (laidF_dark f s (kp k0 k1 k2 k3 k4 k5 k6 k7))
  clear TB hb mb ub HZ2 XA hca HK HS
  generalize (laidF f s).restart (kp k0 k1 k2 k3 k4 k5 k6 k7) = D at *
  obtain ⟨Ub, hrb⟩ := XB.out.ref
  have HFI := Lib.hid (find_ref hrb (fun i _ => Nat.le_trans (HLEN.out i) (by omega)))
  clear hrb
  go_wp2_with fail
  refine HFI.out.mono ?_
  rintro e wc ⟨bc, c, ai, ni, ci, ar, nr, cr, wh, hc, rfl, hfound⟩
  have hbx := upd_box (w := wc) (.cells #[.int .i64 (c : Int), .int .i64 (genC D c : Int), .slice ai ni ci, .slice ar nr cr, .int .i64 (wh : Int)] 48)
  have hbl := heap_alloc_new wc (.cells #[.int .i64 (c : Int), .int .i64 (genC D c : Int), .slice ai ni ci, .slice ar nr cr, .int .i64 (wh : Int)] 48)
  have hxl : wc.heap.size < (wc.alloc (.cells #[.int .i64 (c : Int), .int .i64 (genC D c : Int), .slice ai ni ci, .slice ar nr cr, .int .i64 (wh : Int)] 48)).heap.size := by simp
  have hB0 := XB.out.below
  have HBD := Lib.hid (bc.trans (hbx.mono bc.size))
  have HBX2 := Lib.hid hbx
  have HBL := Lib.hid hbl
  have HXL := Lib.hid hxl
  have HFD := Lib.hid hfound
  have HC := Lib.hid hc
  have BC := Lib.hid bc
  clear hc hfound bc HFI hbx hbl hxl
  go_wp2_with fail
  generalize wc.alloc (.cells #[.int .i64 (c : Int), .int .i64 (genC D c : Int), .slice ai ni ci, .slice ar nr cr, .int .i64 (wh : Int)] 48) = wd at *
  have BD : Hid (Below w.heap.size w wd) := hB0.trans (HBD.out.mono hB0.size)
  have hSlt : Hid (∀ k, Sa k → k < wb.heap.size) := by
    obtain ⟨V, h⟩ := XB.out.code
    exact Lib.hid h.lt
  obtain ⟨Vc, hdc⟩ := XB.out.code
  have HTI := Lib.hid hdc.ok.tidy
  have HO := Lib.hid (log_open (B := w.heap.size) (hdc.below HBD.out) (HH.out.below BD.out) (fun k hk => by have := XB.out.sB k hk; omega))
  have hnx : Hid (¬ Sa wc.heap.size) := Lib.hid (fun h => by have h1 := hSlt.out _ h; have h2 := BC.out.size; omega)
  clear hdc hB0
  by_cases hcz : c = 0
  · have EQ := open_none HD.out.1 (by rw [← HC.out]; exact hcz)
    rw [EQ] at HO
    have HEQ := Lib.hid EQ
    clear EQ
    refine HO.out.mono ?_
    rintro e we ⟨Se, ue, me, hno, -⟩
    obtain ⟨rfl, Ve, hde⟩ := hno (show (7 : Int) ≠ 0 by decide)
    have BE : Below w.heap.size w we := BD.out.trans (ue.toBelow BD.out.size (fun k hk hs => by have := XB.out.sB k hs; omega))
    have x0 : we.cell? ⟨wc.heap.size, 0, none⟩ = some (.int .i64 0) := by
      rw [ue.cell (p := ⟨wc.heap.size, 0, none⟩) HXL.out hnx.out, cell_of_row _ _ 0 _ _ _ HBL.out, hcz]
      rfl
    have HO2 := Lib.hid (log_open (B := w.heap.size) hde (HH.out.below BE) (fun k hk => by
      rcases me k hk with h | h
      · have := XB.out.sB k h; omega
      · exact Nat.le_trans BD.out.size h))
    rw [HEQ.out] at HO2
    have HBE := Lib.hid BE
    have HSE : Hid (∀ k, Se k → w.heap.size ≤ k) := Lib.hid (fun k hk => by
      rcases me k hk with h | h
      · have := XB.out.sB k h; omega
      · exact Nat.le_trans BD.out.size h)
    clear hno hde BE ue me hcz
    go_wp2_with fail
    refine HO2.out.mono ?_
    rintro e wf ⟨Sf, uf, mf, hno, -⟩
    obtain ⟨rfl, Vf, hdf⟩ := hno (show (7 : Int) ≠ 0 by decide)
    have BF : Hid (Below w.heap.size w wf) := HBE.out.trans (uf.toBelow HBE.out.size (fun k hk hs => by have := HSE.out k hs; omega))
    clear hno hdf uf mf
    go_wp2
    go_ret
    exact ⟨rfl, BF.out⟩
  · obtain ⟨x, R, hx, h4, hni, hby, hab, hnr, hlo, hwh⟩ := HFD.out hcz
    obtain ⟨e1, e2, e3, hc8⟩ := open_found' HTI.out HD.out.1 HD.out.2 HC.out.symm hcz hx h4
    have hfr60 : Hid (R.length ≤ 1000000) := by
      have h1 := frames_count (D.f c).b
      have h2 := HLEN.out c
      rw [hx] at h1
      simp at h1
      exact Lib.hid (by omega)
    generalize logOpen D = r at *
    refine HO.out.mono ?_
    rintro e we ⟨Se, ue, me, -, hyes⟩
    obtain ⟨ql, Tl, rfl, hBo, -⟩ := hyes e1
    rw [e2] at hBo
    have BE : Below w.heap.size w we := BD.out.trans (ue.toBelow BD.out.size (fun k hk hs => by have := XB.out.sB k hs; omega))
    have hcell : ∀ j v, (#[.int .i64 (c : Int), .int .i64 (genC D c : Int), .slice ai ni ci, .slice ar nr cr, .int .i64 (wh : Int)] : Array Value)[j]? = some v → we.cell? ⟨wc.heap.size, j, none⟩ = some v := fun j v hj => by
      rw [ue.cell (p := ⟨wc.heap.size, j, none⟩) HXL.out hnx.out, cell_of_row _ _ j _ _ _ HBL.out]
      exact hj
    have x0 := hcell 0 _ rfl
    have x1 := hcell 1 _ rfl
    have x2 := hcell 2 _ rfl
    have x3 := hcell 3 _ rfl
    have x4 := hcell 4 _ rfl
    have hxw : wc.heap.size < we.heap.size := Nat.lt_of_lt_of_le HXL.out ue.size
    have hbyE : IsBytes we ai (x.drop 4) := (hby.below HBX2.out).upd ue (fun _ y hy hs => by have h1 := hab y hy; have h2 := hSlt.out _ hs; omega)
    have hloE : ListsAt we ar R := ((hlo.upd (T := fun _ => False) (below_upd _ HBX2.out) (fun _ h => h.elim)).upd ue (fun k hk => by have := hSlt.out _ hk; omega)).lists
    generalize genC D c = G at *
    have HGN : Hid (∀ w', Below we.heap.size we w' → Calls Tryd.prog 25 #[.pointer (some ⟨ql, 0, none⟩)] w' fun e w2 => e = .returned (.int .i64 (G : Int)) ∧ Below we.heap.size we w2) := Lib.hid (fun w' hb => finds_gen hBo.log hb)
    have HSM : Hid (∀ w', Below we.heap.size we w' → Calls Tryd.prog 14 #[.pointer (some ⟨ql, 0, none⟩), .slice ai ni ci, .slice ar nr cr] w' fun e w2 => e = .returned (.bool true) ∧ Below we.heap.size we w2) :=
      Lib.hid (fun w' hb => finds_same hBo.log hfr60.out (by rw [hni]; exact List.length_drop ..) hbyE hnr.symm hloE hb)
    obtain ⟨Ve, hde⟩ := hBo.disk
    have HSZ2 : Hid (∀ w', Below we.heap.size we w' → Calls Tryd.prog 26 #[.pointer (some ⟨p, 0, none⟩), .int .i64 (c : Int)] w' fun e w2 => e = .returned (.int .i64 (wh : Int)) ∧ Below we.heap.size we w2) :=
      Lib.hid (fun w' hb => finds_size hde hc8 (by rw [hwh]; exact e3) hb)
    have hci : ((c : Int) == 0) = false := by simp; omega
    have HBE := Lib.hid BE
    have HCELL := Lib.hid hcell
    have b0 := Below.refl we.heap.size we
    clear hcell hbyE hloE hBo hde hyes ue me BE hni hnr hwh hx h4 hby hab hlo e1 e2 e3 hc8 HFD HO HC HLEN hcz HTI HBL HBX2 XB
    go_wp2_with fail
    go_region_held3 (fun w' => Below we.heap.size we w' ∧ w'.cell? ⟨wc.heap.size, 0, none⟩ = some (.int .i64 (c : Int)) ∧ w'.cell? ⟨wc.heap.size, 1, none⟩ = some (.int .i64 (G : Int)) ∧ w'.cell? ⟨wc.heap.size, 2, none⟩ = some (.slice ai ni ci) ∧ w'.cell? ⟨wc.heap.size, 3, none⟩ = some (.slice ar nr cr) ∧ w'.cell? ⟨wc.heap.size, 4, none⟩ = some (.int .i64 (wh : Int)))
      (refine ⟨?_, (Below.cell (p := ⟨wc.heap.size, 0, none⟩) (B := we.heap.size) ?_ hxw).trans x0, (Below.cell (p := ⟨wc.heap.size, 1, none⟩) (B := we.heap.size) ?_ hxw).trans x1, (Below.cell (p := ⟨wc.heap.size, 2, none⟩) (B := we.heap.size) ?_ hxw).trans x2, (Below.cell (p := ⟨wc.heap.size, 3, none⟩) (B := we.heap.size) ?_ hxw).trans x3, (Below.cell (p := ⟨wc.heap.size, 4, none⟩) (B := we.heap.size) ?_ hxw).trans x4⟩ <;> (first | assumption | exact Below.drew (by assumption)))
      (first
        | (go_at_call 25; with_reducible refine Calls.mono (HGN.out _ ?_) ?_; (first | exact (Below.refl _ _).drew | exact Below.refl _ _ | assumption | exact Below.drew (by assumption)); rintro e w7 ⟨rfl, b7⟩)
        | (go_at_call 14; with_reducible refine Calls.mono (HSM.out _ ?_) ?_; (first | exact (Below.refl _ _).drew | exact Below.refl _ _ | assumption | exact Below.drew (by assumption)); rintro e w8 ⟨rfl, b8⟩)
        | (go_at_call 26; with_reducible refine Calls.mono (HSZ2.out _ ?_) ?_; (first | exact (Below.refl _ _).drew | exact Below.refl _ _ | assumption | exact Below.drew (by assumption)); rintro e w9 ⟨rfl, b9⟩))
    all_goals
      go_wp2
      go_ret
      exact ⟨rfl, HBE.out.trans (b9.mono HBE.out.size)⟩

theorem finds_far (v2 : Value) (hv : ∃ k0 k1 k2 k3 k4 k5 k6 k7 : Int, v2 = .agg #[.int .i64 k0, .int .i64 k1, .int .i64 k2, .int .i64 k3, .int .i64 k4, .int .i64 k5, .int .i64 k6, .int .i64 k7]) (a0 a1 : Option Addr) (n c0 m c1 : Nat) (w : World) (hH : HalvesAt w) (h : 70000 < n ∨ 70000 < m) :
    Calls Tryd.prog 4 #[.slice a0 n c0, .slice a1 m c1, v2] w fun e w' => e = .returned (.bool true) ∧ Below w.heap.size w w' := by
  obtain ⟨k0, k1, k2, k3, k4, k5, k6, k7, rfl⟩ := hv
  have HH := Lib.hid hH
  clear hH
  have HBX := Lib.hid (upd_box (w := w) (.cells #[.int .i64 k0, .int .i64 k1, .int .i64 k2, .int .i64 k3, .int .i64 k4, .int .i64 k5, .int .i64 k6, .int .i64 k7] 34))
  by_cases h1 : (70000 : Int) < n
  · clear h
    go_enter Tryd.func4, Tryd.ntmps4
    go_wp2_with fail
    refine (log_awake _ (HH.out.below HBX.out)).mono ?_
    rintro e w1 ⟨rfl, b1⟩
    have B1 := Lib.hid (HBX.out.trans (b1.mono HBX.out.size))
    clear b1
    go_wp2_with fail
    refine (log_awake _ (HH.out.below B1.out)).mono ?_
    rintro e w2 ⟨rfl, b2⟩
    go_wp2
    go_ret
    exact ⟨rfl, B1.out.trans (b2.mono B1.out.size)⟩
  · have h2 : (70000 : Int) < m := by omega
    clear h
    go_enter Tryd.func4, Tryd.ntmps4
    go_wp2_with fail
    refine (log_awake _ (HH.out.below HBX.out)).mono ?_
    rintro e w1 ⟨rfl, b1⟩
    have B1 := Lib.hid (HBX.out.trans (b1.mono HBX.out.size))
    clear b1
    go_wp2_with fail
    refine (log_awake _ (HH.out.below B1.out)).mono ?_
    rintro e w2 ⟨rfl, b2⟩
    go_wp2
    go_ret
    exact ⟨rfl, B1.out.trans (b2.mono B1.out.size)⟩

theorem finds_contract (W : World) (args : Array Value) (hL : laidMetH Tryd.prog halvesLaid W) (h : Each Tryd.prog W Tryd.f4.params.toList args.toList) :
    Calls Tryd.prog 4 args W fun e W' => e = .returned (.bool true) ∧ Below W.heap.size W W' := by
  rw [Tryd.params4] at h
  obtain ⟨v0, r0, e0, ⟨_, o0⟩, d0, h⟩ := h.cons
  obtain ⟨v1, r1, rfl, ⟨_, o1⟩, d1, h⟩ := h.cons
  obtain ⟨v2, r2, rfl, ⟨_, o2⟩, d2, h⟩ := h.cons
  obtain rfl := h.nil
  obtain ⟨args⟩ := args
  obtain rfl : args = [v0, v1, v2] := e0
  obtain ⟨a0, n0, c0, rfl, hc0⟩ := val_slice o0 Tryd.underlying22
  rw [hc0] at d0
  obtain ⟨a', c', f, e, p1, p2, p3, p4⟩ := d0.bytes Tryd.underlying22 Tryd.underlying5 cells_u8
  injection e with e _
  injection e with e1 e2 e3
  subst e1 e2 e3
  obtain ⟨a1, n1, c1, rfl, hc1⟩ := val_slice o1 Tryd.underlying22
  rw [hc1] at d1
  obtain ⟨a', c', s, e, q1, q2, q3, q4⟩ := d1.bytes Tryd.underlying22 Tryd.underlying5 cells_u8
  injection e with e _
  injection e with e1 e2 e3
  subst e1 e2 e3
  obtain ⟨k0, k1, k2, k3, k4, k5, k6, k7, rfl, hk⟩ := keep64 o2 d2
  have hH := halves_of_laid hL
  by_cases hbig : 70000 < f.length ∨ 70000 < s.length
  · exact finds_far _ ⟨_, _, _, _, _, _, _, _, rfl⟩ _ _ _ _ _ _ W hH hbig
  · exact finds_near _ _ f s _ _ _ _ _ _ _ _ _ _ _ _ W hH rfl rfl p3 q3 p1 p2 p4 q1 q2 q4 hk (by omega) (by omega)

theorem finds_lifted (os : Os) (started : os.Started) (H : Type) (enc : TypeId × Value → H) :
    ReturnsInHanded {} Tryd.checked os 4 .any (fun w args => (Rows.logFindsSpec.pre enc Tryd.prog Tryd.f4 [] false w args ∧ laidMetH Tryd.prog halvesLaid w) ∧ sizedMet enc Tryd.prog Tryd.f4 (OpenSpec.ofChange Rows.logFindsSpec) false w args)
      (Rows.logFindsSpec.post enc Tryd.prog Tryd.f4 false true false false) :=
  law_lifted_laid (C := Tryd.checked) frame_own frame_laidOut (by kernel_rfl) Tryd.func4 rfl (tb := 4) rfl Tryd.underlying4
    (by
      rw [Tryd.params4]; intro t ht; simp at ht
      rcases ht with rfl | rfl <;> exact ⟨by kernel_rfl, of_decide_eq_true (by kernel_rfl)⟩)
    (fun H ds hl => by
      rw [Tryd.params4] at hl
      match ds, hl with
      | [d1, d2, d3], _ => rfl)
    os started H enc
    (ChangeSpec.witness_shaped (enc := enc) (C := Tryd.checked) (os := os) (X := fun w _ => laidMetH Tryd.prog halvesLaid w) false (World.doorLaid Tryd.prog 14 os) #[.slice none 0 0, .slice none 0 0, .agg #[.int .i64 0, .int .i64 0, .int .i64 0, .int .i64 0, .int .i64 0, .int .i64 0, .int .i64 0, .int .i64 0]] 8 rfl (World.shaped_of_RefB (by kernel_rfl) (by kernel_rfl)) (by kernel_rfl) (by kernel_rfl) (by kernel_rfl) (door_met os _))
    finds_contract

theorem logFinds_holds : Rows.LogFindsSaid :=
  OpenClaim.holds_of_wide 4 Tryd.f4 rfl rfl rfl rfl rfl rfl rfl ⟨rfl, rfl, rfl, rfl, rfl⟩ rfl rfl rfl rfl rfl (by kernel_rfl) Tryd.func4 (by kernel_rfl)
    (of_decide_eq_true (by kernel_rfl)) (by unfold Func.isWrapper; first | (rw [if_pos (by decide +kernel)]; kernel_rfl) | (rw [if_neg (by decide +kernel)]; exact ⟨rfl, rfl⟩))
    (fun os started H enc _ => finds_lifted os started H enc)

theorem logFinds_card : Rows.LogFindsCardSaid :=
  Claim7.holds_tied_plain_at .later [] [.data] true _ false
    logFinds_holds (fun _ h => by cases h) (by kernel_rfl) (fun _ h => by cases h) logFinds_row_tie rfl ⟨rfl, rfl⟩ (by kernel_rfl) rfl
    (fun f fn hf hfn => by
      obtain rfl : f = 4 := Option.some.inj ((show Tryd.prog.funcNamed "recoup/recouplaw04.LogFinds" = some 4 by kernel_rfl).symm.trans hf) |>.symm
      obtain rfl : fn = Tryd.f4 := (Option.some.inj (Tryd.func4.symm.trans hfn)).symm
      exact ⟨by kernel_rfl, fun j t ht => by
        rw [Tryd.params4] at ht
        have hm : t ∈ [22, 22, 34] := by simpa using Array.mem_of_getElem? ht
        have hall : ([22, 22, 34].all fun u => !Tryd.prog.wantsStandIn u) = true := by kernel_rfl
        exact (show Tryd.prog.wantsStandIn t = false by simpa using List.all_eq_true.1 hall t hm)⟩)
    (by kernel_rfl)
#print axioms logFinds_card
end Go.Proofs.YteipcbpkgpffjaaDoor
