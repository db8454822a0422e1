/-
  A map of ints to ints as a function: what is looked up, put, deleted; an entry that is found, and then stored to. Conditions: those of each theorem.
-/
import Derived.Test.YtcnheikckfhniaaTimPlain
import Derived.Maps.OwnSet
import Derived.WideKeyEntry
namespace Go.Proofs.Ytcnheikckfhniaa
open Go.RowKit Go.Maps Go.ChangeMaps
open Go.WideElems (Fit rd rg pl other_key findIdx_born findIdx_arr set_self)
set_option maxRecDepth 100000

def ik (a : Int) : Lit := .int .i64 a
def W64 (a : Int) : Prop := (Lit.int .i64 a).wf = true
theorem w64_nat {n : Nat} (h : n < 4611686018427387904) : W64 (n : Int) := WalkArith.wf_i64 (by omega)
theorem mkeyed : Keyed Try.prog 3 := int_keyed Try.underlying3
theorem mkey {a : Int} (h : W64 a) : keyOf Try.prog 3 (.int .i64 a) = some (ik a) := keyOf_int_mk Try.underlying3 h
theorem mzero (w : World) : (zeroValue 3).run Try.prog w = .ok (.int .i64 0) w := by kernel_rfl

/-- Block b is a map of n entries: ix. -/
def MapIs (w : World) (b n : Nat) (ix : Int → Option Nat) : Prop :=
  ∃ D : DataW Unit, w.ownsMap Try.prog 3 (plainElem Try.prog 3) b n D ∧ Maps.size D = n ∧ ∀ a, W64 a → Maps.has D (ik a) = (ix a).isSome ∧ ∀ i, ix a = some i → D.atKey (ik a) (.lit (.int .i64 0)) = .lit (.int .i64 (i : Int))
def ixPut (ix : Int → Option Nat) (a : Int) (i : Nat) : Int → Option Nat := fun x => if x = a then some i else ix x
def ixDel (ix : Int → Option Nat) (a : Int) : Int → Option Nat := fun x => if x = a then none else ix x

theorem own_tight {w : World} {P : Program} {k : TypeId} {R : Value → Option (DataW Unit × List MemPlace)} {b n : Nat} {D : DataW Unit} (h : w.ownsMap P k R b n D) : w.ownsMap P k R b (Maps.size D) D := by
  obtain ⟨es, clock, hb, F, _, rfl⟩ := h
  exact ⟨es, clock, hb, F, by simp [Maps.size, length_sorted], rfl⟩
theorem MapIs.lt {w : World} {b n : Nat} {ix : Int → Option Nat} (h : MapIs w b n ix) : b < w.heap.size := by obtain ⟨D, h1, _⟩ := h; exact h1.lt
theorem MapIs.upd {S : Nat → Prop} {w w' : World} {b n : Nat} {ix : Int → Option Nat} (h : MapIs w b n ix) (hu : Upd S w w') (hb : ¬ S b) : MapIs w' b n ix := by
  have hlt := h.lt
  obtain ⟨D, ⟨es, clock, h1, F⟩, h2⟩ := h
  exact ⟨D, ⟨es, clock, (hu.block b hlt hb).trans h1, F⟩, h2⟩
theorem MapIs.below {w w' : World} {b n : Nat} {ix : Int → Option Nat} (h : MapIs w b n ix) (hb : Below w.heap.size w w') : MapIs w' b n ix := h.upd (S := fun _ => False) (Upd.below hb) (fun x => x)
theorem turned_upd {w w' : World} {b : Nat} (h : w.mapTurned w' b) : Upd (fun k => k = b) w w' := (Upd.refl _ w).grown h.grown (fun k hk => .inl (by cases hk; rfl))
theorem MapIs.made (w : World) : MapIs (w.alloc (.map #[] 0)) w.heap.size 0 (fun _ => none) :=
  ⟨.map [], World.ownsMap_made _ _ _ _, rfl, fun _ _ => ⟨rfl, fun _ h => by cases h⟩⟩
theorem MapIs.noCells {w : World} {b n : Nat} {ix : Int → Option Nat} (h : MapIs w b n ix) (o : Nat) : w.cell? ⟨b, o, none⟩ = none := by
  obtain ⟨D, ⟨es, clock, h1, F⟩, h2⟩ := h
  simp [World.cell?, h1]

section
variable {w : World} {b n : Nat} {ix : Int → Option Nat} {a : Int}
theorem MapIs.look (h : MapIs w b n ix) (ha : W64 a) {i : Nat} (hi : ix a = some i) : (Instr.lookup 55 (.map (some b)) (.int .i64 a) true).run Try.prog w = .ok (.tuple #[.int .i64 (i : Int), .bool true]) w := by
  obtain ⟨D, h1, h2, h3⟩ := h
  obtain ⟨v, ps, hrun, hv⟩ := h1.look_ok mkeyed Try.underlying55 (mzero w) (plainElem_int Try.underlying3 (by decide)) (mkey ha)
  obtain ⟨h4, h5⟩ := h3 a ha
  rw [h5 i hi] at hv
  obtain ⟨c, rfl, hc, _⟩ := plainElem_int_inv Try.underlying3 hv
  have : c = (i : Int) := by
    have := congrArg Prod.fst hc
    injection this with this
    injection this with _ this
    exact this.symm
  subst this
  rw [hrun, h4, hi]
  rfl
theorem MapIs.miss (h : MapIs w b n ix) (ha : W64 a) (hi : ix a = none) : (Instr.lookup 55 (.map (some b)) (.int .i64 a) true).run Try.prog w = .ok (.tuple #[.int .i64 0, .bool false]) w := by
  obtain ⟨D, h1, h2, h3⟩ := h
  obtain ⟨v, ps, hrun, hv⟩ := h1.look_ok mkeyed Try.underlying55 (mzero w) (plainElem_int Try.underlying3 (by decide)) (mkey ha)
  obtain ⟨h4, h5⟩ := h3 a ha
  have h6 : Maps.has D (ik a) = false := by rw [h4, hi]; rfl
  rw [atKey_of_not_has h6] at hv
  obtain ⟨c, rfl, hc, _⟩ := plainElem_int_inv Try.underlying3 hv
  have : c = 0 := by
    have := congrArg Prod.fst hc
    injection this with this
    injection this with _ this
    exact this.symm
  subst this
  rw [hrun, h6]
theorem miss_nil (ha : W64 a) : (Instr.lookup 55 (.map none) (.int .i64 a) true).run Try.prog w = .ok (.tuple #[.int .i64 0, .bool false]) w :=
  Maps.look_nil true mkeyed Try.underlying55 (mzero w) (mkey ha)

theorem putIs {w' : World} {D : DataW Unit} {i m : Nat} (h1 : w.ownsMap Try.prog 3 (plainElem Try.prog 3) b n D) (h2 : Maps.size D = n) (h3 : ∀ a, W64 a → Maps.has D (ik a) = (ix a).isSome ∧ ∀ i, ix a = some i → D.atKey (ik a) (.lit (.int .i64 0)) = .lit (.int .i64 (i : Int)))
    (ha : W64 a) (h4 : w'.ownsMap Try.prog 3 (plainElem Try.prog 3) b m (D.put (ik a) (.lit (.int .i64 (i : Int))))) : MapIs w' b (if (ix a).isSome then n else n + 1) (ixPut ix a i) := by
  have hk : WideAt.IsKeyLit (ik a) := trivial
  have hs : Maps.size (D.put (ik a) (.lit (.int .i64 (i : Int)))) = if (ix a).isSome then n else n + 1 := by
    rw [size_put (h1.tidy mkeyed), (h3 a ha).1, h2]
  refine ⟨_, by rw [← hs]; exact own_tight h4, hs, fun x hx => ?_⟩
  unfold ixPut
  by_cases e : x = a
  · subst e
    rw [if_pos rfl, has_put_same h1.isMap hk, atKey_put_same h1.isMap hk]
    exact ⟨rfl, fun j hj => by cases hj; rfl⟩
  · have hne : ik x ≠ ik a := fun h => e (by unfold ik at h; injection h)
    rw [if_neg e, has_put_other hne, atKey_put_other hne]
    exact h3 x hx
theorem MapIs.put (h : MapIs w b n ix) (hn : n < maxLen) (ha : W64 a) {i : Nat} (hi : W64 (i : Int)) :
    ∃ w', (Instr.mapUpdate 55 (.map (some b)) (.int .i64 a) (.int .i64 (i : Int))).run Try.prog w = .ok () w' ∧ MapIs w' b (if (ix a).isSome then n else n + 1) (ixPut ix a i) ∧ w.mapTurned w' b := by
  obtain ⟨D, h1, h2, h3⟩ := h
  obtain ⟨w', hrun, h4, h5⟩ := h1.store mkeyed Try.underlying55 hn (mkey ha) (plainElem_int Try.underlying3 hi)
  exact ⟨w', hrun, putIs h1 h2 h3 ha h4, h5⟩
theorem MapIs.del (h : MapIs w b n ix) (ha : W64 a) {i : Nat} (hi : ix a = some i) (ty : TypeId) :
    ∃ w', (Builtin.delete_ #[55, 3] ty #[.map (some b), .int .i64 a]).run Try.prog w = .ok (.tuple #[]) w' ∧ MapIs w' b (n - 1) (ixDel ix a) ∧ w.mapTurned w' b := by
  obtain ⟨D, h1, h2, h3⟩ := h
  obtain ⟨w', hrun, h4, h5⟩ := h1.drop mkeyed Try.underlying55 (mkey ha) ty
  have hs := size_del (D := D) (k := ik a) (h1.tidy mkeyed)
  rw [(h3 a ha).1, hi] at hs
  simp only [Option.isSome_some, if_true, h2] at hs
  have hs' : Maps.size (D.del (ik a)) = n - 1 := by omega
  refine ⟨w', hrun, ⟨_, by rw [← hs']; exact own_tight h4, hs', fun x hx => ?_⟩, h5⟩
  unfold ixDel
  by_cases e : x = a
  · subst e
    rw [if_pos rfl, has_del_same]
    exact ⟨rfl, fun j hj => by cases hj⟩
  · have hne : ik x ≠ ik a := fun h => e (by unfold ik at h; injection h)
    rw [if_neg e, has_del_other hne, atKey_del_other hne]
    exact h3 x hx

/-- The entry of a key bears this stamp. -/
def Stamp (w : World) (b : Nat) (a : Int) (st : Nat) : Prop := ∃ (es : Array MapEntry) (clock j : Nat) (e0 : MapEntry), w.heap[b]? = some (.map es clock) ∧ es[j]? = some e0 ∧ e0.key = .int .i64 a ∧ e0.born = st

theorem setBlock_self {w : World} {b : Nat} {o : Obj} (h : w.heap[b]? = some o) : setBlock w b o = w := by
  have e : w.heap.setIfInBounds b o = w.heap := by
    apply Array.ext_getElem?
    intro i
    rw [Array.getElem?_setIfInBounds]
    by_cases hi : b = i
    · subst hi
      have := (Array.getElem?_eq_some_iff.1 h).1
      rw [if_pos rfl, if_pos this]
      exact h.symm
    · rw [if_neg hi]
  unfold setBlock
  rw [e]

theorem MapIs.entry (h : MapIs w b n ix) (ha : W64 a) {i : Nat} (hi : ix a = some i) :
    ∃ (v : Value) (st : Nat), (Instr.mapEntry 55 (.map (some b)) (.int .i64 a)).run Try.prog w = .ok (.tuple #[v, goInt st]) w ∧ Stamp w b a st := by
  obtain ⟨D, ⟨es, clock, hb, F, hsz, rfl⟩, h2, h3⟩ := h
  rcases mkeyed.find w (mkey ha) es.toList F.keys with ⟨h4, h5⟩ | ⟨j, e0, h4, h5, h6⟩
  · exfalso
    have h7 := (h3 a ha).1
    rw [hi] at h7
    rcases Maps.fit_look true mkeyed Try.underlying55 (mzero w) hb F (mkey ha) with ⟨_, _, hat⟩ | ⟨e0, y, hm, hk, _⟩
    · rw [Maps.has_false_of_atKey hat] at h7; cases h7
    · exact h5 e0 hm hk
  · have hj : es[j]? = some e0 := by simpa using h5
    have hsame : es.modify j (fun e => { e with key := .int .i64 a }) = es := by
      apply Array.ext'
      rw [Array.toList_modify, modify_eq_set _ _ _ _ h5]
      have : ({ e0 with key := .int .i64 a } : MapEntry) = e0 := by rw [← h6]
      rw [this]
      exact set_self _ _ _ h5
    refine ⟨e0.val, e0.born, ?_, es, clock, j, e0, hb, hj, h6, rfl⟩
    have := setBlock_self hb
    simp [Instr.mapEntry, run_underlying Try.underlying55, MapKept.run_getObj_map hb, mkeyed.check w false (mkey ha), h4, hj, h6, mkeyed.stays w (mkey ha), hsame, MapKept.run_setObj_map _ hb, Result.andThen]
    exact this

theorem MapIs.estore (h : MapIs w b n ix) (hn : n < maxLen) (ha : W64 a) {i st : Nat} (hi : W64 (i : Int)) (hs : Stamp w b a st) :
    ∃ w', (Instr.entryStore 55 (.map (some b)) (goInt st) (.int .i64 (i : Int))).run Try.prog w = .ok () w' ∧ MapIs w' b n (ixPut ix a i) ∧ w.mapTurned w' b ∧ ∀ a' st', Stamp w b a' st' → Stamp w' b a' st' := by
  obtain ⟨D, h1, h2, h3⟩ := h
  have hh := h1
  obtain ⟨es, clock, hb, F, hsz, hD⟩ := hh
  obtain ⟨es2, clock2, j, e0, hb2, hj, h6, rfl⟩ := hs
  rw [hb] at hb2
  injection hb2 with hb2
  injection hb2 with e1 e2
  subst e1 e2
  obtain ⟨s1, s2, s3⟩ := F.stamped
  have h5 : es.toList[j]? = some e0 := by simpa using hj
  rcases mkeyed.find w (mkey ha) es.toList F.keys with ⟨h4, h8⟩ | ⟨j', e0', h4, h8, h9⟩
  · exact absurd h6 (h8 e0 (List.mem_of_getElem? h5))
  · have hjj : j' = j := by
      by_cases e : j' = j
      · exact e
      · exact absurd (h9.trans h6.symm) (other_key F h5 h8 e)
    subst hjj
    rw [h5] at h8
    injection h8 with h8
    subst h8
    have hidx : es.findIdx? (fun e => ((e.born : Nat) : Int) == ((e0.born : Nat) : Int)) = some j' := by
      rw [findIdx_arr]
      exact findIdx_born s2 h5
    have hmod : es.modify j' (fun e => { e with val := (.int .i64 (i : Int)) }) = es.modify j' (fun e' => { e' with key := .int .i64 a, val := (.int .i64 (i : Int)) }) := by
      apply Array.ext'
      rw [Array.toList_modify, Array.toList_modify, modify_eq_set _ _ _ _ h5, modify_eq_set _ _ _ _ h5, ← h6]
    obtain ⟨w', hrun, h10, h11⟩ := h1.store mkeyed Try.underlying55 hn (mkey ha) (plainElem_int Try.underlying3 hi)
    have hr2 : (Instr.mapUpdate 55 (.map (some b)) (.int .i64 a) (.int .i64 (i : Int))).run Try.prog w = .ok () (setBlock w b (.map (es.modify j' (fun e' => { e' with key := .int .i64 a, val := (.int .i64 (i : Int)) })) clock)) := by
      simp [Instr.mapUpdate, run_underlying Try.underlying55, MapKept.run_getObj_map hb, mkeyed.check w false (mkey ha), h4, hj, h6, mkeyed.stays w (mkey ha), MapKept.run_setObj_map _ hb, Result.andThen, setBlock]
    rw [hr2] at hrun
    injection hrun with _ hw
    have hm := putIs h1 h2 h3 ha h10
    have hsome : (ix a).isSome = true := by
      rw [← (h3 a ha).1]
      rw [hD]
      rcases Maps.fit_look true mkeyed Try.underlying55 (mzero w) hb F (mkey ha) with ⟨_, hno, _⟩ | ⟨_, y, _, _, _, _, hat, _⟩
      · exact absurd h6 (hno e0 (List.mem_of_getElem? h5))
      · exact Maps.has_true_of_atKey hat
    rw [hsome, if_pos rfl] at hm
    refine ⟨w', ?_, hm, h11, ?_⟩
    · rw [← hw]
      simp [Instr.entryStore, MapKept.run_getObj_map hb, asInt, asIntOf, goInt, hidx, hmod, MapKept.run_setObj_map _ hb, Result.andThen, setBlock]
    · rintro a' st' ⟨es3, clock3, j3, e3, hb3, hj3, h63, rfl⟩
      rw [hb] at hb3
      injection hb3 with hb3
      injection hb3 with e1 e2
      subst e1 e2
      rw [← hw]
      have hb4 : (setBlock w b (.map (es.modify j' (fun e' => { e' with key := .int .i64 a, val := (.int .i64 (i : Int)) })) clock)).heap[b]? = some (.map (es.modify j' (fun e' => { e' with key := .int .i64 a, val := (.int .i64 (i : Int)) })) clock) := heap_setBlock_same hb _
      by_cases e : j3 = j'
      · subst e
        rw [hj] at hj3
        injection hj3 with hj3
        subst hj3
        exact ⟨_, clock, j3, { e0 with key := .int .i64 a, val := .int .i64 (i : Int) }, hb4, by rw [Array.getElem?_modify, if_pos rfl, hj]; rfl, h6.symm.trans h63, rfl⟩
      · exact ⟨_, clock, j3, e3, hb4, by rw [Array.getElem?_modify, if_neg (Ne.symm e)]; exact hj3, h63, rfl⟩
end
end Go.Proofs.Ytcnheikckfhniaa
