/-
  A law's row out of a contract: whatever the parameters' types are, if the call returns true and turns nothing that was there, the row holds. Program-independent. No conditions but those of each theorem. What the reading of an argument says of its cells, type by type (ints, bools, strings, structs, arrays, slices). Program-independent. No conditions but those of each theorem. Frames: which blocks a call may have turned. Program-independent. No conditions but those of each theorem. Operations on whole structs and arrays: a load of some cells, an element of an array value. Program-independent. No conditions but those of each theorem. Rows of things of several cells, wherever they lie. Program-independent. Conditions: those of each theorem. An append of bytes at an operation of a region that draws its order. Program-independent. No conditions but those of each theorem. Slices of bytes: what a row of bytes tells, bytes.Clone, and the statements' comparison of two lists of bytes. Conditions: those of each theorem. copy, of elements of several cells, into a row that the call made. Program-independent. Conditions: those of each theorem. An append of one element of one cell onto a row that the call owns. Program-independent. No conditions but those of each theorem. At an operation of a region that draws its order: an append of one element of several cells. Program-independent. No conditions but those of each theorem. Results that lie in boxes. Program-independent. Conditions: those of each theorem. What a seat's program is laid as. No conditions.
-/
import Derived.Test.YtmaoimjfkncnpaaRows
import Derived.WalkKit
import Derived.ProofKit
import Derived.OpenShut
import Derived.SizedLaws
import Derived.Below
import Derived.Deep.Slices
import Derived.Deep.Draws
import Derived.Lib.Hide
import Derived.Laws.Rows
import Derived.OwnWalk
import Derived.Laws.AppendOwnNone
import Derived.Laws.OwnMore
import Derived.WalkSpells
import Derived.WalkLawsBesides
import Derived.Deep.QuietTactic
import Derived.BigQuiet
import Derived.Laws.CopyOwn
import Derived.Deep.RegionLaw
namespace Go.Proofs.Ytmaoimjfkncnpaa
open Go.ChangeShapes Go.WideShapes Go.ChangeAt Go.RowKit
set_option maxRecDepth 100000

/-- What a reading of an argument tells of its cells and of memory, the datum left out. -/
def Rd (P : Program) (w : World) (t : TypeId) (cs : List Value) : Prop :=
  ∃ (H : Type) (enc : TypeId × Value → H) (fuel : Nat) (x : DataW H × List MemPlace), DataW.trod enc P w 0 (fun _ => true) true fuel t cs = some x ∧ ∀ n ∈ x.1.weights P t, n ≤ reachBytes

theorem trodAll_stays {H : Type} {enc : TypeId × Value → H} {P : Program} (hl : laidOutB P = true) {W W' : World} (hb : Below W.heap.size W W') :
    ∀ (ts : List TypeId) (vs : List Value) (ds : List (DataW H)) (ps : List MemPlace), (∀ t ∈ ts, P.readableRec t = true ∧ t < P.types.size) →
    DataW.TrodAll enc P W 0 (fun _ => true) true ts vs ds ps → (∀ x ∈ ps, x.block < W.heap.size) ∧ DataW.TrodAll enc P W' 0 (fun b => decide (b < W.heap.size)) true ts vs ds ps := by
  intro ts
  induction ts with
  | nil =>
    intro vs ds ps _ h
    obtain ⟨rfl, rfl, rfl⟩ := trodAll_nil h
    exact ⟨by simp, rfl⟩
  | cons t ts ih =>
    intro vs ds ps hr h
    obtain ⟨v, vs', d, ds', p, q, rfl, rfl, rfl, h0, h1⟩ := trodAll_cons h
    obtain ⟨hlt, h1'⟩ := ih vs' ds' q (fun t ht => hr t (List.mem_cons_of_mem _ ht)) h1
    have lt0 : ∀ x ∈ p, x.block < W.heap.size := by obtain ⟨m, hm⟩ := h0; exact DataW.trod_lt m _ _ _ hm
    obtain ⟨r0, s0⟩ := hr t (List.mem_cons_self ..)
    refine ⟨fun x hx => ?_, trodAll_cons_mk (Below.trod hl r0 s0 h0 hb lt0) h1'⟩
    rcases List.mem_append.1 hx with hx | hx
    · exact lt0 x hx
    · exact hlt x hx

/-- Each argument's value with its type. -/
def Each (P : Program) (W : World) : List TypeId → List Value → Prop
  | [], [] => True
  | t :: ts, v :: vs => (∃ base, Value.okWide P W .any base t v) ∧ Rd P W t v.cells.toList ∧ Each P W ts vs
  | _, _ => False

theorem each_of {H : Type} {enc : TypeId × Value → H} {P : Program} {W : World} : ∀ (ts : List TypeId) (vs : List Value) (ds : List (DataW H)) (ps : List MemPlace) (base : Nat),
    (∀ (j : Nat) t v, ts[j]? = some t → vs[j]? = some v → Value.okWide P W .any base t v) → (∀ (j : Nat) t d, ts[j]? = some t → ds[j]? = some d → ∀ n ∈ d.weights P t, n ≤ reachBytes) → DataW.TrodAll enc P W 0 (fun _ => true) true ts vs ds ps → Each P W ts vs := by
  intro ts
  induction ts with
  | nil => intro vs ds ps base _ _ h; obtain ⟨rfl, rfl, rfl⟩ := trodAll_nil h; trivial
  | cons t ts ih =>
    intro vs ds ps base hv hw h
    obtain ⟨v, vs', d, ds', p, q, rfl, rfl, rfl, ⟨fuel, h0⟩, h1⟩ := trodAll_cons h
    exact ⟨⟨base, hv 0 t v rfl rfl⟩, ⟨H, enc, fuel, _, h0, hw 0 t d rfl rfl⟩, ih vs' ds' q base (fun j t v h1 h2 => hv (j + 1) t v (by simpa using h1) (by simpa using h2)) (fun j t d h1 h2 => hw (j + 1) t d (by simpa using h1) (by simpa using h2)) h1⟩

theorem Each.cons {P : Program} {W : World} {t : TypeId} {ts : List TypeId} {vs : List Value} (h : Each P W (t :: ts) vs) : ∃ v vs', vs = v :: vs' ∧ (∃ base, Value.okWide P W .any base t v) ∧ Rd P W t v.cells.toList ∧ Each P W ts vs' := by
  match vs, h with
  | v :: vs', ⟨h1, h2, h3⟩ => exact ⟨v, vs', rfl, h1, h2, h3⟩
theorem Each.nil {P : Program} {W : World} {vs : List Value} (h : Each P W [] vs) : vs = [] := by
  match vs, h with
  | [], _ => rfl

theorem each_one {P : Program} {W : World} {t : TypeId} {args : List Value} (h : Each P W [t] args) : ∃ v, args = [v] ∧ (∃ base, Value.okWide P W .any base t v) ∧ Rd P W t v.cells.toList := by
  match args, h with
  | [v], ⟨h1, h2, _⟩ => exact ⟨v, rfl, h1, h2⟩

theorem trodAll_len {H : Type} {enc : TypeId × Value → H} {P : Program} {W : World} {b : Nat} {sp : Nat → Bool} {hd : Bool} : ∀ (ts : List TypeId) (vs : List Value) (ds : List (DataW H)) (ps : List MemPlace),
    DataW.TrodAll enc P W b sp hd ts vs ds ps → ds.length = ts.length := by
  intro ts
  induction ts with
  | nil => intro vs ds ps h; obtain ⟨rfl, rfl, rfl⟩ := trodAll_nil h; rfl
  | cons t ts ih =>
    intro vs ds ps h
    obtain ⟨v, vs', d, ds', p, q, rfl, rfl, rfl, _, h1⟩ := trodAll_cons h
    simp [ih vs' ds' q h1]

/-- A law's step: from a contract that says 'true, and nothing that was there has turned'. 'Fit': what the form's own reach says of the data's sizes. -/
theorem law_lifted {C : Checked} {f : FuncId} {fn : Func} {s : ChangeSpec} {conds : List PathCond} {tb : TypeId}
    (own : ownKnob C.prog.godebug = none) (laid : laidOutB C.prog = true) (noInit : C.prog.inits.idxOf? f = none) (hfn : C.prog.funcs[f]? = some fn)
    (hvars : s.vars = []) (hres : fn.resultTypes = #[tb]) (hb : C.prog.underlying tb = some .bool)
    (hread : ∀ t ∈ fn.params.toList, C.prog.readableRec t = true ∧ t < C.prog.types.size)
    (hspec : ∀ (H : Type) (ds : List (DataW H)), ds.length = fn.params.toList.length → s.fn H (ds ++ []) = { results := [.lit (.bool true)], args := ds, vars := [] })
    (os : Os) (started : os.Started) (H : Type) (enc : TypeId × Value → H)
    (witness : ∃ (w : World) (tape : Tape) (i : Input), w.os = os ∧ (w.forCall tape i).Shaped C.prog ∧ i.vars = [] ∧ Input.okWide C.prog (w.forCall tape i) .any w.heap.size f i ∧
      s.pre6 enc C.prog fn conds false (w.forCall tape i).memory i.args ∧ Assume.holds {} C.prog (lone (Frame.enter C.prog f i.args .normal) [] (w.forCall tape i)))
    (contract : ∀ (W : World) (args : Array Value), Each C.prog W fn.params.toList args.toList →
      Calls C.prog f args W fun e W' => e = .returned (.bool true) ∧ Below W.heap.size W W') :
    ReturnsInHanded {} C os f .any (s.pre6 enc C.prog fn conds false) (s.post enc C.prog fn false true false false) := by
  refine returnsInHanded_of_change_sized own started noInit hfn witness ?_
  intro W base args ds gs before hval hW hcnd hsz _
  have hsize : ∀ (j : Nat) t d, fn.params.toList[j]? = some t → ds[j]? = some d → ∀ n ∈ d.weights C.prog t, n ≤ reachBytes := fun j t d h1 h2 n hn => by
    have hj := (List.getElem?_eq_some_iff.1 h1).1
    have hk := (List.getElem?_eq_some_iff.1 h2).1
    have := List.all_eq_true.1 hsz n (DataW.weights_mem_each (j := j) (t := t) (d := d) (by rw [List.getElem?_append_left hj]; exact h1) (by rw [List.getElem?_append_left hk]; exact h2) n hn)
    simpa using this
  have hW' := hW
  obtain ⟨p, q, hA, hV, rfl, hfz, hnd⟩ := hW
  rw [hvars] at hV
  obtain ⟨rfl, rfl⟩ := trodVars_none hV
  have hlen : ds.length = fn.params.toList.length := trodAll_len _ _ _ _ hA
  refine (contract W args (each_of _ _ _ _ base (fun j t v h1 h2 => hval j t v (by simpa using h1) (by simpa using h2)) hsize hA)).mono fun e W' ⟨he, bel⟩ => ?_
  subst he
  obtain ⟨_, hst⟩ := trodAll_stays laid bel _ _ _ _ hread hA
  have e1 := hspec H ds hlen
  refine ⟨_, rfl, ds, [], p ++ [], [], p, [], hW', ?_, ?_, ?_, bel.frame _, fun h => by cases h⟩
  · rw [e1, hres]
    exact trodAll_mk1 (shut_bool hb _)
  · rw [e1]
    exact hst
  · rw [e1, hvars]
    rfl
end Go.Proofs.Ytmaoimjfkncnpaa

namespace Go.Proofs.Ytmaoimjfkncnpaa
open Go.ChangeShapes Go.WideShapes Go.ChangeAt Go.RowKit Go.Deep
set_option maxRecDepth 100000

theorem weightsAll_mem {H : Type} {P : Program} {e : TypeId} {d : DataW H} {n : Nat} : ∀ {l : List (DataW H)}, d ∈ l → n ∈ d.weights P e → n ∈ DataW.weightsAll P e l
  | [], h, _ => by cases h
  | c :: l, h, hn => by
    simp only [DataW.weightsAll, List.mem_append]
    rcases List.mem_cons.1 h with rfl | h
    · exact .inl hn
    · exact .inr (weightsAll_mem h hn)

section
variable {P : Program} {w : World} {t : TypeId} {cs : List Value}
theorem Rd.int {k : IntKind} (h : Rd P w t cs) (ht : P.underlying t = some (.int k)) : ∃ n, cs = [.int k n] ∧ (Lit.int k n).wf = true := by
  obtain ⟨H, enc, fuel, x, h, _⟩ := h
  obtain ⟨n, h1, _, h2⟩ := DataW.trod_int ht h
  exact ⟨n, h1, h2⟩
theorem Rd.bool (h : Rd P w t cs) (ht : P.underlying t = some .bool) : ∃ b, cs = [.bool b] := by
  obtain ⟨H, enc, fuel, x, h, _⟩ := h
  obtain ⟨n, h1, _⟩ := DataW.trod_bool ht h
  exact ⟨n, h1⟩
theorem Rd.string (h : Rd P w t cs) (ht : P.underlying t = some .string) : ∃ s, cs = [.string s] ∧ s.size ≤ maxLen := by
  obtain ⟨H, enc, fuel, x, h, _⟩ := h
  obtain ⟨n, h1, _, h2⟩ := DataW.trod_string ht h
  exact ⟨n, h1, h2⟩
theorem Rd.struct {fs : Array Field} (h : Rd P w t cs) (ht : P.underlying t = some (.struct fs)) :
    cs.length = P.cellsOf t ∧ ∀ (i : Nat) (f : Field), fs[i]? = some f → Rd P w f.type ((cs.drop f.offset).take (P.cellsOf f.type)) := by
  obtain ⟨H, enc, fuel, x, h, hw⟩ := h
  obtain ⟨xs, n, _, rfl, hl, hx, hf⟩ := DataW.trod_struct ht h
  refine ⟨hl, fun i f hi => ?_⟩
  have h1 := hf i f hi
  have hlt : i < xs.length := by rw [hx]; exact (Array.getElem?_eq_some_iff.1 hi).1
  rw [List.getElem?_eq_getElem hlt] at h1
  refine ⟨H, enc, n, _, h1, fun m hm => hw m ?_⟩
  simp only [DataW.weights, ht]
  refine DataW.weights_mem_each (j := i) (t := f.type) (d := xs[i].1) ?_ ?_ m hm
  · simp [List.getElem?_map, hi]
  · simp [List.getElem?_map, List.getElem?_eq_getElem hlt]
theorem Rd.field {fs : Array Field} (h : Rd P w t cs) (ht : P.underlying t = some (.struct fs)) (i : Nat) {f : Field} (hf : fs[i]? = some f) {u o n : Nat} (h1 : f.type = u) (h2 : f.offset = o) (h3 : P.cellsOf u = n) : Rd P w u ((cs.drop o).take n) := by
  subst h1 h2 h3
  exact (h.struct ht).2 i f hf
theorem Rd.array {n : Nat} {e : TypeId} (h : Rd P w t cs) (ht : P.underlying t = some (.array n e)) :
    cs.length = P.cellsOf t ∧ ∀ i, i < n → Rd P w e ((cs.drop (i * P.cellsOf e)).take (P.cellsOf e)) := by
  obtain ⟨H, enc, fuel, x, h, hw⟩ := h
  obtain ⟨xs, m, _, rfl, hl, hx, hf⟩ := DataW.trod_array ht h
  refine ⟨hl, fun i hi => ?_⟩
  have h1 := hf i hi
  have hlt : i < xs.length := by omega
  rw [List.getElem?_eq_getElem hlt] at h1
  refine ⟨H, enc, m, _, h1, fun k hk => hw k ?_⟩
  simp only [DataW.weights, ht]
  exact weightsAll_mem (List.mem_map.2 ⟨xs[i], List.getElem_mem hlt, rfl⟩) hk
theorem Rd.slice {e : TypeId} (h : Rd P w t cs) (ht : P.underlying t = some (.slice e)) :
    (cs = [.slice none 0 0]) ∨ ∃ (a : Addr) (len cap : Nat), cs = [.slice (some a) len cap] ∧ len ≤ cap ∧ cap ≤ maxLen ∧ cap * P.bytesOf e ≤ reachBytes ∧
      ∀ i, i < cap → ∃ cs', w.cells? 0 (a.add (i * P.cellsOf e)) (P.cellsOf e) = some cs' ∧ Rd P w e cs' := by
  obtain ⟨H, enc, fuel, x, h, hw⟩ := h
  rcases open_slice ht h with ⟨h0, _⟩ | ⟨a, len, cap, m, n, D, Pl, hcs, hb, hl, hm, hmm, rfl, hi⟩
  · exact .inl h0
  · simp only [if_true] at hmm
    subst hmm
    refine .inr ⟨a, len, m, hcs, hl, hm, ?_, fun i hi' => ?_⟩
    · refine hw _ ?_
      simp only [DataW.weights, ht]
      refine List.mem_cons.2 (.inl ?_)
      simp only [List.length_map, List.length_range]
      rw [show len + (m - len) = m from by omega]
    · obtain ⟨cs', h1, h2⟩ := hi i hi'
      refine ⟨cs', h1, H, enc, n, _, h2, fun k hk => hw k ?_⟩
      simp only [DataW.weights, ht]
      refine List.mem_cons.2 (.inr ?_)
      by_cases hlt : i < len
      · exact List.mem_append.2 (.inl (weightsAll_mem (List.mem_map.2 ⟨i, List.mem_range.2 hlt, rfl⟩) hk))
      · exact List.mem_append.2 (.inr (weightsAll_mem (List.mem_map.2 ⟨i - len, List.mem_range.2 (by omega), by rw [show len + (i - len) = i from by omega]⟩) hk))
/-- A slice whose elements have at least a cell: where it is not empty, its address is a place in a block that is there; and how much it takes. -/
theorem Rd.slice_at47 {e : TypeId} {sz : Nat} (h : Rd P w t cs) (ht : P.underlying t = some (.slice e)) (hs : P.cellsOf e = sz) (hp : 0 < sz) :
    ∃ (a : Option Addr) (len cap : Nat), cs = [.slice a len cap] ∧ len ≤ cap ∧ cap ≤ maxLen ∧ cap * P.bytesOf e ≤ reachBytes ∧ (cap = 0 ∨ ∃ b off, a = some ⟨b, off, none⟩ ∧ b < w.heap.size ∧
      ∀ i, i < cap → ∃ cs' : List Value, cs'.length = sz ∧ (∀ j, j < sz → w.cell? ⟨b, off + i * sz + j, none⟩ = cs'[j]?) ∧ Rd P w e cs') ∧ (a = none → cap = 0) := by
  rcases h.slice ht with h0 | ⟨a, len, cap, hcs, hl, hm, hbt, hi⟩
  · exact ⟨none, 0, 0, h0, Nat.le_refl _, Nat.zero_le _, by simp, .inl rfl, fun _ => rfl⟩
  · refine ⟨some a, len, cap, hcs, hl, hm, hbt, ?_, fun x => by cases x⟩
    by_cases hc : cap = 0
    · exact .inl hc
    · right
      rw [hs] at hi
      obtain ⟨b, off, spot⟩ := a
      obtain ⟨cs0, h0, _⟩ := hi 0 (by omega)
      obtain ⟨hb0, hl0, hat0⟩ := World.cells?_some h0
      have e0 := hat0 0 hp
      have hv : cs0[0]? = some (cs0[0]'(by omega)) := List.getElem?_eq_getElem (by omega)
      simp only [Nat.zero_mul, Addr.add, if_true] at e0
      rw [hv] at e0
      obtain rfl : spot = none := World.cell?_spot e0
      refine ⟨b, off, rfl, World.block_lt_of_cell? _ _ e0, fun i hlt => ?_⟩
      obtain ⟨cs', h1, h2⟩ := hi i hlt
      obtain ⟨_, hl1, hat⟩ := World.cells?_some h1
      refine ⟨cs', hl1, fun j hj => ?_, h2⟩
      have := hat j hj
      rw [← this]
      have e2 : ((⟨b, off, none⟩ : Addr).add (i * sz)).add j = ⟨b, off + i * sz + j, none⟩ := by
        unfold Addr.add; split <;> split <;> simp_all <;> omega
      rw [e2]
theorem Rd.slice_at {e : TypeId} {sz : Nat} (h : Rd P w t cs) (ht : P.underlying t = some (.slice e)) (hs : P.cellsOf e = sz) (hp : 0 < sz) :
    ∃ (a : Option Addr) (len cap : Nat), cs = [.slice a len cap] ∧ len ≤ cap ∧ cap ≤ maxLen ∧ (cap = 0 ∨ ∃ b off, a = some ⟨b, off, none⟩ ∧ b < w.heap.size ∧
      ∀ i, i < cap → ∃ cs' : List Value, cs'.length = sz ∧ (∀ j, j < sz → w.cell? ⟨b, off + i * sz + j, none⟩ = cs'[j]?) ∧ Rd P w e cs') ∧ (a = none → cap = 0) := by
  obtain ⟨a, len, cap, h1, h2, h3, _, h4, h5⟩ := h.slice_at47 ht hs hp
  exact ⟨a, len, cap, h1, h2, h3, h4, h5⟩
end

theorem val_int {P : Program} {w : World} {t : TypeId} {k : IntKind} {v : Value} {r : Reach} {base : Nat} (hv : Value.okWide P w r base t v) (h : Rd P w t v.cells.toList) (ht : P.underlying t = some (.int k)) : ∃ n, v = .int k n ∧ (Lit.int k n).wf = true := by
  obtain ⟨n, e, hw⟩ := h.int ht
  simp only [Value.okWide, ht] at hv
  cases v <;> simp_all [Value.cells, Cell.okWide, Cell.ok]
theorem val_bool {P : Program} {w : World} {t : TypeId} {v : Value} {r : Reach} {base : Nat} (hv : Value.okWide P w r base t v) (h : Rd P w t v.cells.toList) (ht : P.underlying t = some .bool) : ∃ b, v = .bool b := by
  obtain ⟨n, e⟩ := h.bool ht
  simp only [Value.okWide, ht] at hv
  cases v <;> simp_all [Value.cells, Cell.okWide, Cell.ok]
theorem val_slice {P : Program} {w : World} {t e : TypeId} {v : Value} {r : Reach} {base : Nat} (hv : Value.okWide P w r base t v) (ht : P.underlying t = some (.slice e)) : ∃ a n c, v = .slice a n c ∧ v.cells.toList = [.slice a n c] := by
  obtain ⟨a, n, c, rfl⟩ := okWide_slice ht hv
  exact ⟨a, n, c, rfl, rfl⟩
theorem val_agg {P : Program} {w : World} {t : TypeId} {n : Nat} {e : TypeId} {v : Value} {r : Reach} {base : Nat} (hv : Value.okWide P w r base t v) (ht : P.underlying t = some (.array n e)) : v = .agg v.cells := by
  simp only [Value.okWide, ht] at hv
  obtain ⟨cs, rfl, _⟩ := hv
  rfl

/-- The bytes of a slice, where it has any. -/
def IsBytes (w : World) (a : Option Addr) (xs : List UInt8) : Prop :=
  xs = [] ∨ ∃ b off, a = some ⟨b, off, none⟩ ∧ b < w.heap.size ∧ ∀ i (h : i < xs.length), w.cell? ⟨b, off + i, none⟩ = some (.int .u8 (xs[i].toNat : Int))

/-- An int's bounds. -/
def I64 (n : Int) : Prop := -9223372036854775808 ≤ n ∧ n ≤ 9223372036854775807

theorem wf_u8 {n : Int} (h : (Lit.int .u8 n).wf = true) : 0 ≤ n ∧ n < 256 := by
  simp [Lit.wf, IntKind.min, IntKind.max, IntKind.signed, IntKind.bits] at h
  omega
theorem wf_i64 {n : Int} (h : (Lit.int .i64 n).wf = true) : -9223372036854775808 ≤ n ∧ n ≤ 9223372036854775807 := by
  simp [Lit.wf, IntKind.min, IntKind.max, IntKind.signed, IntKind.bits] at h
  omega

theorem Rd.bytes {P : Program} {w : World} {t e : TypeId} {cs : List Value} (h : Rd P w t cs) (ht : P.underlying t = some (.slice e)) (he : P.underlying e = some (.int .u8)) (hs : P.cellsOf e = 1) :
    ∃ (a : Option Addr) (cap : Nat) (xs : List UInt8), cs = [.slice a xs.length cap] ∧ xs.length ≤ cap ∧ cap ≤ maxLen ∧ IsBytes w a xs ∧ (a = none → cap = 0) := by
  obtain ⟨a, len, cap, hcs, hl, hm, hc, hnc⟩ := h.slice_at ht hs (Nat.one_pos)
  rcases hc with h0 | ⟨b, off, rfl, hb, hi⟩
  · obtain rfl : len = 0 := by omega
    exact ⟨a, cap, [], hcs, hl, hm, .inl rfl, hnc⟩
  · have key : ∀ i, i < cap → ∃ x : UInt8, w.cell? ⟨b, off + i, none⟩ = some (.int .u8 (x.toNat : Int)) := by
      intro i hlt
      obtain ⟨cs', _, h1, h2⟩ := hi i hlt
      obtain ⟨n, rfl, hn⟩ := h2.int he
      have := h1 0 Nat.one_pos
      simp only [Nat.mul_one, Nat.add_zero, List.getElem?_cons_zero] at this
      have hb := wf_u8 hn
      refine ⟨UInt8.ofNat n.toNat, ?_⟩
      rw [this]
      have : ((UInt8.ofNat n.toNat).toNat : Int) = n := by
        rw [UInt8.toNat_ofNat']
        omega
      rw [this]
    have hch : ∃ f : Nat → UInt8, ∀ i, i < cap → w.cell? ⟨b, off + i, none⟩ = some (.int .u8 ((f i).toNat : Int)) :=
      ⟨fun i => if h : i < cap then Classical.choose (key i h) else 0, fun i h => by simp only [dif_pos h]; exact Classical.choose_spec (key i h)⟩
    obtain ⟨f, hf⟩ := hch
    refine ⟨some ⟨b, off, none⟩, cap, (List.range len).map f, by simpa using hcs, by simpa using hl, hm, .inr ⟨b, off, rfl, hb, fun i h => ?_⟩, hnc⟩
    simp only [List.length_map, List.length_range] at h
    simp only [List.getElem_map, List.getElem_range]
    exact hf i (by omega)
theorem Rd.bytes47 {P : Program} {w : World} {t e : TypeId} {cs : List Value} (h : Rd P w t cs) (ht : P.underlying t = some (.slice e)) (he : P.underlying e = some (.int .u8)) (hs : P.cellsOf e = 1) (hby : P.bytesOf e = 1) :
    ∃ (a : Option Addr) (cap : Nat) (xs : List UInt8), cs = [.slice a xs.length cap] ∧ xs.length ≤ cap ∧ cap ≤ 140737488351232 ∧ IsBytes w a xs ∧ (a = none → cap = 0) := by
  obtain ⟨a, len, cap, hcs, hl, _, hbt, hc, hnc⟩ := h.slice_at47 ht hs (Nat.one_pos)
  have hm : cap ≤ 140737488351232 := by rw [hby] at hbt; unfold reachBytes at hbt; omega
  rcases hc with h0 | ⟨b, off, rfl, hb, hi⟩
  · obtain rfl : len = 0 := by omega
    exact ⟨a, cap, [], hcs, hl, hm, .inl rfl, hnc⟩
  · have key : ∀ i, i < cap → ∃ x : UInt8, w.cell? ⟨b, off + i, none⟩ = some (.int .u8 (x.toNat : Int)) := by
      intro i hlt
      obtain ⟨cs', _, h1, h2⟩ := hi i hlt
      obtain ⟨n, rfl, hn⟩ := h2.int he
      have := h1 0 Nat.one_pos
      simp only [Nat.mul_one, Nat.add_zero, List.getElem?_cons_zero] at this
      have hb := wf_u8 hn
      refine ⟨UInt8.ofNat n.toNat, ?_⟩
      rw [this]
      have : ((UInt8.ofNat n.toNat).toNat : Int) = n := by
        rw [UInt8.toNat_ofNat']
        omega
      rw [this]
    have hch : ∃ f : Nat → UInt8, ∀ i, i < cap → w.cell? ⟨b, off + i, none⟩ = some (.int .u8 ((f i).toNat : Int)) :=
      ⟨fun i => if h : i < cap then Classical.choose (key i h) else 0, fun i h => by simp only [dif_pos h]; exact Classical.choose_spec (key i h)⟩
    obtain ⟨f, hf⟩ := hch
    refine ⟨some ⟨b, off, none⟩, cap, (List.range len).map f, by simpa using hcs, by simpa using hl, hm, .inr ⟨b, off, rfl, hb, fun i h => ?_⟩, hnc⟩
    simp only [List.length_map, List.length_range] at h
    simp only [List.getElem_map, List.getElem_range]
    exact hf i (by omega)
end Go.Proofs.Ytmaoimjfkncnpaa

namespace Go.Proofs.Ytmaoimjfkncnpaa
open Go.RowKit
set_option maxRecDepth 100000

/-- Nothing has turned but the blocks of S, and what is new. -/
structure Upd (S : Nat → Prop) (w w' : World) : Prop where
  os : w'.os = w.os
  tape : w'.tape = w.tape
  output : w'.output = w.output
  size : w.heap.size ≤ w'.heap.size
  block : ∀ k, k < w.heap.size → ¬ S k → w'.heap[k]? = w.heap[k]?

section
variable {S S' : Nat → Prop} {a w w' w1 w2 : World}
theorem Upd.refl (S : Nat → Prop) (w : World) : Upd S w w := ⟨rfl, rfl, rfl, Nat.le_refl _, fun _ _ _ => rfl⟩
theorem Upd.trans (h : Upd S w w1) (k : Upd S' w1 w2) (hs : ∀ k, k < w.heap.size → S' k → S k) : Upd S w w2 :=
  ⟨k.os.trans h.os, k.tape.trans h.tape, k.output.trans h.output, Nat.le_trans h.size k.size, fun i hi hn => (k.block i (Nat.lt_of_lt_of_le hi h.size) (fun x => hn (hs i hi x))).trans (h.block i hi hn)⟩
theorem Upd.mono (h : Upd S w w') (hs : ∀ k, k < w.heap.size → S k → S' k) : Upd S' w w' :=
  ⟨h.os, h.tape, h.output, h.size, fun k hk hn => h.block k hk (fun x => hn (hs k hk x))⟩
theorem Upd.drew (h : Upd S a w) : Upd S a w.drew := ⟨h.os, h.tape, h.output, h.size, h.block⟩
theorem Upd.drewN (h : Upd S a w) (n : Nat) : Upd S a (w.drewN n) := ⟨h.os, h.tape, h.output, h.size, h.block⟩
theorem Upd.alloc (h : Upd S a w) (o : Obj) : Upd S a (w.alloc o) :=
  ⟨h.os, h.tape, h.output, Nat.le_trans h.size (by simp), fun k hk hn => (Below.heap_alloc w o k (Nat.lt_of_lt_of_le hk h.size)).trans (h.block k hk hn)⟩
theorem Upd.setCell (h : Upd S a w) {p : Addr} (hp : S p.block ∨ a.heap.size ≤ p.block) (u : Value) : Upd S a (w.setCell p u) :=
  ⟨h.os, h.tape, h.output, by simpa [World.setCell] using h.size, fun k hk hn => (Below.heap_setCell w p u k (by
    rintro rfl
    rcases hp with hp | hp
    · exact hn hp
    · omega)).trans (h.block k hk hn)⟩
theorem Upd.below (h : Below a.heap.size a w) : Upd S a w := ⟨h.os, h.tape, h.output, h.size, fun k hk _ => h.block k hk⟩
theorem Upd.toBelow {B : Nat} (h : Upd S w w') (hB : B ≤ w.heap.size) (hs : ∀ k, k < B → ¬ S k) : Below B w w' :=
  ⟨h.os, h.tape, h.output, h.size, fun k hk => h.block k (Nat.lt_of_lt_of_le hk hB) (hs k hk)⟩
theorem Upd.grown {row : Option Nat} (h : Upd S a w) (hg : w.grownBy w' row) (hr : ∀ k, row = some k → S k ∨ a.heap.size ≤ k) : Upd S a w' :=
  ⟨hg.os.trans h.os, hg.tape.trans h.tape, hg.output.trans h.output, Nat.le_trans h.size hg.size, fun k hk hn => (hg.block k (Nat.lt_of_lt_of_le hk h.size) (fun e => by
    rcases hr k e.symm with x | x
    · exact hn x
    · omega)).trans (h.block k hk hn)⟩
theorem Upd.cell (h : Upd S w w') {p : Addr} (hp : p.block < w.heap.size) (hn : ¬ S p.block) : w'.cell? p = w.cell? p := World.cell?_of_block (w := w) (h.block p.block hp hn)
theorem Upd.frozen (h : Upd S w w') {p : Addr} (hp : p.block < w.heap.size) (hn : ¬ S p.block) : w'.frozen? p = w.frozen? p := World.frozen?_of_block (w := w) (h.block p.block hp hn)
end

theorem ownsRow_upd {S : Nat → Prop} {w w' : World} {base : Nat} {e : TypeId} {size : Nat} {v : Value} {n : Nat} {xs : List Value} (h : w.ownsRow base e size v n xs) (hu : Upd S w w')
    (hn : ∀ g, v.ownBlock = some g → ¬ S g) : w'.ownsRow base e size v n xs := by
  obtain ⟨h1, h2⟩ := h
  refine ⟨h1, ?_⟩
  rcases h2 with h2 | ⟨g, cap, cur, rfl, hg, hh, r⟩
  · exact .inl h2
  · exact .inr ⟨g, cap, cur, rfl, hg, by rw [hu.block g (Array.getElem?_eq_some_iff.1 hh).1 (hn g rfl)]; exact hh, r⟩

theorem IsBytes.upd {S : Nat → Prop} {w w' : World} {a : Option Addr} {xs : List UInt8} (h : IsBytes w a xs) (hu : Upd S w w') (hn : xs ≠ [] → ∀ x, a = some x → ¬ S x.block) : IsBytes w' a xs := by
  by_cases h0 : xs = []
  · exact .inl h0
  rcases h with h | ⟨b, off, rfl, hb, hc⟩
  · exact .inl h
  · exact .inr ⟨b, off, rfl, Nat.lt_of_lt_of_le hb hu.size, fun i hi => (hu.cell (p := ⟨b, off + i, none⟩) hb (hn h0 ⟨b, off, none⟩ rfl)).trans (hc i hi)⟩

theorem IsBytes.lt {w : World} {a : Option Addr} {xs : List UInt8} (h : IsBytes w a xs) (h0 : xs ≠ []) : ∀ x, a = some x → x.block < w.heap.size := by
  rcases h with h | ⟨b, off, rfl, hb, _⟩
  · exact (h0 h).elim
  · rintro x ⟨rfl⟩; exact hb

def bval (x : UInt8) : Value := .int .u8 (x.toNat : Int)

theorem setCell_heap_at {w : World} {p o : Nat} {u : Value} {cur : Array Value} {t : TypeId} {fr : Nat × Nat} (h : w.heap[p]? = some (.cells cur t fr)) :
    (w.setCell ⟨p, o, none⟩ u).heap[p]? = some (.cells (cur.setIfInBounds o u) t fr) := by
  simp [World.setCell, Array.getElem?_modify, h]
/-- The blocks of S, and those that are new in w'. -/
def More (S : Nat → Prop) (w w' : World) : Nat → Prop := fun k => S k ∨ (w.heap.size ≤ k ∧ k < w'.heap.size)

theorem setCell_size (w : World) (a : Addr) (u : Value) : (w.setCell a u).heap.size = w.heap.size := by simp [World.setCell]

theorem cell_other {w : World} {p o o' : Nat} {u : Value} (h : o' ≠ o) : (w.setCell ⟨p, o, none⟩ u).cell? ⟨p, o', none⟩ = w.cell? ⟨p, o', none⟩ :=
  World.cell?_setCell_other _ _ _ _ (by intro e; injection e with _ e; exact h e.symm)
theorem cell_same {w : World} {p o : Nat} {u v : Value} (h : w.cell? ⟨p, o, none⟩ = some v) : (w.setCell ⟨p, o, none⟩ u).cell? ⟨p, o, none⟩ = some u :=
  World.cell?_setCell_same _ _ _ h

theorem upd_set {w : World} {p : Nat} (o : Nat) (u : Value) : Upd (fun k => k = p) w (w.setCell ⟨p, o, none⟩ u) := (Upd.refl (fun k => k = p) w).setCell (p := ⟨p, o, none⟩) (.inl rfl) u
theorem below_upd {w w' : World} (S : Nat → Prop) (hb : Below w.heap.size w w') : Upd S w w' := Upd.below hb
theorem More_le {S : Nat → Prop} {w w' w2 : World} (h : w'.heap.size ≤ w2.heap.size) : ∀ k, More S w w' k → S k ∨ (w.heap.size ≤ k ∧ k < w2.heap.size) :=
  fun _ hk => hk.elim .inl (fun x => .inr ⟨x.1, Nat.lt_of_lt_of_le x.2 h⟩)
end Go.Proofs.Ytmaoimjfkncnpaa

namespace Go.Proofs.Ytmaoimjfkncnpaa
open Go.RowKit
set_option maxRecDepth 100000
def aggD : TypeDesc → Bool
  | .struct _ | .array _ _ => true
  | _ => false
section
variable {P : Program}
theorem run_isAgg_yes {t : TypeId} {d : TypeDesc} (h : P.underlying t = some d) (hd : aggD d = true) (w : World) : (isAgg t).run P w = .ok true w := by
  unfold isAgg
  rw [Sem.run_bind, run_underlying h w]
  cases d <;> simp_all [aggD]

theorem run_loadVar_cells (w : World) (b off : Nat) (ty : TypeId) (cs : Array Value) (d : TypeDesc) (hc : ∀ j v, cs[j]? = some v → w.cell? ⟨b, off + j, none⟩ = some v)
    (hu : P.underlying ty = some d) (hd : aggD d = true) (hi : (P.info? ty).map (·.size) = some cs.size) :
    (loadVar ty ⟨b, off, none⟩).run P w = .ok (.agg cs) w := by
  have hl : (loadCells ⟨b, off, none⟩ cs.toList.length).run P w = .ok cs.toList.toArray w :=
    run_loadCells_list (P := P) w ⟨b, off, none⟩ cs.toList (fun j v hv => by
      have hadd : (⟨b, off, none⟩ : Addr).add j = ⟨b, off + j, none⟩ := by unfold Addr.add; split <;> simp_all
      rw [hadd]
      exact hc j v (by simpa using hv))
  cases hq : P.info? ty with
  | none => simp [hq] at hi
  | some i =>
    have hs : i.size = cs.size := by simpa [hq] using hi
    simp only [Array.length_toList, Array.toArray_toList] at hl
    simp [loadVar, Sem.run_bind, run_isAgg_yes hu hd, sizeOf, typeInfo, hq, hs, hl]

theorem wpList_load_cells {ops : Array Oper} {rest : List Oper} {o : Oper} {a : Act} {w : World} {Q : Exit → Act → World → Prop} (hgd : o.guard = none) (ty : TypeId) (x : Operand) (ho : o.op = .load ty x)
    (b off : Nat) (hx : a.eval x = .pointer (some ⟨b, off, none⟩)) (cs : Array Value) (d : TypeDesc) (hc : ∀ j v, cs[j]? = some v → w.cell? ⟨b, off + j, none⟩ = some v)
    (hu : P.underlying ty = some d) (hd : aggD d = true) (hi : (P.info? ty).map (·.size) = some cs.size)
    (h : wpList P ops Q rest (a.put o.dst (.agg cs)) w) : wpList P ops Q (o :: rest) a w :=
  wpList_plain hgd fun _ hK => by
    unfold Oper.wp execOp
    simp only [ho, hx, Instr.loadAt, Instr.sureAddr, Sem.run_bind, Sem.run_pure, Result.andThen_ok, run_loadVar_cells w b off ty cs d hc hu hd hi]
    exact hK _ _ h

/-- An element of an array value, where the element is a struct or an array. -/
theorem run_index_agg (w : World) (t e : TypeId) (n sz : Nat) (d : TypeDesc) (cs : Array Value) (k : IntKind) (i : Nat) (hn : i < n) (ht : P.underlying t = some (.array n e))
    (hu : P.underlying e = some d) (hd : aggD d = true) (hi : (P.info? e).map (·.size) = some sz) :
    (Instr.index t (.agg cs) (.int k (i : Int))).run P w = .ok (.agg (cs.extract (i * sz) (i * sz + sz))) w := by
  cases hq : P.info? e with
  | none => simp [hq] at hi
  | some j =>
    have hs : j.size = sz := by simpa [hq] using hi
    have h1 : ¬ n ≤ i := by omega
    simp [Instr.index, asIntOf, run_underlying ht, sizeOf, typeInfo, hq, hs, part, Sem.run_bind, run_isAgg_yes hu hd, h1]
/-- An element of an array value, where the element is one cell. -/
theorem run_index_one (w : World) (t e : TypeId) (n : Nat) (d : TypeDesc) (cs : Array Value) (k : IntKind) (i : Nat) (v : Value) (hn : i < n) (ht : P.underlying t = some (.array n e))
    (hu : P.underlying e = some d) (hd : aggD d = false) (hi : (P.info? e).map (·.size) = some 1) (hv : cs[i]? = some v) :
    (Instr.index t (.agg cs) (.int k (i : Int))).run P w = .ok v w := by
  cases hq : P.info? e with
  | none => simp [hq] at hi
  | some j =>
    have hs : j.size = 1 := by simpa [hq] using hi
    have h1 : ¬ n ≤ i := by omega
    have ha : (isAgg e).run P w = .ok false w := by
      unfold isAgg
      rw [Sem.run_bind, run_underlying hu w]
      cases d <;> simp_all [aggD]
    simp [Instr.index, asIntOf, run_underlying ht, sizeOf, typeInfo, hq, hs, part, Sem.run_bind, ha, h1, hv]
/-- A field of a struct value, where the field is one cell. -/
theorem run_field_one (w : World) (t : TypeId) (fs : Array Field) (i : Nat) (f : Field) (d : TypeDesc) (cs : Array Value) (v : Value) (ht : P.underlying t = some (.struct fs)) (hf : fs[i]? = some f)
    (hu : P.underlying f.type = some d) (hd : aggD d = false) (hv : cs[f.offset]? = some v) :
    (Instr.field t (.agg cs) i).run P w = .ok v w := by
  have ha : (isAgg f.type).run P w = .ok false w := by
    unfold isAgg
    rw [Sem.run_bind, run_underlying hu w]
    cases d <;> simp_all [aggD]
  simp [Instr.field, run_underlying ht, hf, asAgg, part, Sem.run_bind, ha, hv]
end
/-- An append onto what the call owns: as the library's law, and where the new slice lies: in the old block, or in a new one. -/
theorem run_append_full {P : Program} (w : World) (base : Nat) (t ty e : TypeId) (i : TypeInfo) (z : Value) (size bytes : Nat) (ht : P.underlying t = some (.slice e)) (hi : P.info? e = some i) (hz : i.zero = some z)
    (hsize : i.size = size) (hby : i.bytes = bytes) (hzs : z.cells.size = size) (hsz : 0 < size)
    (v : Value) (n : Nat) (xs : List Value) (hown : w.ownsRow base e size v n xs)
    (a : Addr) (m c : Nat) (news : List Value) (hl : news.length = m * size) (hnews : ∀ j u, news[j]? = some u → w.cell? (a.add j) = some u) (h1 : ∀ u ∈ news, u.oneCell' = true)
    (h63 : n + m ≤ maxLen) (hbytes : (n + m) * bytes ≤ 140737488355328) (hbase : base ≤ w.heap.size) :
    ∃ a' c' w', (Builtin.append_ #[t, t] ty #[v, .slice (some a) m c]).run P w = .ok (.slice a' (n + m) c') w' ∧ w'.ownsRow base e size (.slice a' (n + m) c') (n + m) (xs ++ news) ∧ w.grownBy w' v.ownBlock ∧
      ∀ g, (Value.slice a' (n + m) c').ownBlock = some g → v.ownBlock = some g ∨ g = w.heap.size := by
  obtain ⟨v', w', hr, h2, h3, h4⟩ := run_append_own (P := P) w base t ty e i z size bytes ht hi hz hsize hby hzs hsz v n xs hown a m c news hl hnews h1 h63 hbytes hbase
  have hv' : ∃ a' c', v' = .slice a' (n + m) c' := by
    rcases h2.2 with ⟨hv, hn⟩ | ⟨g, cap, cur, hv, _⟩
    · exact ⟨none, 0, by rw [hv, hn]⟩
    · exact ⟨_, _, hv⟩
  obtain ⟨a', c', rfl⟩ := hv'
  refine ⟨a', c', w', hr, h2, h3, ?_⟩
  subst hsize
  subst hby
  have hsmall : ((n + m : Nat) : Int) ≤ 9223372036854775807 := by simp only [maxLen] at h63; omega
  intro g hg
  rcases hown.2 with ⟨rfl, rfl⟩ | ⟨g0, cap, cur, rfl, hbg, hgg, hnc, hcm, hcs, htake⟩
  · by_cases hm : m = 0
    · subst hm
      rw [h4.2 ⟨rfl, rfl⟩] at hg
      cases hg
    · have hr2 := run_append_nil (P := P) w t ty e i z ht hi hz a m c news hl hnews (by omega) (by omega) (by have hb := hbytes; simp only [Nat.zero_add] at hb; omega)
      rw [hr] at hr2
      injection hr2 with e1 e2
      injection e1 with e1 _ _
      subst e1
      right
      simpa [Value.ownBlock] using hg.symm
  · by_cases hroom : n + m ≤ cap
    · have hfit : n * i.size + news.length ≤ cur.size := by rw [hl, hcs, ← Nat.add_mul]; exact Nat.mul_le_mul_right _ hroom
      have hr2 := run_append_room (P := P) w t ty e i ht hi g0 n cap cur hgg a m c news hl hnews h1 hroom hfit
      rw [hr] at hr2
      injection hr2 with e1 e2
      injection e1 with e1 _ _
      subst e1
      exact .inl hg
    · have holds : ∀ j u, xs[j]? = some u → w.cell? ((⟨g0, 0, none⟩ : Addr).add j) = some u := hown.cells (g := g0) rfl
      have hr2 := run_append_grow (P := P) w t ty e i z ht hi hz ⟨g0, 0, none⟩ n cap xs hown.1 holds a m c news hl hnews (by omega) (by omega) (growslice_fits (by omega) hbytes)
      rw [hr] at hr2
      injection hr2 with e1 e2
      injection e1 with e1 _ _
      subst e1
      right
      simpa [Value.ownBlock] using hg.symm

theorem wpList_append_full {P : Program} {w : World} {ops : Array Oper} {rest : List Oper} {o : Oper} {act : Act} {Q : Exit → Act → World → Prop} (hgd : o.guard = none) (s x : Operand) (t : TypeId)
    (ho : o.op = .call { callee := .builtin .append, args := #[s, x], argTypes := #[t, t] })
    (base : Nat) (e : TypeId) (z : Value) (size bytes : Nat) (ht : P.underlying t = some (.slice e)) (hi : (P.info? e).map (fun i => (i.zero, i.size, i.bytes)) = some (some z, size, bytes))
    (hzs : z.cells.size = size) (hsz : 0 < size)
    (v : Value) (n : Nat) (xs : List Value) (hs : act.eval s = v) (hown : w.ownsRow base e size v n xs)
    (a : Addr) (m c : Nat) (news : List Value) (hx : act.eval x = .slice (some a) m c) (hl : news.length = m * size) (hnews : ∀ j u, news[j]? = some u → w.cell? (a.add j) = some u) (h1 : ∀ u ∈ news, u.oneCell' = true)
    (h63 : n + m ≤ maxLen) (hbytes : (n + m) * bytes ≤ 140737488355328) (hbase : base ≤ w.heap.size)
    (h : ∀ a' c' w', w'.ownsRow base e size (.slice a' (n + m) c') (n + m) (xs ++ news) → w.grownBy w' v.ownBlock → (∀ g, (Value.slice a' (n + m) c').ownBlock = some g → v.ownBlock = some g ∨ g = w.heap.size) →
      wpList P ops Q rest (act.put o.dst (.slice a' (n + m) c')) w') : wpList P ops Q (o :: rest) act w := by
  obtain ⟨i, hi0, hz, hsize, hby⟩ := info_parts hi
  refine wpList_plain hgd fun _ hK => ?_
  obtain ⟨a', c', w', hr, h2, h3, h4⟩ := run_append_full (P := P) w base t o.type e i z size bytes ht hi0 hz hsize hby hzs hsz v n xs hown a m c news hl hnews h1 h63 hbytes hbase
  unfold Oper.wp execOp
  simp only [ho, resolve, invoke, builtin, Sem.run_bind, Sem.run_pure, Result.andThen_ok, List.map_toArray, List.map_cons, List.map_nil, hs, hx, hr]
  exact hK _ _ (h a' c' w' h2 h3 h4)

theorem wpList_append_bytes0 {P : Program} {w : World} {ops : Array Oper} {rest : List Oper} {o : Oper} {a : Act} {Q : Exit → Act → World → Prop} (hgd : o.guard = none) (s x : Operand) (t : TypeId)
    (ho : o.op = .call { callee := .builtin .append, args := #[s, x], argTypes := #[t, t] })
    (base : Nat) (e : TypeId) (ht : P.underlying t = some (.slice e)) (hi : (P.info? e).map (fun i => (i.zero, i.size, i.bytes)) = some (some (.int .u8 0), 1, 1))
    (v : Value) (n : Nat) (xs : List UInt8) (hs : a.eval s = v) (hown : w.ownsRow base e 1 v n (xs.map bval))
    (ad : Option Addr) (ys : List UInt8) (c : Nat) (hx : a.eval x = .slice ad ys.length c) (hy : IsBytes w ad ys) (hnc : ad = none → c = 0) (hb : n + ys.length ≤ 140737488355328) (hbase : base ≤ w.heap.size)
    (h : ∀ a' c' w', w'.ownsRow base e 1 (.slice a' (n + ys.length) c') (n + ys.length) ((xs ++ ys).map bval) → w.grownBy w' v.ownBlock → (∀ g, (Value.slice a' (n + ys.length) c').ownBlock = some g → v.ownBlock = some g ∨ g = w.heap.size) →
      wpList P ops Q rest (a.put o.dst (.slice a' (n + ys.length) c')) w') :
    wpList P ops Q (o :: rest) a w := by
  have h63 : n + ys.length ≤ maxLen := by unfold maxLen; omega
  rcases hy with rfl | ⟨b, off, rfl, _, hc⟩
  · cases ad with
    | none =>
      obtain rfl := hnc rfl
      obtain ⟨i, hi0, _⟩ := info_parts hi
      refine wpList_append_own_none hgd s x t ho base e i 1 ht hi0 v n (xs.map bval) hs hown hx ?_
      have hv' : ∃ a' c', v = .slice a' n c' := by
        rcases hown.2 with ⟨hv, hn⟩ | ⟨g, cap, cur, hv, _⟩
        · exact ⟨none, 0, by rw [hv, hn]⟩
        · exact ⟨_, _, hv⟩
      obtain ⟨a', c', rfl⟩ := hv'
      exact h a' c' w (by simpa using hown) ⟨rfl, rfl, rfl, Nat.le_refl _, fun _ _ _ => rfl⟩ (fun g hg => .inl hg)
    | some ad =>
      refine wpList_append_full hgd s x t ho base e (.int .u8 0) 1 1 ht hi rfl (by decide) v n (xs.map bval) hs hown ad 0 c [] hx rfl (fun j u hj => by simp at hj) (fun u hu => by simp at hu) h63 (by simpa using hb) hbase ?_
      intro a' c' w' h1 h2 h3
      exact h a' c' w' (by simpa using h1) h2 h3
  · refine wpList_append_full hgd s x t ho base e (.int .u8 0) 1 1 ht hi rfl (by decide) v n (xs.map bval) hs hown ⟨b, off, none⟩ ys.length c (ys.map bval) hx (by simp) ?_ ?_ h63 (by omega) hbase ?_
    · intro j u hj
      rw [List.getElem?_map] at hj
      obtain ⟨y, hy, rfl⟩ := Option.map_eq_some_iff.1 hj
      obtain ⟨hl, rfl⟩ := List.getElem?_eq_some_iff.1 hy
      have hadd : (⟨b, off, none⟩ : Addr).add j = ⟨b, off + j, none⟩ := by unfold Addr.add; split <;> simp_all
      rw [hadd]
      exact hc j hl
    · intro u hu
      obtain ⟨y, _, rfl⟩ := List.mem_map.1 hu
      rfl
    · intro a' c' w' h1 h2 h3
      exact h a' c' w' (by simpa using h1) h2 h3
/-- An append of bytes onto a slice of bytes that the call owns. -/
theorem wpList_append_bytes {P : Program} {w : World} {ops : Array Oper} {rest : List Oper} {o : Oper} {a : Act} {Q : Exit → Act → World → Prop} (hgd : o.guard = none) (s x : Operand) (t : TypeId)
    (ho : o.op = .call { callee := .builtin .append, args := #[s, x], argTypes := #[t, t] })
    (base : Nat) (e : TypeId) (ht : P.underlying t = some (.slice e)) (hi : (P.info? e).map (fun i => (i.zero, i.size, i.bytes)) = some (some (.int .u8 0), 1, 1))
    (v : Value) (n : Nat) (xs : List UInt8) (hs : a.eval s = v) (hown : w.ownsRow base e 1 v n (xs.map bval))
    (ad : Option Addr) (ys : List UInt8) (m : Nat) (hm : ys.length = m) (c : Nat) (hx : a.eval x = .slice ad m c) (hy : IsBytes w ad ys) (hnc : ad = none → c = 0) (hb : n + m ≤ 140737488355328) (hbase : base ≤ w.heap.size)
    (h : ∀ a' c' w', w'.ownsRow base e 1 (.slice a' (n + m) c') (n + m) ((xs ++ ys).map bval) → w.grownBy w' v.ownBlock → (∀ g, (Value.slice a' (n + m) c').ownBlock = some g → v.ownBlock = some g ∨ g = w.heap.size) →
      wpList P ops Q rest (a.put o.dst (.slice a' (n + m) c')) w') :
    wpList P ops Q (o :: rest) a w := by
  subst hm
  exact wpList_append_bytes0 hgd s x t ho base e ht hi v n xs hs hown ad ys c hx hy hnc hb hbase h
theorem extract3 {cs : Array Value} {i : Nat} {x y z : Value} (h0 : cs[i]? = some x) (h1 : cs[i + 1]? = some y) (h2 : cs[i + 2]? = some z) : cs.extract i (i + 3) = #[x, y, z] := by
  obtain ⟨b, _⟩ := Array.getElem?_eq_some_iff.1 h2
  apply Array.ext_getElem?
  intro j
  rw [Array.getElem?_extract]
  match j with
  | 0 => simp [h0]; omega
  | 1 => simp [h1]; omega
  | 2 => simp [h2]; omega
  | j + 3 => rw [if_neg (by omega)]; simp
end Go.Proofs.Ytmaoimjfkncnpaa

namespace Go.Proofs.Ytmaoimjfkncnpaa
open Go.RowKit Go.WideShapes
set_option maxRecDepth 100000

/-- Cells that lie in a block, one behind the other. -/
structure ArrAt (w : World) (b o : Nat) (cs : Array Value) : Prop where
  lt : b < w.heap.size
  cells : ∀ j v, cs[j]? = some v → w.cell? ⟨b, o + j, none⟩ = some v
theorem ArrAt.below {w w' : World} {b o B : Nat} {cs : Array Value} (h : ArrAt w b o cs) (k : Below B w w') (hB : b < B) : ArrAt w' b o cs :=
  ⟨Nat.lt_of_lt_of_le h.lt k.size, fun j v hj => (k.cell (p := ⟨b, o + j, none⟩) hB).trans (h.cells j v hj)⟩
theorem ArrAt.grown {w w' : World} {b o : Nat} {cs : Array Value} (h : ArrAt w b o cs) (k : Below w.heap.size w w') : ArrAt w' b o cs := h.below k h.lt
theorem arr_new (w : World) (cs : Array Value) (t : TypeId) : ArrAt (w.alloc (.cells cs t)) w.heap.size 0 cs :=
  ⟨by simp, fun j v hj => by rw [Nat.zero_add]; exact (World.cell?_alloc_new w cs t j).trans hj⟩
theorem ArrAt.upd {S : Nat → Prop} {w w' : World} {b o : Nat} {cs : Array Value} (h : ArrAt w b o cs) (k : Upd S w w') (hn : ¬ S b) : ArrAt w' b o cs :=
  ⟨Nat.lt_of_lt_of_le h.lt k.size, fun j v hj => (k.cell (p := ⟨b, o + j, none⟩) h.lt hn).trans (h.cells j v hj)⟩

theorem blw_alloc {w w' : World} (h : Below w.heap.size w w') (o : Obj) : Below w.heap.size w (w'.alloc o) := h.alloc h.size o
theorem blw_set {w w' : World} {p : Addr} (h : Below w.heap.size w w') (hp : w.heap.size ≤ p.block) (u : Value) : Below w.heap.size w (w'.setCell p u) := h.setCell hp u
theorem two_new (w : World) (X Y : Array Value) (t : TypeId) : Below w.heap.size w ((w.alloc (.cells X t)).alloc (.cells Y t)).drew ∧ ArrAt ((w.alloc (.cells X t)).alloc (.cells Y t)).drew w.heap.size 0 X ∧ ArrAt ((w.alloc (.cells X t)).alloc (.cells Y t)).drew (w.heap.size + 1) 0 Y := by
  have e : (w.alloc (.cells X t)).heap.size = w.heap.size + 1 := by simp
  have h1 := arr_new (w.alloc (.cells X t)) Y t
  rw [e] at h1
  have h2 := (arr_new w X t).grown ((Below.refl _ _).alloc (o := .cells Y t) (Nat.le_refl _))
  exact ⟨(blw_alloc (blw_alloc (Below.refl _ _) _) _).drew, ⟨h2.lt, h2.cells⟩, ⟨h1.lt, h1.cells⟩⟩

/-- A row of things, sz cells each. -/
def RowAt {α : Type} (At : World → Nat → Nat → α → Prop) (sz : Nat) (w : World) (a : Option Addr) (xs : List α) : Prop :=
  xs = [] ∨ ∃ b off, a = some ⟨b, off, none⟩ ∧ b < w.heap.size ∧ ∀ i (h : i < xs.length), At w b (off + i * sz) xs[i]
theorem RowAt.map {α : Type} {At : World → Nat → Nat → α → Prop} {sz : Nat} {w w' : World} {a : Option Addr} {xs : List α} (h : RowAt At sz w a xs) (hs : w.heap.size ≤ w'.heap.size) (k : ∀ b o x, b < w.heap.size → At w b o x → At w' b o x) : RowAt At sz w' a xs := by
  rcases h with h | ⟨b, off, h1, h2, h3⟩
  · exact .inl h
  · exact .inr ⟨b, off, h1, Nat.lt_of_lt_of_le h2 hs, fun i hi => k _ _ _ h2 (h3 i hi)⟩
theorem RowAt.at {α : Type} {At : World → Nat → Nat → α → Prop} {sz n : Nat} {w : World} {a : Option Addr} {xs : List α} (h : RowAt At sz w a xs) (hn : xs.length = n) (h0 : 0 < n) : ∃ b off, a = some ⟨b, off, none⟩ ∧ b < w.heap.size ∧ ∀ i (hi : i < xs.length), At w b (off + i * sz) xs[i] := by
  rcases h with rfl | h
  · simp at hn; omega
  · exact h

/-- A row that comes in, thing by thing. -/
theorem rows_of {α : Type} {P : Program} {w : World} {t e : TypeId} {sz : Nat} {a : Option Addr} {n c : Nat} (At : World → Nat → Nat → α → Prop) (Fit : α → Prop) (x0 : α) (h : Rd P w t [.slice a n c]) (ht : P.underlying t = some (.slice e)) (hs : P.cellsOf e = sz) (hp : 0 < sz)
    (dec : ∀ b o (cs : List Value), b < w.heap.size → cs.length = sz → (∀ j, j < sz → w.cell? ⟨b, o + j, none⟩ = cs[j]?) → Rd P w e cs → ∃ x, At w b o x ∧ Fit x) :
    ∃ xs : List α, xs.length = n ∧ RowAt At sz w a xs ∧ n ≤ c ∧ c ≤ maxLen ∧ ∀ x ∈ xs, Fit x := by
  obtain ⟨a', n', c', e, hn, hc, hr, _⟩ := h.slice_at ht hs hp
  injection e with e _
  injection e with e1 e2 e3
  subst e1 e2 e3
  have key : ∀ i, i < n → ∃ x : α, Fit x ∧ ∃ b off, a = some ⟨b, off, none⟩ ∧ At w b (off + i * sz) x := by
    intro i hi
    rcases hr with h0 | ⟨b, off, rfl, hb, hrow⟩
    · omega
    · obtain ⟨cs, hl, hat, hrd⟩ := hrow i (by omega)
      obtain ⟨x, h1, h2⟩ := dec b (off + i * sz) cs hb hl hat hrd
      exact ⟨x, h2, b, off, rfl, h1⟩
  refine ⟨(List.range n).map fun i => open Classical in if h : i < n then Classical.choose (key i h) else x0, by simp, ?_, hn, hc, ?_⟩
  · by_cases h0 : n = 0
    · exact .inl (by simp [h0])
    · rcases hr with h1 | ⟨b, off, rfl, hb, _⟩
      · omega
      · refine .inr ⟨b, off, rfl, hb, fun i hi => ?_⟩
        simp only [List.length_map, List.length_range] at hi
        simp only [List.getElem_map, List.getElem_range, dif_pos hi]
        obtain ⟨_, b', off', e, h⟩ := Classical.choose_spec (key i hi)
        injection e with e
        injection e with e1 e2
        subst e1 e2
        exact h
  · intro x hx
    obtain ⟨i, hi, rfl⟩ := List.mem_map.1 hx
    have hi := List.mem_range.1 hi
    simp only [dif_pos hi]
    exact (Classical.choose_spec (key i hi)).1
end Go.Proofs.Ytmaoimjfkncnpaa

namespace Go.Proofs.Ytmaoimjfkncnpaa
open Go.RowKit
set_option maxRecDepth 100000
/-- The same at an operation: for regions that draw their order. -/
theorem wp_append_bytes {P : Program} {w : World} {o : Oper} {a : Act} {K : Act → World → Prop} {Q : Exit → Act → World → Prop} (s x : Operand) (t : TypeId)
    (ho : o.op = .call { callee := .builtin .append, args := #[s, x], argTypes := #[t, t] })
    (base : Nat) (e : TypeId) (ht : P.underlying t = some (.slice e)) (hi : (P.info? e).map (fun i => (i.zero, i.size, i.bytes)) = some (some (.int .u8 0), 1, 1))
    (v : Value) (n : Nat) (xs : List UInt8) (hs : a.eval s = v) (hown : w.ownsRow base e 1 v n (xs.map bval))
    (ad : Option Addr) (ys : List UInt8) (m : Nat) (hm : ys.length = m) (c : Nat) (hx : a.eval x = .slice ad m c) (hy : IsBytes w ad ys) (hnc : ad = none → c = 0) (hb : n + m ≤ 140737488355328) (hbase : base ≤ w.heap.size)
    (h : ∀ a' c' w', w'.ownsRow base e 1 (.slice a' (n + m) c') (n + m) ((xs ++ ys).map bval) → w.grownBy w' v.ownBlock → (∀ g, (Value.slice a' (n + m) c').ownBlock = some g → v.ownBlock = some g ∨ g = w.heap.size) →
      K (a.put o.dst (.slice a' (n + m) c')) w') : o.wp P a w K Q := by
  subst hm
  have h63 : n + ys.length ≤ maxLen := by unfold maxLen; omega
  have fin : ∀ ad' news, a.eval x = .slice (some ad') ys.length c → news.length = ys.length * 1 → (∀ j u, news[j]? = some u → w.cell? (ad'.add j) = some u) → (∀ u ∈ news, u.oneCell' = true) → news = ys.map bval → o.wp P a w K Q := by
    intro ad' news hx' hl hnews h1 hne
    obtain ⟨i, hi0, hz, hsize, hby⟩ := info_parts hi
    obtain ⟨a', c', w', hr, h2, h3, h4⟩ := run_append_full (P := P) w base t o.type e i (.int .u8 0) 1 1 ht hi0 hz hsize hby rfl (by decide) v n (xs.map bval) hown ad' ys.length c news hl hnews h1 h63 (by omega) hbase
    unfold Oper.wp execOp
    simp only [ho, resolve, invoke, builtin, Sem.run_bind, Sem.run_pure, Result.andThen_ok, List.map_toArray, List.map_cons, List.map_nil, hs, hx', hr]
    exact h a' c' w' (by rw [hne] at h2; simpa using h2) h3 h4
  rcases hy with rfl | ⟨b, off, rfl, _, hc⟩
  · cases ad with
    | none =>
      obtain rfl := hnc rfl
      obtain ⟨i, hi0, _⟩ := info_parts hi
      have hrun := run_append_owned_none (P := P) (w := w) base t o.type e i 1 ht hi0 v n (xs.map bval) hown
      have hv' : ∃ a' c', v = .slice a' n c' := by
        rcases hown.2 with ⟨hv, hn⟩ | ⟨g, cap, cur, hv, _⟩
        · exact ⟨none, 0, by rw [hv, hn]⟩
        · exact ⟨_, _, hv⟩
      have hx' : a.eval x = .slice none 0 0 := hx
      obtain ⟨a', c', rfl⟩ := hv'
      unfold Oper.wp execOp
      simp only [ho, resolve, invoke, builtin, Sem.run_bind, Sem.run_pure, Result.andThen_ok, List.map_toArray, List.map_cons, List.map_nil, hs, hx', hrun]
      exact h a' c' w (by simpa using hown) ⟨rfl, rfl, rfl, Nat.le_refl _, fun _ _ _ => rfl⟩ (fun g hg => .inl hg)
    | some ad => exact fin ad [] hx rfl (fun j u hj => by simp at hj) (fun u hu => by simp at hu) rfl
  · refine fin ⟨b, off, none⟩ (ys.map bval) hx (by simp) ?_ ?_ rfl
    · intro j u hj
      rw [List.getElem?_map] at hj
      obtain ⟨y, hy, rfl⟩ := Option.map_eq_some_iff.1 hj
      obtain ⟨hl, rfl⟩ := List.getElem?_eq_some_iff.1 hy
      have hadd : (⟨b, off, none⟩ : Addr).add j = ⟨b, off + j, none⟩ := by unfold Addr.add; split <;> simp_all
      rw [hadd]
      exact hc j hl
    · intro u hu
      obtain ⟨y, _, rfl⟩ := List.mem_map.1 hu
      rfl
theorem step_append_bytes {P : Program} {w : World} {ops : Array Oper} {o : Oper} {a : Act} {K : Act → World → Prop} {Q : Exit → Act → World → Prop} {E : Prop} (hgd : o.guard = none) (s x : Operand) (t : TypeId)
    (ho : o.op = .call { callee := .builtin .append, args := #[s, x], argTypes := #[t, t] })
    (base : Nat) (e : TypeId) (ht : P.underlying t = some (.slice e)) (hi : (P.info? e).map (fun i => (i.zero, i.size, i.bytes)) = some (some (.int .u8 0), 1, 1))
    (v : Value) (n : Nat) (xs : List UInt8) (hs : a.eval s = v) (hown : w.ownsRow base e 1 v n (xs.map bval))
    (ad : Option Addr) (ys : List UInt8) (m : Nat) (hm : ys.length = m) (c : Nat) (hx : a.eval x = .slice ad m c) (hy : IsBytes w ad ys) (hnc : ad = none → c = 0) (hb : n + m ≤ 140737488355328) (hbase : base ≤ w.heap.size)
    (h : ∀ a' c' w', w'.ownsRow base e 1 (.slice a' (n + m) c') (n + m) ((xs ++ ys).map bval) → w.grownBy w' v.ownBlock → (∀ g, (Value.slice a' (n + m) c').ownBlock = some g → v.ownBlock = some g ∨ g = w.heap.size) →
      K (a.put o.dst (.slice a' (n + m) c')) w') :
    if Region.wanted o (yielded ops a.tmps) = true then Oper.wp P o a w K Q else E := by
  rw [if_pos (by simp [Region.wanted, hgd])]
  exact wp_append_bytes s x t ho base e ht hi v n xs hs hown ad ys m hm c hx hy hnc hb hbase h
end Go.Proofs.Ytmaoimjfkncnpaa

namespace Go.Proofs.Ytmaoimjfkncnpaa
open Go.RowKit
set_option maxRecDepth 100000

theorem u8_info : (Try.prog.info? 5).map (fun i => (i.zero, i.size, i.bytes)) = some (some (.int .u8 0), 1, 1) := by kernel_rfl

theorem bytes_of_row {w : World} {base n : Nat} {e : TypeId} {a : Option Addr} {c : Nat} {xs : List UInt8} (h : w.ownsRow base e 1 (.slice a n c) n (xs.map bval)) : IsBytes w a xs ∧ n = xs.length ∧ n ≤ c ∧ c ≤ maxLen ∧ (a = none → c = 0) := by
  have hl : n = xs.length := by have := h.1; simp at this; exact this.symm
  rcases h.2 with ⟨hv, hn⟩ | ⟨g, cap, cur, hv, _, hg, hnc, hcm, _, ht⟩
  · injection hv with h1 h2 h3
    exact ⟨.inl (List.length_eq_zero_iff.1 (by omega)), hl, by omega, by omega, fun _ => h3⟩
  · injection hv with h1 h2 h3
    subst h1
    refine ⟨.inr ⟨g, 0, rfl, (Array.getElem?_eq_some_iff.1 hg).1, fun i hi => ?_⟩, hl, by omega, by omega, fun x => by cases x⟩
    rw [Nat.zero_add, cell_of_row w g i cur e (0, 0) hg]
    have h2 : (xs.map bval)[i]? = some (bval xs[i]) := by simp [List.getElem?_map, List.getElem?_eq_getElem hi]
    rw [← ht, List.getElem?_take] at h2
    split at h2
    · simpa [bval] using h2
    · cases h2

set_option maxHeartbeats 800000 in
theorem clone_bytes (a : Option Addr) (xs : List UInt8) (n c : Nat) (w : World) (hn : xs.length = n) (hx : IsBytes w a xs) (hnc : a = none → c = 0) (hb : n ≤ 140737488355328) :
    Calls Try.prog 41 #[.slice a n c] w fun e w' => (∃ a' c', e = .returned (.slice a' n c') ∧ w'.ownsRow w.heap.size 5 1 (.slice a' n c') n (xs.map bval)) ∧ Below w.heap.size w w' := by
  have hnil := fun (w : World) (a : Option Addr) (n c n' c' : Nat) => Lib.run_eql_slice_nil (P := Try.prog) w 26 5 a n c n' c' Try.underlying26
  cases a with
  | none =>
    obtain rfl := hnc rfl
    obtain rfl : xs = [] := by
      rcases hx with h | ⟨_, _, h, _⟩
      · exact h
      · cases h
    obtain rfl : 0 = n := hn
    clear hnc
    go_enter Try.func41, Try.ntmps41
    go_wp2
    go_ret
    exact ⟨⟨none, 0, rfl, World.ownsRow_nil _ _ _ _⟩, Below.refl _ _⟩
  | some a =>
    have hown : (w.alloc (.cells #[] 5)).ownsRow w.heap.size 5 1 (.slice (some ⟨w.heap.size, 0, none⟩) 0 0) 0 (([] : List UInt8).map bval) :=
      World.ownsRow_made w #[] 0 (Nat.le_refl _) (Nat.zero_le _) rfl
    have hx1 : IsBytes (w.alloc (.cells #[] 5)) (some a) xs := hx.upd (S := fun _ => False) ((Upd.refl _ _).alloc _) (fun _ _ _ h => h)
    have hb0 : 0 + n ≤ 140737488355328 := by omega
    have hbase : w.heap.size ≤ (w.alloc (.cells #[] 5)).heap.size := by simp
    go_enter Try.func41, Try.ntmps41
    go_wp2_with (at_builtin; refine wpList_append_bytes rfl _ _ 26 rfl w.heap.size 5 Try.underlying26 u8_info (.slice (some ⟨w.heap.size, 0, none⟩) 0 0) 0 [] rfl hown (some a) xs n hn c rfl hx1 hnc hb0 hbase ?_; intro a' c' w' h1 h2 h3)
    go_ret
    rw [Nat.zero_add] at h1
    refine ⟨⟨a', c', by simp, by simpa using h1⟩, ?_⟩
    exact ((Below.refl _ w).alloc (Nat.le_refl _) _).grown h2 (by simp) (fun k hk => by simp [Value.ownBlock] at hk; omega)

theorem take_eq {xs ys : List UInt8} {k : Nat} (h : xs.take k = ys.take k) (h1 : k < xs.length) (h2 : k < ys.length) (e : xs[k] = ys[k]) : xs.take (k+1) = ys.take (k+1) := by
  rw [List.take_succ_eq_append_getElem h1, List.take_succ_eq_append_getElem h2, h, e]

set_option maxHeartbeats 400000 in
theorem bytes_any0 (a b : Option Addr) (ca cb : Nat) (xs ys : List UInt8) (w : World) (ha : IsBytes w a xs) (hb : IsBytes w b ys)
   (hx : xs.length ≤ maxLen) (hy : ys.length ≤ maxLen) :
    Calls Try.prog 13 #[.slice a xs.length ca, .slice b ys.length cb] w fun e w' => e = .returned (.bool (decide (xs = ys))) ∧ ∃ n, w' = w.drewN n := by
  unfold maxLen at hx hy
  by_cases hl : xs.length = ys.length
  · have HL := Lib.hid hl
    have hle : ys.length ≤ xs.length := by omega
    go_enter Try.func13, Try.ntmps13
    go_wp2
    clear hl
    go_loopw [5, 13] (fun _ i wr => ∃ k : Nat, k ≤ ys.length ∧ i = .int .i64 k ∧ (∃ n, wr = w.drewN n) ∧ xs.take k = ys.take k)
      (fun _ i _ => ys.length - (intOf i).toNat)
    case atStart => exact ⟨0, by omega, rfl, ⟨0, rfl⟩, rfl⟩
    case round =>
      obtain ⟨k, hk, rfl, ⟨n, rfl⟩, hpre⟩ := hrel
      by_cases hlt : k < ys.length
      · rcases ha with rfl | ⟨ba, oa, rfl, _, hca⟩
        · simp at hle; simp [hle] at hlt
        rcases hb with rfl | ⟨bb, ob, rfl, _, hcb⟩
        · simp at hlt
        have c1 := hca k (by omega)
        have c2 := hcb k (by omega)
        have HP := Lib.hid hpre
        clear hca hcb hpre
        by_cases he : xs[k] = ys[k]
        · have hb1 : ((xs[k].toNat : Int) != (ys[k].toNat : Int)) = false := by simp [he]
          have H1 := Lib.hid he
          clear he
          go_wp2
          go_quiet (fail)
          go_wp2
          go_roundw
          case rel => exact ⟨k + 1, by omega, by go_num, ⟨n + nq, by first | rfl | exact World.drewN_drewN _ _ _⟩, take_eq HP.out (by omega) hlt H1.out⟩
          case measure => simp [intOf]; omega
        · have hb1 : ((xs[k].toNat : Int) != (ys[k].toNat : Int)) = true := by
            rw [bne_iff_ne]; intro e; exact he (UInt8.toNat_inj.1 (by omega))
          have hne : ¬ xs = ys := by intro e; subst e; exact he rfl
          have H1 := Lib.hid hne
          clear he hne
          go_wp2
          go_quiet (fail)
          go_wp2
          go_ret
          exact ⟨by simp [H1.out], n + nq, by first | rfl | exact World.drewN_drewN _ _ _⟩
      · go_wp2
        go_ret
        have e : xs = ys := by
          have := hpre
          have h1 : k = ys.length := by omega
          have h2 : k = xs.length := by have := HL.out; omega
          rw [List.take_of_length_le (by omega), List.take_of_length_le (by omega)] at this
          exact this
        exact ⟨by simp [e], n, rfl⟩
  · go_enter Try.func13, Try.ntmps13
    go_wp2
    go_ret
    exact ⟨by simp [show xs ≠ ys from fun e => hl (by rw [e])], 0, rfl⟩

theorem bytes_any (a b : Option Addr) (n m ca cb : Nat) (xs ys : List UInt8) (w : World) (hn : xs.length = n) (hm : ys.length = m) (ha : IsBytes w a xs) (hb : IsBytes w b ys) (hx : n ≤ maxLen) (hy : m ≤ maxLen) :
    Calls Try.prog 13 #[.slice a n ca, .slice b m cb] w fun e w' => e = .returned (.bool (decide (xs = ys))) ∧ Below w.heap.size w w' := by
  subst hn hm
  refine (bytes_any0 a b ca cb xs ys w ha hb hx hy).mono ?_
  rintro e w' ⟨he, n, rfl⟩
  exact ⟨he, ⟨rfl, rfl, rfl, Nat.le_refl _, fun _ _ => rfl⟩⟩
end Go.Proofs.Ytmaoimjfkncnpaa

namespace Go.Proofs.Ytmaoimjfkncnpaa
open Go.RowKit
set_option maxRecDepth 100000

theorem run_copy_rows {P : Program} (w : World) (dT sT ty elem : TypeId) (sz g o dLen dCap : Nat) (a : Addr) (sLen sCap m : Nat) (cur : Array Value) (t : TypeId) (cs : List Value)
    (hu : P.underlying dT = some (.slice elem)) (hs : (P.info? elem).map (·.size) = some sz)
    (hg : w.heap[g]? = some (.cells cur t (0, 0))) (hm : m = Nat.min sLen dLen) (hn : cs.length = m * sz)
    (hsrc : ∀ j v, cs[j]? = some v → w.cell? (a.add j) = some v) (hfit : o + cs.length ≤ cur.size) (h1 : ∀ v ∈ cs, v.oneCell' = true) :
    (Builtin.copy_ #[dT, sT] ty #[.slice (some ⟨g, o, none⟩) dLen dCap, .slice (some a) sLen sCap]).run P w =
      .ok (goInt m) (w.setRow g (cur.toList.take o ++ cs ++ cur.toList.drop (o + cs.length)).toArray) := by
  have hl := run_loadCells_list (P := P) w a cs hsrc
  have hst := run_storeCells_at P g o t cs 0 cur w hg (by simpa using hfit) h1
  cases hq : P.info? elem with
  | none => simp [hq] at hs
  | some i =>
    have hi : i.size = sz := by simpa [hq] using hs
    rw [hn] at hl
    simp [Builtin.copy_, run_underlying hu, Builtin.lenOf, Builtin.firstCells, sizeOf, typeInfo, hq, hi, ← hm, hl, hst]
theorem wpList_copy_rows {P : Program} {w : World} {ops : Array Oper} {rest : List Oper} {o : Oper} {a : Act} {Q : Exit → Act → World → Prop} (hgd : o.guard = none) (d s : Operand) (dT sT : TypeId)
    (ho : o.op = .call { callee := .builtin .copy, args := #[d, s], argTypes := #[dT, sT] }) (elem : TypeId) (sz : Nat) (hu : P.underlying dT = some (.slice elem)) (hsz : (P.info? elem).map (·.size) = some sz)
    (dLen dCap sLen sCap : Nat) (g off : Nat) (ad : Addr) (hd : a.eval d = .slice (some ⟨g, off, none⟩) dLen dCap) (hs : a.eval s = .slice (some ad) sLen sCap)
    (cur : List Value) (t : TypeId) (hg : w.heap[g]? = some (.cells cur.toArray t (0, 0))) (m : Nat) (hm : m = Nat.min sLen dLen) (cs : List Value) (hn : cs.length = m * sz)
    (hsrc : ∀ j v, cs[j]? = some v → w.cell? (ad.add j) = some v)
    (hfit : off + cs.length ≤ cur.length) (h1 : ∀ v ∈ cs, v.oneCell' = true) (B : Nat) (w0 : World) (hb : Below B w0 w) (hBg : B ≤ g)
    (h : ∀ w', Hid (w'.heap[g]? = some (.cells (splice cur off cs).toArray t (0, 0))) → Below B w0 w' → wpList P ops Q rest (a.put o.dst (goInt m)) w') :
    wpList P ops Q (o :: rest) a w := by
  refine wpList_plain hgd fun K hK => ?_
  have hrun := run_copy_rows (P := P) w dT sT o.type elem sz g off dLen dCap ad sLen sCap m cur.toArray t cs hu hsz hg hm hn hsrc (by simpa using hfit) h1
  unfold Oper.wp
  simp [execOp, ho, resolve, invoke, builtin, hd, hs, hrun, Result.andThen]
  exact hK _ _ (h _ (show _ = _ by simpa [splice] using setRow_heap w g _ _ t _ hg) (below_setRow hb hBg _))
theorem step_copy_rows {P : Program} {ops : Array Oper} {o : Oper} {a : Act} {w : World} {K : Act → World → Prop} {Q : Exit → Act → World → Prop} {E : Prop} (hgd : o.guard = none) (d s : Operand) (dT sT : TypeId)
    (ho : o.op = .call { callee := .builtin .copy, args := #[d, s], argTypes := #[dT, sT] }) (elem : TypeId) (sz : Nat) (hu : P.underlying dT = some (.slice elem)) (hsz : (P.info? elem).map (·.size) = some sz)
    (dLen dCap sLen sCap : Nat) (g off : Nat) (ad : Addr) (hd : a.eval d = .slice (some ⟨g, off, none⟩) dLen dCap) (hs : a.eval s = .slice (some ad) sLen sCap)
    (cur : List Value) (t : TypeId) (hg : w.heap[g]? = some (.cells cur.toArray t (0, 0))) (m : Nat) (hm : m = Nat.min sLen dLen) (cs : List Value) (hn : cs.length = m * sz)
    (hsrc : ∀ j v, cs[j]? = some v → w.cell? (ad.add j) = some v)
    (hfit : off + cs.length ≤ cur.length) (h1 : ∀ v ∈ cs, v.oneCell' = true) (B : Nat) (w0 : World) (hb : Below B w0 w) (hBg : B ≤ g)
    (h : ∀ w', Hid (w'.heap[g]? = some (.cells (splice cur off cs).toArray t (0, 0))) → Below B w0 w' → K (a.put o.dst (goInt m)) w') :
    if Region.wanted o (yielded ops a.tmps) = true then Oper.wp P o a w K Q else E := by
  have hw : Region.wanted o (yielded ops a.tmps) = true := by simp [Region.wanted, hgd]
  rw [if_pos hw]
  have hrun := run_copy_rows (P := P) w dT sT o.type elem sz g off dLen dCap ad sLen sCap m cur.toArray t cs hu hsz hg hm hn hsrc (by simpa using hfit) h1
  unfold Oper.wp
  simp [execOp, ho, resolve, invoke, builtin, hd, hs, hrun, Result.andThen]
  exact h _ (show _ = _ by simpa [splice] using setRow_heap w g _ _ t _ hg) (below_setRow hb hBg _)

/-- A row of k times the cells x, then z. -/
def reps (x z : List Value) (k N : Nat) : List Value := (List.replicate k x).flatten ++ (List.replicate (N - k) z).flatten
theorem rep_length (x : List Value) (k : Nat) : (List.replicate k x).flatten.length = k * x.length := by simp
theorem reps_length {x z : List Value} {sz k N : Nat} (hx : x.length = sz) (hz : z.length = sz) (h : k ≤ N) : (reps x z k N).length = N * sz := by
  unfold reps
  rw [List.length_append, rep_length, rep_length, hx, hz, ← Nat.add_mul]
  congr 1
  omega
theorem rep_add (x : List Value) (k m : Nat) : (List.replicate (k + m) x).flatten = (List.replicate k x).flatten ++ (List.replicate m x).flatten := by
  rw [← List.replicate_append_replicate, List.flatten_append]
theorem reps_splice {x z : List Value} {sz k m N : Nat} (hx : x.length = sz) (hz : z.length = sz) (h : k + m ≤ N) : splice (reps x z k N) (k * sz) (List.replicate m x).flatten = reps x z (k + m) N := by
  unfold splice reps
  have e1 : (List.replicate k x).flatten.length = k * sz := by rw [rep_length, hx]
  have e2 : (List.replicate m x).flatten.length = m * sz := by rw [rep_length, hx]
  have e3 : (List.replicate (N - k) z).flatten = (List.replicate m z).flatten ++ (List.replicate (N - (k + m)) z).flatten := by
    rw [← rep_add]
    congr 2
    omega
  have e4 : (List.replicate m z).flatten.length = m * sz := by rw [rep_length, hz]
  rw [List.take_append_of_le_length (by omega), List.take_of_length_le (by omega), List.drop_append, List.drop_of_length_le (by omega), List.nil_append, e2, e1, Nat.add_sub_cancel_left, e3, List.drop_append, List.drop_of_length_le (by omega), List.nil_append, e4, Nat.sub_self, List.drop_zero, ← List.append_assoc, rep_add]
theorem rep_get (x : List Value) : ∀ (k i j : Nat), i < k → j < x.length → (List.replicate k x).flatten[i * x.length + j]? = x[j]?
  | k + 1, 0, j, _, hj => by
    rw [List.replicate_succ, List.flatten_cons, List.getElem?_append_left (by omega), Nat.zero_mul, Nat.zero_add]
  | k + 1, i + 1, j, h, hj => by
    rw [List.replicate_succ, List.flatten_cons, List.getElem?_append_right (by rw [Nat.add_mul]; omega), show (i + 1) * x.length + j - x.length = i * x.length + j by rw [Nat.add_mul]; omega]
    exact rep_get x k i j (by omega) hj
theorem reps_get {x z : List Value} {k N j : Nat} (h : j < k * x.length) : (reps x z k N)[j]? = (List.replicate k x).flatten[j]? := by
  unfold reps
  rw [List.getElem?_append_left (by rw [rep_length]; exact h)]
theorem reps_prefix {x z : List Value} {k m N j : Nat} {v : Value} (hm : m ≤ k) (h : (List.replicate m x).flatten[j]? = some v) : (reps x z k N)[j]? = some v := by
  obtain ⟨hl, hv⟩ := List.getElem?_eq_some_iff.1 h
  unfold reps
  rw [show k = m + (k - m) by omega, rep_add, List.append_assoc, List.getElem?_append_left hl]
  exact h
theorem rep_one {x : List Value} (hx : ∀ v ∈ x, v.oneCell' = true) (m : Nat) : ∀ v ∈ (List.replicate m x).flatten, v.oneCell' = true := by
  intro v hv
  rw [List.mem_flatten] at hv
  obtain ⟨l, hl, hv⟩ := hv
  rw [List.mem_replicate] at hl
  rw [hl.2] at hv
  exact hx v hv
theorem madeCells_reps (x z : Array Value) (hz : 0 < z.size) (N : Nat) : madeCells z (N * z.size) = (reps x.toList z.toList 0 N).toArray := by
  apply Array.ext_getElem?
  intro j
  unfold reps madeCells
  simp only [List.replicate_zero, List.flatten_nil, List.nil_append, Nat.sub_zero]
  by_cases hj : j < N * z.size
  · have hd : j = (j / z.size) * z.toList.length + j % z.size := by
      have := Nat.div_add_mod j z.size
      rw [Nat.mul_comm] at this
      simp only [Array.length_toList]
      omega
    have hm := Nat.mod_lt j hz
    have hq : j / z.size < N := (Nat.div_lt_iff_lt_mul hz).2 hj
    have e : ((List.replicate N z.toList).flatten.toArray)[j]? = z.toList[j % z.size]? := by
      rw [List.getElem?_toArray]
      conv => lhs; rw [hd, rep_get z.toList N (j / z.size) (j % z.size) hq (by simpa using hm)]
    rw [e]
    simp [hj, hm]
  · have e : ((List.replicate N z.toList).flatten.toArray)[j]? = none := by
      rw [List.getElem?_toArray, List.getElem?_eq_none (by rw [rep_length]; simp; omega)]
    rw [e, Array.getElem?_eq_none (by simp; omega)]
end Go.Proofs.Ytmaoimjfkncnpaa

namespace Go.Proofs.Ytmaoimjfkncnpaa
open Go.RowKit
set_option maxRecDepth 100000

theorem own_base {w : World} {base : Nat} {e : TypeId} {size : Nat} {v : Value} {n : Nat} {xs : List Value} (h : w.ownsRow base e size v n xs) {g : Nat} (hg : v.ownBlock = some g) : base ≤ g := by
  rcases h.2 with ⟨hv, _⟩ | ⟨g', cap, cur, hv, hb, _⟩
  · subst hv; cases hg
  · subst hv
    obtain rfl : g' = g := by simpa [Value.ownBlock] using hg
    exact hb
theorem own_in {w : World} {base : Nat} {e : TypeId} {size : Nat} {v : Value} {n : Nat} {xs : List Value} (h : w.ownsRow base e size v n xs) {g : Nat} (hg : v.ownBlock = some g) : g < w.heap.size := by
  rcases h.2 with ⟨hv, _⟩ | ⟨g', cap, cur, hv, _, hh, _⟩
  · subst hv; cases hg
  · subst hv
    obtain rfl : g' = g := by simpa [Value.ownBlock] using hg
    exact (Array.getElem?_eq_some_iff.1 hh).1
theorem ownsRow_alloc {w : World} {base : Nat} {e : TypeId} {size : Nat} {v : Value} {n : Nat} {xs : List Value} (h : w.ownsRow base e size v n xs) (o : Obj) : (w.alloc o).ownsRow base e size v n xs :=
  ownsRow_upd (S := fun _ => False) h ((Upd.refl _ _).alloc _) (fun _ _ h => h)

theorem wpList_append_elem {P : Program} {w : World} {ops : Array Oper} {rest : List Oper} {o : Oper} {act : Act} {Q : Exit → Act → World → Prop} (hgd : o.guard = none) (s x : Operand) (t : TypeId)
    (ho : o.op = .call { callee := .builtin .append, args := #[s, x], argTypes := #[t, t] })
    (base : Nat) (e : TypeId) (z : Value) (bytes : Nat) (ht : P.underlying t = some (.slice e)) (hi : (P.info? e).map (fun i => (i.zero, i.size, i.bytes)) = some (some z, 1, bytes)) (hz : z.cells.size = 1)
    (v : Value) (m : Nat) (xs : List Value) (hs : act.eval s = v) (hown : w.ownsRow base e 1 v m xs) (u : Value) (hu : u.oneCell' = true) (ad : Addr) (c : Nat) (hx : act.eval x = .slice (some ad) 1 c) (hc : w.cell? ad = some u)
    (k : Nat) (hk : m + 1 = k) (h63 : k ≤ maxLen) (hbytes : k * bytes ≤ 140737488355328) (hbase : base ≤ w.heap.size) (B : Nat) (w0 : World) (hB : Below B w0 w) (hBb : B ≤ base)
    (h : ∀ a' c' w', Hid (w'.ownsRow base e 1 (.slice a' k c') k (xs ++ [u])) → Below B w0 w' → Upd (fun g => v.ownBlock = some g) w w' → (∀ g, (Value.slice a' k c').ownBlock = some g → v.ownBlock = some g ∨ g = w.heap.size) →
      wpList P ops Q rest (act.put o.dst (.slice a' k c')) w') : wpList P ops Q (o :: rest) act w := by
  subst hk
  refine wpList_append_full hgd s x t ho base e z 1 bytes ht hi hz (by decide) v m xs hs hown ad 1 c [u] hx rfl (fun j y hj => ?_) (fun y hy => by rw [List.mem_singleton.1 hy]; exact hu) h63 hbytes hbase (fun a' c' w' h1 h2 h3 => ?_)
  · match j, hj with
    | 0, hj =>
      injection hj with hj
      subst hj
      rw [show ad.add 0 = ad from by unfold Addr.add; split <;> simp_all]
      exact hc
    | j + 1, hj => simp at hj
  · exact h a' c' w' h1 (hB.grown h2 (Nat.le_trans hBb hbase) (fun k hk => Nat.le_trans hBb (own_base hown hk))) ((Upd.refl _ _).grown h2 (fun k hk => .inl hk)) h3
end Go.Proofs.Ytmaoimjfkncnpaa

namespace Go.Proofs.Ytmaoimjfkncnpaa
open Go.RowKit
set_option maxRecDepth 100000

theorem step_append_row {P : Program} {w : World} {ops : Array Oper} {o : Oper} {act : Act} {K : Act → World → Prop} {Q : Exit → Act → World → Prop} {E : Prop} (hgd : o.guard = none) (s x : Operand) (t : TypeId)
    (ho : o.op = .call { callee := .builtin .append, args := #[s, x], argTypes := #[t, t] })
    (base : Nat) (e : TypeId) (z : Value) (size bytes : Nat) (ht : P.underlying t = some (.slice e)) (hi : (P.info? e).map (fun i => (i.zero, i.size, i.bytes)) = some (some z, size, bytes)) (hz : z.cells.size = size) (hsz : 0 < size)
    (v : Value) (n : Nat) (xs : List Value) (hs : act.eval s = v) (hown : w.ownsRow base e size v n xs) (ad : Addr) (c : Nat) (news : List Value) (hx : act.eval x = .slice (some ad) 1 c) (hl : news.length = size) (hnews : ∀ j u, news[j]? = some u → w.cell? (ad.add j) = some u) (h1 : ∀ u ∈ news, u.oneCell' = true)
    (k : Nat) (hk : n + 1 = k) (h63 : k ≤ maxLen) (hbytes : k * bytes ≤ 140737488355328) (hbase : base ≤ w.heap.size)
    (h : ∀ a' c' w', w'.ownsRow base e size (.slice a' k c') k (xs ++ news) → w.grownBy w' v.ownBlock → (∀ g, (Value.slice a' k c').ownBlock = some g → v.ownBlock = some g ∨ g = w.heap.size) → K (act.put o.dst (.slice a' k c')) w') :
    if Region.wanted o (yielded ops act.tmps) = true then Oper.wp P o act w K Q else E := by
  rw [if_pos (by simp [Region.wanted, hgd])]
  subst hk
  obtain ⟨i, hi0, hz0, hsize, hby⟩ := info_parts hi
  obtain ⟨a', c', w', hr, h2, h3, h4⟩ := run_append_full (P := P) w base t o.type e i z size bytes ht hi0 hz0 hsize hby hz hsz v n xs hown ad 1 c news (by omega) hnews h1 h63 hbytes hbase
  unfold Oper.wp execOp
  simp only [ho, resolve, invoke, builtin, Sem.run_bind, Sem.run_pure, Result.andThen_ok, List.map_toArray, List.map_cons, List.map_nil, hs, hx, hr]
  exact h a' c' w' h2 h3 h4
end Go.Proofs.Ytmaoimjfkncnpaa

namespace Go.Proofs.Ytmaoimjfkncnpaa
open Go.RowKit
set_option maxRecDepth 100000
/-- A struct that lies in a box, and one result more. -/
theorem results_row_tmp {P : Program} {fn : Func} {p u : Tmp} {ty : TypeId} (h : fn.results = #[.cell p ty, .tmp u]) (tmps : Array Value) (w : World) (g : Nat) (t : TypeId) (cs : Array Value) (fr : Nat × Nat) (d : TypeDesc)
    (hp : tmps.getD p undef = .pointer (some ⟨g, 0, none⟩)) (hg : w.heap[g]? = some (.cells cs t fr))
    (hu : P.underlying ty = some d) (hd : (match d with | .struct _ | .array _ _ => true | _ => false) = true) (hi : (P.info? ty).map (·.size) = some cs.size) :
    (results fn tmps).run P w = .ok (.tuple #[.agg cs, tmps.getD u undef]) w := by
  have hp' : tmps[p]?.getD undef = .pointer (some ⟨g, 0, none⟩) := by simpa using hp
  simp [results, h, hp', asAddr, run_loadVar_row w g t ty cs fr d hg hu hd hi]
end Go.Proofs.Ytmaoimjfkncnpaa

namespace Go.Proofs.Ytmaoimjfkncnpaa
open Go.RowKit
theorem seat_own : ownKnob Try.prog.godebug = none := by kernel_rfl
theorem seat_laid : laidOutB Try.prog = true := by kernel_rfl
end Go.Proofs.Ytmaoimjfkncnpaa
