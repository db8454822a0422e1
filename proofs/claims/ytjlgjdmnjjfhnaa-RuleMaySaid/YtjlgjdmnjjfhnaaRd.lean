/-
  What the reading of an argument says of its cells, type by type (ints, bools, strings, structs, arrays, slices). Program-independent. No conditions but those of each theorem.
-/
import Derived.Test.YtjlgjdmnjjfhnaaLaw
import Derived.Deep.Slices
namespace Go.Proofs.Ytjlgjdmnjjfhnaa
open Go.ChangeShapes Go.WideShapes Go.ChangeAt Go.RowKit Go.Deep
set_option maxRecDepth 100000

theorem weightsAll_mem {H : Type} {P : Program} {e : TypeId} {d : DataW H} {n : Nat} : ∀ {l : List (DataW H)}, d ∈ l → n ∈ d.weights P e → n ∈ DataW.weightsAll P e l
  | [], h, _ => by cases h
  | c :: l, h, hn => by
    simp only [DataW.weightsAll, List.mem_append]
    rcases List.mem_cons.1 h with rfl | h
    · exact .inl hn
    · exact .inr (weightsAll_mem h hn)

section
variable {P : Program} {w : World} {t : TypeId} {cs : List Value}
theorem Rd.int {k : IntKind} (h : Rd P w t cs) (ht : P.underlying t = some (.int k)) : ∃ n, cs = [.int k n] ∧ (Lit.int k n).wf = true := by
  obtain ⟨H, enc, fuel, x, h, _⟩ := h
  obtain ⟨n, h1, _, h2⟩ := DataW.trod_int ht h
  exact ⟨n, h1, h2⟩
theorem Rd.bool (h : Rd P w t cs) (ht : P.underlying t = some .bool) : ∃ b, cs = [.bool b] := by
  obtain ⟨H, enc, fuel, x, h, _⟩ := h
  obtain ⟨n, h1, _⟩ := DataW.trod_bool ht h
  exact ⟨n, h1⟩
theorem Rd.string (h : Rd P w t cs) (ht : P.underlying t = some .string) : ∃ s, cs = [.string s] ∧ s.size ≤ maxLen := by
  obtain ⟨H, enc, fuel, x, h, _⟩ := h
  obtain ⟨n, h1, _, h2⟩ := DataW.trod_string ht h
  exact ⟨n, h1, h2⟩
theorem Rd.struct {fs : Array Field} (h : Rd P w t cs) (ht : P.underlying t = some (.struct fs)) :
    cs.length = P.cellsOf t ∧ ∀ (i : Nat) (f : Field), fs[i]? = some f → Rd P w f.type ((cs.drop f.offset).take (P.cellsOf f.type)) := by
  obtain ⟨H, enc, fuel, x, h, hw⟩ := h
  obtain ⟨xs, n, _, rfl, hl, hx, hf⟩ := DataW.trod_struct ht h
  refine ⟨hl, fun i f hi => ?_⟩
  have h1 := hf i f hi
  have hlt : i < xs.length := by rw [hx]; exact (Array.getElem?_eq_some_iff.1 hi).1
  rw [List.getElem?_eq_getElem hlt] at h1
  refine ⟨H, enc, n, _, h1, fun m hm => hw m ?_⟩
  simp only [DataW.weights, ht]
  refine DataW.weights_mem_each (j := i) (t := f.type) (d := xs[i].1) ?_ ?_ m hm
  · simp [List.getElem?_map, hi]
  · simp [List.getElem?_map, List.getElem?_eq_getElem hlt]
theorem Rd.field {fs : Array Field} (h : Rd P w t cs) (ht : P.underlying t = some (.struct fs)) (i : Nat) {f : Field} (hf : fs[i]? = some f) {u o n : Nat} (h1 : f.type = u) (h2 : f.offset = o) (h3 : P.cellsOf u = n) : Rd P w u ((cs.drop o).take n) := by
  subst h1 h2 h3
  exact (h.struct ht).2 i f hf
theorem Rd.array {n : Nat} {e : TypeId} (h : Rd P w t cs) (ht : P.underlying t = some (.array n e)) :
    cs.length = P.cellsOf t ∧ ∀ i, i < n → Rd P w e ((cs.drop (i * P.cellsOf e)).take (P.cellsOf e)) := by
  obtain ⟨H, enc, fuel, x, h, hw⟩ := h
  obtain ⟨xs, m, _, rfl, hl, hx, hf⟩ := DataW.trod_array ht h
  refine ⟨hl, fun i hi => ?_⟩
  have h1 := hf i hi
  have hlt : i < xs.length := by omega
  rw [List.getElem?_eq_getElem hlt] at h1
  refine ⟨H, enc, m, _, h1, fun k hk => hw k ?_⟩
  simp only [DataW.weights, ht]
  exact weightsAll_mem (List.mem_map.2 ⟨xs[i], List.getElem_mem hlt, rfl⟩) hk
theorem Rd.slice {e : TypeId} (h : Rd P w t cs) (ht : P.underlying t = some (.slice e)) :
    (cs = [.slice none 0 0]) ∨ ∃ (a : Addr) (len cap : Nat), cs = [.slice (some a) len cap] ∧ len ≤ cap ∧ cap ≤ maxLen ∧ cap * P.bytesOf e ≤ reachBytes ∧
      ∀ i, i < cap → ∃ cs', w.cells? 0 (a.add (i * P.cellsOf e)) (P.cellsOf e) = some cs' ∧ Rd P w e cs' := by
  obtain ⟨H, enc, fuel, x, h, hw⟩ := h
  rcases open_slice ht h with ⟨h0, _⟩ | ⟨a, len, cap, m, n, D, Pl, hcs, hb, hl, hm, hmm, rfl, hi⟩
  · exact .inl h0
  · simp only [if_true] at hmm
    subst hmm
    refine .inr ⟨a, len, m, hcs, hl, hm, ?_, fun i hi' => ?_⟩
    · refine hw _ ?_
      simp only [DataW.weights, ht]
      refine List.mem_cons.2 (.inl ?_)
      simp only [List.length_map, List.length_range]
      rw [show len + (m - len) = m from by omega]
    · obtain ⟨cs', h1, h2⟩ := hi i hi'
      refine ⟨cs', h1, H, enc, n, _, h2, fun k hk => hw k ?_⟩
      simp only [DataW.weights, ht]
      refine List.mem_cons.2 (.inr ?_)
      by_cases hlt : i < len
      · exact List.mem_append.2 (.inl (weightsAll_mem (List.mem_map.2 ⟨i, List.mem_range.2 hlt, rfl⟩) hk))
      · exact List.mem_append.2 (.inr (weightsAll_mem (List.mem_map.2 ⟨i - len, List.mem_range.2 (by omega), by rw [show len + (i - len) = i from by omega]⟩) hk))
/-- A slice whose elements have at least a cell: where it is not empty, its address is a place in a block that is there; and how much it takes. -/
theorem Rd.slice_at47 {e : TypeId} {sz : Nat} (h : Rd P w t cs) (ht : P.underlying t = some (.slice e)) (hs : P.cellsOf e = sz) (hp : 0 < sz) :
    ∃ (a : Option Addr) (len cap : Nat), cs = [.slice a len cap] ∧ len ≤ cap ∧ cap ≤ maxLen ∧ cap * P.bytesOf e ≤ reachBytes ∧ (cap = 0 ∨ ∃ b off, a = some ⟨b, off, none⟩ ∧ b < w.heap.size ∧
      ∀ i, i < cap → ∃ cs' : List Value, cs'.length = sz ∧ (∀ j, j < sz → w.cell? ⟨b, off + i * sz + j, none⟩ = cs'[j]?) ∧ Rd P w e cs') ∧ (a = none → cap = 0) := by
  rcases h.slice ht with h0 | ⟨a, len, cap, hcs, hl, hm, hbt, hi⟩
  · exact ⟨none, 0, 0, h0, Nat.le_refl _, Nat.zero_le _, by simp, .inl rfl, fun _ => rfl⟩
  · refine ⟨some a, len, cap, hcs, hl, hm, hbt, ?_, fun x => by cases x⟩
    by_cases hc : cap = 0
    · exact .inl hc
    · right
      rw [hs] at hi
      obtain ⟨b, off, spot⟩ := a
      obtain ⟨cs0, h0, _⟩ := hi 0 (by omega)
      obtain ⟨hb0, hl0, hat0⟩ := World.cells?_some h0
      have e0 := hat0 0 hp
      have hv : cs0[0]? = some (cs0[0]'(by omega)) := List.getElem?_eq_getElem (by omega)
      simp only [Nat.zero_mul, Addr.add, if_true] at e0
      rw [hv] at e0
      obtain rfl : spot = none := World.cell?_spot e0
      refine ⟨b, off, rfl, World.block_lt_of_cell? _ _ e0, fun i hlt => ?_⟩
      obtain ⟨cs', h1, h2⟩ := hi i hlt
      obtain ⟨_, hl1, hat⟩ := World.cells?_some h1
      refine ⟨cs', hl1, fun j hj => ?_, h2⟩
      have := hat j hj
      rw [← this]
      have e2 : ((⟨b, off, none⟩ : Addr).add (i * sz)).add j = ⟨b, off + i * sz + j, none⟩ := by
        unfold Addr.add; split <;> split <;> simp_all <;> omega
      rw [e2]
theorem Rd.slice_at {e : TypeId} {sz : Nat} (h : Rd P w t cs) (ht : P.underlying t = some (.slice e)) (hs : P.cellsOf e = sz) (hp : 0 < sz) :
    ∃ (a : Option Addr) (len cap : Nat), cs = [.slice a len cap] ∧ len ≤ cap ∧ cap ≤ maxLen ∧ (cap = 0 ∨ ∃ b off, a = some ⟨b, off, none⟩ ∧ b < w.heap.size ∧
      ∀ i, i < cap → ∃ cs' : List Value, cs'.length = sz ∧ (∀ j, j < sz → w.cell? ⟨b, off + i * sz + j, none⟩ = cs'[j]?) ∧ Rd P w e cs') ∧ (a = none → cap = 0) := by
  obtain ⟨a, len, cap, h1, h2, h3, _, h4, h5⟩ := h.slice_at47 ht hs hp
  exact ⟨a, len, cap, h1, h2, h3, h4, h5⟩
end

theorem val_int {P : Program} {w : World} {t : TypeId} {k : IntKind} {v : Value} {r : Reach} {base : Nat} (hv : Value.okWide P w r base t v) (h : Rd P w t v.cells.toList) (ht : P.underlying t = some (.int k)) : ∃ n, v = .int k n ∧ (Lit.int k n).wf = true := by
  obtain ⟨n, e, hw⟩ := h.int ht
  simp only [Value.okWide, ht] at hv
  cases v <;> simp_all [Value.cells, Cell.okWide, Cell.ok]
theorem val_bool {P : Program} {w : World} {t : TypeId} {v : Value} {r : Reach} {base : Nat} (hv : Value.okWide P w r base t v) (h : Rd P w t v.cells.toList) (ht : P.underlying t = some .bool) : ∃ b, v = .bool b := by
  obtain ⟨n, e⟩ := h.bool ht
  simp only [Value.okWide, ht] at hv
  cases v <;> simp_all [Value.cells, Cell.okWide, Cell.ok]
theorem val_slice {P : Program} {w : World} {t e : TypeId} {v : Value} {r : Reach} {base : Nat} (hv : Value.okWide P w r base t v) (ht : P.underlying t = some (.slice e)) : ∃ a n c, v = .slice a n c ∧ v.cells.toList = [.slice a n c] := by
  obtain ⟨a, n, c, rfl⟩ := okWide_slice ht hv
  exact ⟨a, n, c, rfl, rfl⟩
theorem val_agg {P : Program} {w : World} {t : TypeId} {n : Nat} {e : TypeId} {v : Value} {r : Reach} {base : Nat} (hv : Value.okWide P w r base t v) (ht : P.underlying t = some (.array n e)) : v = .agg v.cells := by
  simp only [Value.okWide, ht] at hv
  obtain ⟨cs, rfl, _⟩ := hv
  rfl

/-- The bytes of a slice, where it has any. -/
def IsBytes (w : World) (a : Option Addr) (xs : List UInt8) : Prop :=
  xs = [] ∨ ∃ b off, a = some ⟨b, off, none⟩ ∧ b < w.heap.size ∧ ∀ i (h : i < xs.length), w.cell? ⟨b, off + i, none⟩ = some (.int .u8 (xs[i].toNat : Int))

/-- An int's bounds. -/
def I64 (n : Int) : Prop := -9223372036854775808 ≤ n ∧ n ≤ 9223372036854775807

theorem wf_u8 {n : Int} (h : (Lit.int .u8 n).wf = true) : 0 ≤ n ∧ n < 256 := by
  simp [Lit.wf, IntKind.min, IntKind.max, IntKind.signed, IntKind.bits] at h
  omega
theorem wf_i64 {n : Int} (h : (Lit.int .i64 n).wf = true) : -9223372036854775808 ≤ n ∧ n ≤ 9223372036854775807 := by
  simp [Lit.wf, IntKind.min, IntKind.max, IntKind.signed, IntKind.bits] at h
  omega

theorem Rd.bytes {P : Program} {w : World} {t e : TypeId} {cs : List Value} (h : Rd P w t cs) (ht : P.underlying t = some (.slice e)) (he : P.underlying e = some (.int .u8)) (hs : P.cellsOf e = 1) :
    ∃ (a : Option Addr) (cap : Nat) (xs : List UInt8), cs = [.slice a xs.length cap] ∧ xs.length ≤ cap ∧ cap ≤ maxLen ∧ IsBytes w a xs ∧ (a = none → cap = 0) := by
  obtain ⟨a, len, cap, hcs, hl, hm, hc, hnc⟩ := h.slice_at ht hs (Nat.one_pos)
  rcases hc with h0 | ⟨b, off, rfl, hb, hi⟩
  · obtain rfl : len = 0 := by omega
    exact ⟨a, cap, [], hcs, hl, hm, .inl rfl, hnc⟩
  · have key : ∀ i, i < cap → ∃ x : UInt8, w.cell? ⟨b, off + i, none⟩ = some (.int .u8 (x.toNat : Int)) := by
      intro i hlt
      obtain ⟨cs', _, h1, h2⟩ := hi i hlt
      obtain ⟨n, rfl, hn⟩ := h2.int he
      have := h1 0 Nat.one_pos
      simp only [Nat.mul_one, Nat.add_zero, List.getElem?_cons_zero] at this
      have hb := wf_u8 hn
      refine ⟨UInt8.ofNat n.toNat, ?_⟩
      rw [this]
      have : ((UInt8.ofNat n.toNat).toNat : Int) = n := by
        rw [UInt8.toNat_ofNat']
        omega
      rw [this]
    have hch : ∃ f : Nat → UInt8, ∀ i, i < cap → w.cell? ⟨b, off + i, none⟩ = some (.int .u8 ((f i).toNat : Int)) :=
      ⟨fun i => if h : i < cap then Classical.choose (key i h) else 0, fun i h => by simp only [dif_pos h]; exact Classical.choose_spec (key i h)⟩
    obtain ⟨f, hf⟩ := hch
    refine ⟨some ⟨b, off, none⟩, cap, (List.range len).map f, by simpa using hcs, by simpa using hl, hm, .inr ⟨b, off, rfl, hb, fun i h => ?_⟩, hnc⟩
    simp only [List.length_map, List.length_range] at h
    simp only [List.getElem_map, List.getElem_range]
    exact hf i (by omega)
theorem Rd.bytes47 {P : Program} {w : World} {t e : TypeId} {cs : List Value} (h : Rd P w t cs) (ht : P.underlying t = some (.slice e)) (he : P.underlying e = some (.int .u8)) (hs : P.cellsOf e = 1) (hby : P.bytesOf e = 1) :
    ∃ (a : Option Addr) (cap : Nat) (xs : List UInt8), cs = [.slice a xs.length cap] ∧ xs.length ≤ cap ∧ cap ≤ 140737488351232 ∧ IsBytes w a xs ∧ (a = none → cap = 0) := by
  obtain ⟨a, len, cap, hcs, hl, _, hbt, hc, hnc⟩ := h.slice_at47 ht hs (Nat.one_pos)
  have hm : cap ≤ 140737488351232 := by rw [hby] at hbt; unfold reachBytes at hbt; omega
  rcases hc with h0 | ⟨b, off, rfl, hb, hi⟩
  · obtain rfl : len = 0 := by omega
    exact ⟨a, cap, [], hcs, hl, hm, .inl rfl, hnc⟩
  · have key : ∀ i, i < cap → ∃ x : UInt8, w.cell? ⟨b, off + i, none⟩ = some (.int .u8 (x.toNat : Int)) := by
      intro i hlt
      obtain ⟨cs', _, h1, h2⟩ := hi i hlt
      obtain ⟨n, rfl, hn⟩ := h2.int he
      have := h1 0 Nat.one_pos
      simp only [Nat.mul_one, Nat.add_zero, List.getElem?_cons_zero] at this
      have hb := wf_u8 hn
      refine ⟨UInt8.ofNat n.toNat, ?_⟩
      rw [this]
      have : ((UInt8.ofNat n.toNat).toNat : Int) = n := by
        rw [UInt8.toNat_ofNat']
        omega
      rw [this]
    have hch : ∃ f : Nat → UInt8, ∀ i, i < cap → w.cell? ⟨b, off + i, none⟩ = some (.int .u8 ((f i).toNat : Int)) :=
      ⟨fun i => if h : i < cap then Classical.choose (key i h) else 0, fun i h => by simp only [dif_pos h]; exact Classical.choose_spec (key i h)⟩
    obtain ⟨f, hf⟩ := hch
    refine ⟨some ⟨b, off, none⟩, cap, (List.range len).map f, by simpa using hcs, by simpa using hl, hm, .inr ⟨b, off, rfl, hb, fun i h => ?_⟩, hnc⟩
    simp only [List.length_map, List.length_range] at h
    simp only [List.getElem_map, List.getElem_range]
    exact hf i (by omega)
end Go.Proofs.Ytjlgjdmnjjfhnaa
