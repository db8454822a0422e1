/-
  Rows: numbers that a slice has; rows that are made; rows of things of so many cells each, as their cells; some cells of a row, stored. Program-independent. Conditions: those of each theorem.
-/
import Derived.Test.YtmaoimjfkncnpaaBase
import Derived.Deep.MidRow
import Derived.Laws.MakeOwn
import Derived.OwnWalk
import Derived.Deep.LoopGhost
import Derived.Deep.DeepCutAuto
import Derived.Deep.QuietTactic
import Derived.BigQuiet
namespace Go.Proofs.Ytmaoimjfkncnpaa
open Go.RowKit
set_option maxRecDepth 100000

theorem below_drawn {w w1 : World} (h : Below w.heap.size w w1) (n : Nat) : Below w.heap.size w (w1.drewN n) := ⟨h.os, h.tape, h.output, h.size, h.block⟩
theorem below_two (w : World) (A B : Obj) : Below w.heap.size w ((w.alloc A).alloc B) := ((Below.refl _ _).alloc (Nat.le_refl _) _).alloc (by simp) _
theorem upd_box {w : World} (o : Obj) : Below w.heap.size w (w.alloc o) := (Below.refl _ _).alloc (Nat.le_refl _) _
/-- The sums of a slice, where it has any. -/
def IsInts (w : World) (a : Option Addr) (xs : List Int) : Prop :=
  xs = [] ∨ ∃ b off, a = some ⟨b, off, none⟩ ∧ b < w.heap.size ∧ ∀ i (h : i < xs.length), w.cell? ⟨b, off + i, none⟩ = some (.int .i64 xs[i])

theorem IsInts.below {w w' : World} {a : Option Addr} {xs : List Int} (h : IsInts w a xs) (hb : Below w.heap.size w w') : IsInts w' a xs := by
  rcases h with rfl | ⟨b, off, rfl, hlt, hc⟩
  · exact .inl rfl
  · exact .inr ⟨b, off, rfl, Nat.lt_of_lt_of_le hlt hb.size, fun i h => by rw [hb.cell hlt]; exact hc i h⟩

theorem Rd.ints {P : Program} {w : World} {t e : TypeId} {cs : List Value} (h : Rd P w t cs) (ht : P.underlying t = some (.slice e)) (he : P.underlying e = some (.int .i64)) (hs : P.cellsOf e = 1) :
    ∃ (a : Option Addr) (cap : Nat) (xs : List Int), cs = [.slice a xs.length cap] ∧ xs.length ≤ cap ∧ cap ≤ maxLen ∧ IsInts w a xs := by
  obtain ⟨a, len, cap, hcs, hl, hm, hc, _⟩ := h.slice_at ht hs (Nat.one_pos)
  rcases hc with h0 | ⟨b, off, rfl, hb, hi⟩
  · obtain rfl : len = 0 := by omega
    exact ⟨a, cap, [], hcs, hl, hm, .inl rfl⟩
  · have key : ∀ i, i < cap → ∃ x : Int, w.cell? ⟨b, off + i, none⟩ = some (.int .i64 x) := by
      intro i hlt
      obtain ⟨cs', _, h1, h2⟩ := hi i hlt
      obtain ⟨n, rfl, hn⟩ := h2.int he
      have := h1 0 Nat.one_pos
      simp only [Nat.mul_one, Nat.add_zero, List.getElem?_cons_zero] at this
      exact ⟨n, this⟩
    have hch : ∃ f : Nat → Int, ∀ i, i < cap → w.cell? ⟨b, off + i, none⟩ = some (.int .i64 (f i)) :=
      ⟨fun i => if h : i < cap then Classical.choose (key i h) else 0, fun i h => by simp only [dif_pos h]; exact Classical.choose_spec (key i h)⟩
    obtain ⟨f, hf⟩ := hch
    refine ⟨some ⟨b, off, none⟩, cap, (List.range len).map f, by simpa using hcs, by simpa using hl, hm, .inr ⟨b, off, rfl, hb, fun i h => ?_⟩⟩
    simp only [List.length_map, List.length_range] at h
    simp only [List.getElem_map, List.getElem_range]
    exact hf i (by omega)


/-- A row of n numbers, as a function; where n is 0, whatever the address is. -/
def IntRow (w : World) (a : Option Addr) (n : Nat) (f : Nat → Int) : Prop := 0 < n → ∃ b o, a = some ⟨b, o, none⟩ ∧ b < w.heap.size ∧ ∀ k, k < n → w.cell? ⟨b, o + k, none⟩ = some (.int .i64 (f k))
theorem IntRow.below {w w' : World} {a : Option Addr} {n : Nat} {f : Nat → Int} (h : IntRow w a n f) (hb : Below w.heap.size w w') : IntRow w' a n f := fun hn => by
  obtain ⟨b, o, h1, h2, h3⟩ := h hn
  exact ⟨b, o, h1, Nat.lt_of_lt_of_le h2 hb.size, fun k hk => (hb.cell (p := ⟨b, o + k, none⟩) h2).trans (h3 k hk)⟩
theorem IsInts.row {w : World} {a : Option Addr} {xs : List Int} (h : IsInts w a xs) : IntRow w a xs.length (fun k => xs.getD k 0) := fun hn => by
  rcases h with rfl | ⟨b, o, h1, h2, h3⟩
  · exact absurd hn (Nat.lt_irrefl 0)
  · exact ⟨b, o, h1, h2, fun k hk => by rw [h3 k hk]; simp [List.getD, hk]⟩
theorem make_rows {P : Program} (W : World) (t e : TypeId) (x : Array Value) (z : Value) (sz bytes n : Nat) (ht : P.underlying t = some (.slice e)) (hi : (P.info? e).map (fun i => (i.zero, i.size, i.bytes)) = some (some z, sz, bytes)) (hz : z.cells.size = sz) (hs : 0 < sz) (hb : n * bytes ≤ 140737488355328) (hn : n ≤ 1000000) :
    (Instr.makeSlice t (.int .i64 (n : Int)) (.int .i64 (n : Int))).run P W = .ok (.slice (some ⟨W.heap.size, 0, none⟩) n n) (W.alloc (.cells (reps x.toList z.cells.toList 0 n).toArray e)) := by
  obtain ⟨i, h1, h2, h3, h4⟩ := info_parts hi
  have hb' : (bytes : Int) * (n : Int) ≤ 281474976710656 := by rw [Int.mul_comm]; omega
  have := run_make (P := P) W t e i z ht h1 h2 .i64 .i64 (n : Int) (n : Int) (by omega) (Int.le_refl _) (by rw [h4]; exact hb') (by omega)
  rw [Int.toNat_natCast, h3, ← hz, madeCells_reps x z.cells (by omega)] at this
  exact this
theorem add_zero_addr (S j : Nat) : (⟨S, 0, none⟩ : Addr).add j = ⟨S, j, none⟩ := by unfold Addr.add; split <;> simp_all
theorem row_cell {W : World} {S j : Nat} {xs : List Value} {t : TypeId} {v : Value} (h : W.heap[S]? = some (.cells xs.toArray t (0, 0))) (hv : xs[j]? = some v) : W.cell? ⟨S, j, none⟩ = some v := by
  unfold World.cell?
  rw [h]
  simpa using hv

theorem upd_setCells (b : Nat) : ∀ (vs : List Value) (o : Nat) (w : World), Upd (fun k => k = b) w (w.setCells b o vs)
  | [], _, w => Upd.refl _ w
  | v :: vs, o, w => (upd_set (w := w) (p := b) o v).trans (upd_setCells b vs (o + 1) _) (fun _ _ x => x)
theorem block_setCells (b : Nat) (t : TypeId) (n : Nat) : ∀ (vs : List Value) (o : Nat) (w : World), (∃ cur, w.heap[b]? = some (.cells cur t (0, 0)) ∧ cur.size = n) → ∃ cur, (w.setCells b o vs).heap[b]? = some (.cells cur t (0, 0)) ∧ cur.size = n
  | [], _, _, h => h
  | v :: vs, o, w, ⟨cur, h1, h2⟩ => block_setCells b t n vs (o + 1) _ ⟨_, setCell_heap_at h1, by simpa using h2⟩
theorem ArrAt.setCells {W : World} {b o o' : Nat} {xs : Array Value} (h : ArrAt W b o xs) (vs : List Value) (hd : o + xs.size ≤ o') : ArrAt (W.setCells b o' vs) b o xs := by
  refine ⟨Nat.lt_of_lt_of_le h.lt (upd_setCells b vs o' W).size, fun j v hj => ?_⟩
  have hjs : j < xs.size := (Array.getElem?_eq_some_iff.1 hj).1
  rw [World.cell?_setCells_out b _ _ W ⟨b, o + j, none⟩ (fun _ _ => .inl (by show o + j < o'; omega))]
  exact h.cells j v hj
theorem store_row {P : Program} {W : World} {g o sz : Nat} (h : W.there g o sz) (vs : List Value) (hl : vs.length = sz) (h1 : ∀ v ∈ vs, v.oneCell' = true) : (storeCells ⟨g, o, none⟩ vs 0).run P W = .ok () (W.setCells g o vs) := by
  subst hl
  have := run_storeCells_cells (P := P) g o vs 0 W (fun j hj => (h j hj).1) (fun j hj => (h j hj).2) h1
  simpa using this
theorem blk_made (w : World) (z : Array Value) (sz n : Nat) (hz : z.size = sz) (t : TypeId) : ∃ cur, (w.alloc (.cells (reps z.toList z.toList 0 n).toArray t)).heap[w.heap.size]? = some (.cells cur t (0, 0)) ∧ cur.size = n * sz := by
  refine ⟨_, heap_alloc_new w _, ?_⟩
  have := reps_length (x := z.toList) (z := z.toList) (sz := sz) (k := 0) (N := n) (by simpa using hz) (by simpa using hz) (Nat.zero_le _)
  simpa using this


/-- Rows of cells, one behind the other. -/
def flatCells (cs : List (Array Value)) : List Value := (cs.map Array.toList).flatten
theorem flat_length {sz : Nat} : ∀ {cs : List (Array Value)}, (∀ c ∈ cs, c.size = sz) → (flatCells cs).length = cs.length * sz
  | [], _ => by simp [flatCells]
  | c :: cs, h => by
    have ih := flat_length (cs := cs) (fun x hx => h x (List.mem_cons_of_mem _ hx))
    have h1 := h c (List.mem_cons_self ..)
    simp only [flatCells, List.map_cons, List.flatten_cons, List.length_append, List.length_cons, Array.length_toList] at ih ⊢
    rw [ih, h1, Nat.add_mul, Nat.one_mul, Nat.add_comm]
theorem flat_get {sz : Nat} : ∀ {cs : List (Array Value)}, (∀ c ∈ cs, c.size = sz) → ∀ (i : Nat) (h : i < cs.length) (j : Nat) (v : Value), cs[i][j]? = some v → (flatCells cs)[i * sz + j]? = some v
  | c :: cs, h, 0, _, j, v, hv => by
    have h1 := h c (List.mem_cons_self ..)
    have hj : j < c.size := (Array.getElem?_eq_some_iff.1 hv).1
    show (c.toList ++ flatCells cs)[0 * sz + j]? = some v
    rw [Nat.zero_mul, Nat.zero_add, List.getElem?_append_left (by simpa using hj), Array.getElem?_toList]
    exact hv
  | c :: cs, h, i + 1, hi, j, v, hv => by
    have h1 := h c (List.mem_cons_self ..)
    show (c.toList ++ flatCells cs)[(i + 1) * sz + j]? = some v
    rw [List.getElem?_append_right (by rw [Array.length_toList, h1, Nat.add_mul]; omega), Array.length_toList, h1, show (i + 1) * sz + j - sz = i * sz + j by rw [Nat.add_mul]; omega]
    exact flat_get (fun x hx => h x (List.mem_cons_of_mem _ hx)) i (by simpa using hi) j v (by simpa using hv)
theorem flat_inv {sz : Nat} : ∀ {cs : List (Array Value)}, (∀ c ∈ cs, c.size = sz) → ∀ (q : Nat) (v : Value), (flatCells cs)[q]? = some v → ∃ (i : Nat) (h : i < cs.length) (j : Nat), q = i * sz + j ∧ cs[i][j]? = some v
  | [], _, q, v, hv => by simp [flatCells] at hv
  | c :: cs, h, q, v, hv => by
    have h1 := h c (List.mem_cons_self ..)
    by_cases hq : q < sz
    · refine ⟨0, by simp, q, by omega, ?_⟩
      have e : (c.toList ++ flatCells cs)[q]? = some v := hv
      rw [List.getElem?_append_left (by rw [Array.length_toList, h1]; exact hq), Array.getElem?_toList] at e
      exact e
    · have e : (c.toList ++ flatCells cs)[q]? = some v := hv
      rw [List.getElem?_append_right (by rw [Array.length_toList, h1]; omega), Array.length_toList, h1] at e
      obtain ⟨i, hi, j, e1, e2⟩ := flat_inv (fun x hx => h x (List.mem_cons_of_mem _ hx)) (q - sz) v e
      exact ⟨i + 1, by simpa using hi, j, by rw [Nat.add_mul]; omega, by simpa using e2⟩
theorem flat_one {cs : List (Array Value)} (h : ∀ c ∈ cs, ∀ v ∈ c.toList, v.oneCell' = true) : ∀ v ∈ flatCells cs, v.oneCell' = true := by
  intro v hv
  unfold flatCells at hv
  rw [List.mem_flatten] at hv
  obtain ⟨l, hl, hv⟩ := hv
  rw [List.mem_map] at hl
  obtain ⟨c, hc, rfl⟩ := hl
  exact h c hc v hv
/-- A row of things as its cells. -/
theorem flat_row {w : World} {b off sz : Nat} {cs : List (Array Value)} (hz : ∀ c ∈ cs, c.size = sz) (h : ∀ i (hi : i < cs.length), ArrAt w b (off + i * sz) cs[i]) : ∀ j v, (flatCells cs)[j]? = some v → w.cell? ((⟨b, off, none⟩ : Addr).add j) = some v := fun q v hv => by
  obtain ⟨i, hi, j, rfl, e⟩ := flat_inv hz q v hv
  have e2 : (⟨b, off, none⟩ : Addr).add (i * sz + j) = ⟨b, off + i * sz + j, none⟩ := by unfold Addr.add; split <;> simp_all [Nat.add_assoc]
  rw [e2]
  exact (h i hi).cells j v e
theorem arr_of_own {w : World} {base sz n g c : Nat} {t : TypeId} {cs : List (Array Value)} (hz : ∀ c ∈ cs, c.size = sz) (hn : cs.length = n) (h : w.ownsRow base t sz (.slice (some ⟨g, 0, none⟩) n c) n (flatCells cs)) (hg : g < w.heap.size) : ∀ i (hi : i < cs.length), ArrAt w g (i * sz) cs[i] := fun i hi =>
  ⟨hg, fun j v hj => by
    have h1 := flat_get hz i hi j v hj
    have hl := (List.getElem?_eq_some_iff.1 h1).1
    rw [flat_length hz, hn] at hl
    rw [World.ownsRow.cellAt h (i * sz + j) hl]
    exact h1⟩
theorem list_choice {α : Type} {P : Nat → α → Prop} : ∀ n, (∀ i, i < n → ∃ x, P i x) → ∃ xs : List α, xs.length = n ∧ ∀ i (h : i < xs.length), P i xs[i]
  | 0, _ => ⟨[], rfl, fun i h => absurd h (Nat.not_lt_zero _)⟩
  | n + 1, h => by
    obtain ⟨xs, h1, h2⟩ := list_choice n (fun i hi => h i (by omega))
    obtain ⟨x, hx⟩ := h n (by omega)
    refine ⟨xs ++ [x], by rw [List.length_append, h1]; rfl, fun i hi => ?_⟩
    by_cases e : i = n
    · subst e
      rw [List.getElem_append_right (by omega)]
      simpa [h1] using hx
    · have hi2 : i < xs.length := by rw [List.length_append, h1] at hi; simp at hi; omega
      rw [List.getElem_append_left hi2]
      exact h2 i hi2
/-- What Clone answers. -/
def Cloned (t : TypeId) (sz n : Nat) (news : List Value) (w : World) (e : Ending) (w' : World) : Prop := (∃ a' c', e = .returned (.slice a' n c') ∧ w'.ownsRow w.heap.size t sz (.slice a' n c') n news) ∧ Below w.heap.size w w'
end Go.Proofs.Ytmaoimjfkncnpaa
