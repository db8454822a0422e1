/-
  The laws of layer 7, what they share: the arguments, awake. Conditions: those of the theorems.
-/
import Derived.Test.YtaboaljpnacnfaaLedger
import Derived.ChangeKeysEq
namespace Go.Proofs.Ytaboaljpnacnfaa
open Go.RowKit
set_option maxRecDepth 100000

theorem val_struct {P : Program} {w : World} {t : TypeId} {fs : Array Field} {v : Value} {r : Reach} {base : Nat} (hv : Value.okWide P w r base t v) (ht : P.underlying t = some (.struct fs)) : v = .agg v.cells := by
  simp only [Value.okWide, ht] at hv
  obtain ⟨cs, rfl, _⟩ := hv
  rfl

theorem cells_five : Try.prog.cellsOf 22 = 5 := by kernel_rfl
theorem cells_i64 : Try.prog.cellsOf 2 = 1 := by kernel_rfl
theorem cells_int : Try.prog.cellsOf 3 = 1 := by kernel_rfl

/-- All accounts' sums fit. -/
def Fits (g : Nat → Int) : Prop := ∀ i, i < 5 → I64 (g i)

theorem val_five {w : World} {v : Value} {r : Reach} {base : Nat} (hv : Value.okWide Try.prog w r base 22 v) (h : Rd Try.prog w 22 v.cells.toList) : ∃ g, v = .agg (five g) ∧ Fits g := by
  have e := val_agg hv Try.underlying22
  obtain ⟨hl, hi⟩ := h.array Try.underlying22
  rw [cells_five] at hl
  have key : ∀ i, i < 5 → ∃ n : Int, v.cells.toList[i]? = some (.int .i64 n) ∧ I64 n := by
    intro i h5
    have h1 := hi i h5
    rw [cells_i64] at h1
    obtain ⟨n, h2, h3⟩ := h1.int Try.underlying2
    refine ⟨n, ?_, wf_i64 h3⟩
    have h4 : (List.take 1 (List.drop (i * 1) v.cells.toList))[0]? = some (.int .i64 n) := by rw [h2]; rfl
    simpa using h4
  refine ⟨fun i => if h : i < 5 then Classical.choose (key i h) else 0, ?_, ?_⟩
  · refine e.trans ?_
    congr 1
    apply Array.ext'
    apply List.ext_getElem?
    intro i
    by_cases h5 : i < 5
    · rw [(Classical.choose_spec (key i h5)).1]
      match i, h5 with
      | 0, _ => rfl
      | 1, _ => rfl
      | 2, _ => rfl
      | 3, _ => rfl
      | 4, _ => rfl
    · rw [List.getElem?_eq_none (by omega), List.getElem?_eq_none (by simp [five]; omega)]
  · intro i h5
    simp only [dif_pos h5]
    exact (Classical.choose_spec (key i h5)).2

/-- A posting. -/
def posting (f t s : Int) : Array Value := #[.int .i64 f, .int .i64 t, .int .i64 s]

theorem rd_posting {w : World} {cs : List Value} (h : Rd Try.prog w 28 cs) : ∃ f t s : Int, cs = (posting f t s).toList ∧ I64 f ∧ I64 t ∧ I64 s := by
  have hl := (h.struct Try.underlying28).1
  obtain ⟨f, h1, w1⟩ := (h.field Try.underlying28 0 rfl (u := 3) (o := 0) (n := 1) (by kernel_rfl) (by kernel_rfl) cells_int).int Try.underlying3
  obtain ⟨t, h2, w2⟩ := (h.field Try.underlying28 1 rfl (u := 3) (o := 1) (n := 1) (by kernel_rfl) (by kernel_rfl) cells_int).int Try.underlying3
  obtain ⟨s, h3, w3⟩ := (h.field Try.underlying28 2 rfl (u := 2) (o := 2) (n := 1) (by kernel_rfl) (by kernel_rfl) cells_i64).int Try.underlying2
  rw [show Try.prog.cellsOf 28 = 3 by kernel_rfl] at hl
  refine ⟨f, t, s, ?_, wf_i64 w1, wf_i64 w2, wf_i64 w3⟩
  match cs, hl with
  | [a, b, c], _ =>
    simp at h1 h2 h3
    subst h1 h2 h3
    rfl

theorem val_posting {w : World} {v : Value} {r : Reach} {base : Nat} (hv : Value.okWide Try.prog w r base 28 v) (h : Rd Try.prog w 28 v.cells.toList) : ∃ f t s : Int, v = .agg (posting f t s) ∧ I64 f ∧ I64 t ∧ I64 s := by
  have e := val_struct hv Try.underlying28
  obtain ⟨f, t, s, h1, h2⟩ := rd_posting h
  refine ⟨f, t, s, ?_, h2⟩
  rw [e]
  congr 1
  exact Array.toList_inj.1 h1

theorem below_box {w w1 w2 : World} {o : Obj} (h : Below w.heap.size w w1) (k : Below (w1.alloc o).heap.size (w1.alloc o) w2) : Below w.heap.size w w2 :=
  (h.alloc h.size o).trans (k.mono (by have := h.size; simp; omega))

theorem box_cell {w1 w2 : World} {cs : Array Value} {t : TypeId} (k : Below (w1.alloc (.cells cs t)).heap.size (w1.alloc (.cells cs t)) w2) (j : Nat) (v : Value) (hv : cs[j]? = some v) : w2.cell? ⟨w1.heap.size, j, none⟩ = some v := by
  rw [k.cell (p := ⟨w1.heap.size, j, none⟩) (by simp)]
  rw [World.cell?_alloc_new, hv]

/-- Are five sums the same? -/
def same5 (g h : Nat → Int) : Bool := (List.range 5).all fun i => g i == h i
theorem same5_iff {g h : Nat → Int} : same5 g h = true ↔ ∀ i, i < 5 → g i = h i := by simp [same5, List.all_eq_true]
theorem same5_self (g : Nat → Int) : same5 g g = true := same5_iff.2 fun _ _ => rfl
theorem run_isAgg_not {P : Program} {t : TypeId} {d : TypeDesc} (h : P.underlying t = some d) (hd : aggD d = false) (w : World) : (isAgg t).run P w = .ok false w := by
  unfold isAgg
  rw [Sem.run_bind, run_underlying h w]
  cases d <;> simp_all [aggD]
theorem run_part_five (g : Nat → Int) (i : Nat) (h : i < 5) (W : World) : (part 2 (five g) i).run Try.prog W = .ok (.int .i64 (g i)) W := by
  have h1 : (five g)[i]? = some (.int .i64 (g i)) := by rw [Array.getElem?_eq_getElem (by rw [five_size]; exact h), five_get]
  simp [part, Sem.run_bind, run_isAgg_not Try.underlying2 rfl, h1]
theorem run_eqItems_five (d : Nat) (g h : Nat → Int) (W : World) : ∀ is : List Nat, (∀ i ∈ is, i < 5) → (Op.eqItems (d + 1) 2 1 (five g) (five h) is).run Try.prog W = .ok (is.all fun i => g i == h i) W
  | [], _ => by simp [Op.eqItems]
  | i :: is, hi => by
    have h1 := hi i (List.mem_cons_self ..)
    have ih := run_eqItems_five d g h W is fun j hj => hi j (List.mem_cons_of_mem _ hj)
    simp only [Op.eqItems, Sem.run_bind, Nat.mul_one, run_part_five _ _ h1, Result.andThen_ok, run_equalIn_int W d 2 .i64 .i64 _ _ Try.underlying2, List.all_cons]
    cases hc : (g i == h i)
    · simp
    · simpa using ih
theorem run_equal_five (d : Nat) (g h : Nat → Int) (W : World) : (Op.equalIn (d + 2) 22 (.agg (five g)) (.agg (five h))).run Try.prog W = .ok (same5 g h) W := by
  obtain ⟨i, hi, _⟩ : ∃ i, Try.prog.info? 2 = some i ∧ True := ⟨_, rfl, trivial⟩
  rw [show d + 2 = (d + 1) + 1 from rfl, run_equalIn_array W (d + 1) (five g) (five h) Try.underlying22 hi, cells_i64]
  exact run_eqItems_five d g h W (List.range 5) fun i h => by simpa using h

theorem box_frozen {w1 w2 : World} {cs : Array Value} {t : TypeId} (k : Below (w1.alloc (.cells cs t)).heap.size (w1.alloc (.cells cs t)) w2) (j : Nat) : w2.frozen? ⟨w1.heap.size, j, none⟩ = false := by
  rw [k.frozen (p := ⟨w1.heap.size, j, none⟩) (by simp)]
  simp

theorem cell_over {V w2 : World} {a : Addr} {v : Value} (k : Below V.heap.size V w2) (hv : V.cell? a = some v) : w2.cell? a = some v := (k.cell (block_lt_of_cell hv)).trans hv
theorem frozen_over {V w2 : World} {a : Addr} {v : Value} (k : Below V.heap.size V w2) (hv : V.cell? a = some v) (hf : V.frozen? a = false) : w2.frozen? a = false := (k.frozen (block_lt_of_cell hv)).trans hf

theorem box_cell_drew {w1 w2 : World} {cs : Array Value} {t : TypeId} (k : Below (w1.alloc (.cells cs t)).drew.heap.size (w1.alloc (.cells cs t)).drew w2) (j : Nat) (v : Value) (hv : cs[j]? = some v) : w2.cell? ⟨w1.heap.size, j, none⟩ = some v :=
  cell_over k ((World.cell?_alloc_new (w := w1) cs t j).trans hv)
theorem box_frozen_drew {w1 w2 : World} {cs : Array Value} {t : TypeId} (k : Below (w1.alloc (.cells cs t)).drew.heap.size (w1.alloc (.cells cs t)).drew w2) (j : Nat) : w2.frozen? ⟨w1.heap.size, j, none⟩ = false :=
  (k.frozen (p := ⟨w1.heap.size, j, none⟩) (show w1.heap.size < (w1.alloc (.cells cs t)).heap.size by simp)).trans (World.frozen?_alloc_new w1 cs t j)

/-- The postings of a slice. -/
def PostsAt (w : World) (a : Option Addr) (ps : List (Int × Int × Int)) : Prop :=
  ps = [] ∨ ∃ b off, a = some ⟨b, off, none⟩ ∧ b < w.heap.size ∧ ∀ i (h : i < ps.length), w.cell? ⟨b, off + i * 3, none⟩ = some (.int .i64 ps[i].1) ∧ w.cell? ⟨b, off + i * 3 + 1, none⟩ = some (.int .i64 ps[i].2.1) ∧ w.cell? ⟨b, off + i * 3 + 2, none⟩ = some (.int .i64 ps[i].2.2)

theorem cells_posting : Try.prog.cellsOf 28 = 3 := by kernel_rfl
theorem posts_of {w : World} {a : Option Addr} {n c : Nat} (h : Rd Try.prog w 23 [.slice a n c]) : ∃ ps : List (Int × Int × Int), ps.length = n ∧ PostsAt w a ps ∧ n ≤ maxLen ∧ ∀ p ∈ ps, I64 p.1 ∧ I64 p.2.1 ∧ I64 p.2.2 := by
  obtain ⟨a', n', c', e, hn, hc, hr, _⟩ := h.slice_at Try.underlying23 cells_posting (by decide)
  injection e with e _
  injection e with e1 e2 e3
  subst e1 e2 e3
  have key : ∀ i, i < n → ∃ p : Int × Int × Int, (I64 p.1 ∧ I64 p.2.1 ∧ I64 p.2.2) ∧ ∃ b off, a = some ⟨b, off, none⟩ ∧ b < w.heap.size ∧
      w.cell? ⟨b, off + i * 3, none⟩ = some (.int .i64 p.1) ∧ w.cell? ⟨b, off + i * 3 + 1, none⟩ = some (.int .i64 p.2.1) ∧ w.cell? ⟨b, off + i * 3 + 2, none⟩ = some (.int .i64 p.2.2) := by
    intro i hi
    rcases hr with h0 | ⟨b, off, rfl, hb, hrow⟩
    · omega
    · obtain ⟨cs, hl, hat, hrd⟩ := hrow i (by omega)
      obtain ⟨f, t, s, rfl, hw⟩ := rd_posting hrd
      exact ⟨(f, t, s), hw, b, off, rfl, hb, hat 0 (by decide), hat 1 (by decide), hat 2 (by decide)⟩
  refine ⟨(List.range n).map fun i => if h : i < n then Classical.choose (key i h) else (0, 0, 0), by simp, ?_, by omega, ?_⟩
  · by_cases h0 : n = 0
    · exact .inl (by simp [h0])
    · rcases hr with h1 | ⟨b, off, rfl, hb, _⟩
      · omega
      · refine .inr ⟨b, off, rfl, hb, fun i hi => ?_⟩
        simp only [List.length_map, List.length_range] at hi
        simp only [List.getElem_map, List.getElem_range, dif_pos hi]
        obtain ⟨_, b', off', e, _, h⟩ := Classical.choose_spec (key i hi)
        injection e with e
        injection e with e1 e2
        subst e1 e2
        exact h
  · intro p hp
    obtain ⟨i, hi, rfl⟩ := List.mem_map.1 hp
    have hi := List.mem_range.1 hi
    simp only [dif_pos hi]
    exact (Classical.choose_spec (key i hi)).1

/-- Five sums in a box. -/
structure FiveAt (w : World) (p : Nat) (g : Nat → Int) : Prop where
  lt : p < w.heap.size
  fz : ∀ j, w.frozen? ⟨p, j, none⟩ = false
  c0 : w.cell? ⟨p, 0, none⟩ = some (.int .i64 (g 0))
  c1 : w.cell? ⟨p, 1, none⟩ = some (.int .i64 (g 1))
  c2 : w.cell? ⟨p, 2, none⟩ = some (.int .i64 (g 2))
  c3 : w.cell? ⟨p, 3, none⟩ = some (.int .i64 (g 3))
  c4 : w.cell? ⟨p, 4, none⟩ = some (.int .i64 (g 4))
theorem FiveAt.below {w w' : World} {p B : Nat} {g : Nat → Int} (h : FiveAt w p g) (k : Below B w w') (hB : p < B) : FiveAt w' p g :=
  ⟨Nat.lt_of_lt_of_le h.lt k.size, fun j => (k.frozen (p := ⟨p, j, none⟩) hB).trans (h.fz j), (k.cell (p := ⟨p, 0, none⟩) hB).trans h.c0, (k.cell (p := ⟨p, 1, none⟩) hB).trans h.c1, (k.cell (p := ⟨p, 2, none⟩) hB).trans h.c2, (k.cell (p := ⟨p, 3, none⟩) hB).trans h.c3, (k.cell (p := ⟨p, 4, none⟩) hB).trans h.c4⟩
theorem five_new (w : World) (g : Nat → Int) (t : TypeId) : FiveAt (w.alloc (.cells (five g) t)) w.heap.size g :=
  ⟨by simp, fun j => World.frozen?_alloc_new w (five g) t j, (World.cell?_alloc_new (w := w) (five g) t 0), (World.cell?_alloc_new (w := w) (five g) t 1), (World.cell?_alloc_new (w := w) (five g) t 2), (World.cell?_alloc_new (w := w) (five g) t 3), (World.cell?_alloc_new (w := w) (five g) t 4)⟩
theorem FiveAt.other {w : World} {p q : Nat} {g : Nat → Int} (h : FiveAt w p g) (hq : p ≠ q) (j : Nat) (v : Value) : FiveAt (w.setCell ⟨q, j, none⟩ v) p g := by
  have hn : ∀ i, (⟨q, j, none⟩ : Addr) ≠ ⟨p, i, none⟩ := fun i e => by injection e with e; exact hq e.symm
  exact ⟨by simpa [setCell_size] using h.lt, fun i => by simpa using h.fz i, (World.cell?_setCell_other _ _ _ _ (hn 0)).trans h.c0, (World.cell?_setCell_other _ _ _ _ (hn 1)).trans h.c1, (World.cell?_setCell_other _ _ _ _ (hn 2)).trans h.c2, (World.cell?_setCell_other _ _ _ _ (hn 3)).trans h.c3, (World.cell?_setCell_other _ _ _ _ (hn 4)).trans h.c4⟩
theorem FiveAt.drew {w : World} {p : Nat} {g : Nat → Int} (h : FiveAt w p g) : FiveAt w.drew p g := ⟨h.lt, h.fz, h.c0, h.c1, h.c2, h.c3, h.c4⟩
theorem FiveAt.get {w : World} {p : Nat} {g : Nat → Int} (h : FiveAt w p g) (j : Nat) (hj : j < 5) : w.cell? ⟨p, j, none⟩ = some (.int .i64 (g j)) := by
  match j, hj with
  | 0, _ => exact h.c0
  | 1, _ => exact h.c1
  | 2, _ => exact h.c2
  | 3, _ => exact h.c3
  | 4, _ => exact h.c4
theorem FiveAt.drewN {w : World} {p : Nat} {g : Nat → Int} (h : FiveAt w p g) (n : Nat) : FiveAt (w.drewN n) p g := ⟨h.lt, h.fz, h.c0, h.c1, h.c2, h.c3, h.c4⟩
theorem FiveAt.store {w : World} {p : Nat} {g : Nat → Int} (h : FiveAt w p g) (i : Nat) (hi : i < 5) (v : Int) : FiveAt (w.setCell ⟨p, i, none⟩ (.int .i64 v)) p (turned g i v) := by
  have key : ∀ j, j < 5 → (w.setCell ⟨p, i, none⟩ (.int .i64 v)).cell? ⟨p, j, none⟩ = some (.int .i64 (turned g i v j)) := by
    intro j hj
    unfold turned
    by_cases e : j = i
    · subst e
      rw [if_pos rfl]
      exact cell_same (h.get j hj)
    · rw [if_neg e, cell_other e]
      exact h.get j hj
  exact ⟨by simpa [setCell_size] using h.lt, fun j => by simpa using h.fz j, key 0 (by decide), key 1 (by decide), key 2 (by decide), key 3 (by decide), key 4 (by decide)⟩

/-- A posting in a box. -/
structure PostAt (w : World) (p : Nat) (f t s : Int) : Prop where
  lt : p < w.heap.size
  c0 : w.cell? ⟨p, 0, none⟩ = some (.int .i64 f)
  c1 : w.cell? ⟨p, 1, none⟩ = some (.int .i64 t)
  c2 : w.cell? ⟨p, 2, none⟩ = some (.int .i64 s)
theorem PostAt.below {w w' : World} {p B : Nat} {f t s : Int} (h : PostAt w p f t s) (k : Below B w w') (hB : p < B) : PostAt w' p f t s :=
  ⟨Nat.lt_of_lt_of_le h.lt k.size, (k.cell (p := ⟨p, 0, none⟩) hB).trans h.c0, (k.cell (p := ⟨p, 1, none⟩) hB).trans h.c1, (k.cell (p := ⟨p, 2, none⟩) hB).trans h.c2⟩
theorem post_new (w : World) (f t s : Int) (T : TypeId) : PostAt (w.alloc (.cells (posting f t s) T)) w.heap.size f t s :=
  ⟨by simp, (World.cell?_alloc_new (w := w) (posting f t s) T 0), (World.cell?_alloc_new (w := w) (posting f t s) T 1), (World.cell?_alloc_new (w := w) (posting f t s) T 2)⟩
theorem PostAt.drewN {w : World} {p : Nat} {f t s : Int} (h : PostAt w p f t s) (n : Nat) : PostAt (w.drewN n) p f t s := ⟨h.lt, h.c0, h.c1, h.c2⟩
theorem PostAt.drew {w : World} {p : Nat} {f t s : Int} (h : PostAt w p f t s) : PostAt w.drew p f t s := ⟨h.lt, h.c0, h.c1, h.c2⟩
theorem PostAt.other {w : World} {p q : Nat} {f t s : Int} (h : PostAt w p f t s) (hq : p ≠ q) (j : Nat) (v : Value) : PostAt (w.setCell ⟨q, j, none⟩ v) p f t s := by
  have hn : ∀ i, (⟨q, j, none⟩ : Addr) ≠ ⟨p, i, none⟩ := fun i e => by injection e with e; exact hq e.symm
  exact ⟨by simpa [setCell_size] using h.lt, (World.cell?_setCell_other _ _ _ _ (hn 0)).trans h.c0, (World.cell?_setCell_other _ _ _ _ (hn 1)).trans h.c1, (World.cell?_setCell_other _ _ _ _ (hn 2)).trans h.c2⟩
theorem FiveAt.alloc {w : World} {p : Nat} {g : Nat → Int} (h : FiveAt w p g) (o : Obj) : FiveAt (w.alloc o) p g := h.below ((Below.refl w.heap.size w).alloc (Nat.le_refl _) o) h.lt
theorem PostAt.alloc {w : World} {p : Nat} {f t s : Int} (h : PostAt w p f t s) (o : Obj) : PostAt (w.alloc o) p f t s := h.below ((Below.refl w.heap.size w).alloc (Nat.le_refl _) o) h.lt

theorem posted_from {g : Nat → Int} {f t s : Int} (h : f.toNat ≠ t.toNat) : posted g f t s f.toNat = g f.toNat - s := by unfold posted turned; rw [if_neg h, if_pos rfl]
theorem posted_to {g : Nat → Int} {f t s : Int} : posted g f t s t.toNat = g t.toNat + s := by unfold posted turned; rw [if_pos rfl]
theorem posted_other {g : Nat → Int} {f t s : Int} {k : Nat} (h : k ≠ f.toNat) (h' : k ≠ t.toNat) : posted g f t s k = g k := by unfold posted turned; rw [if_neg h', if_neg h]
theorem postE_yes {g : Nat → Int} {f t s : Int} (h : postE g f t s = 0) : goodArgs f t s = true ∧ (Rt (g f.toNat) && Rt s && Rt (g f.toNat - s)) = true ∧ (Rt (g t.toNat) && Rt s && Rt (g t.toNat + s)) = true := by
  unfold postE at h
  split at h
  · rename_i h1
    split at h
    · rename_i h2
      rw [Bool.and_eq_true] at h2
      exact ⟨h1, h2.1, h2.2⟩
    · cases h
  · cases h
theorem goodArgs_iff {f t s : Int} : goodArgs f t s = true ↔ 0 ≤ f ∧ f < 5 ∧ 0 ≤ t ∧ t < 5 ∧ f ≠ t ∧ 0 ≤ s := by unfold goodArgs; exact decide_eq_true_iff
theorem postL_yes {g : Nat → Int} {f t s : Int} (h : postE g f t s = 0) : postL g f t s = posted g f t s := by unfold postL; rw [if_pos h]
theorem postL_no {g : Nat → Int} {f t s : Int} (h : postE g f t s ≠ 0) : postL g f t s = fun _ => 0 := by unfold postL; rw [if_neg h]

theorem ledger_awake (w : World) : Calls Try.prog 7 #[] w fun e w' => e = .returned (.bool true) ∧ Below w.heap.size w w' := by
  have hP : ∀ W : World, Calls Try.prog 8 #[.agg #[.int .i64 0, .int .i64 0, .int .i64 0, .int .i64 0, .int .i64 0], .int .i64 0, .int .i64 1, .int .i64 5] W fun e w' => e = .returned (.tuple #[.agg #[.int .i64 (-5), .int .i64 5, .int .i64 0, .int .i64 0, .int .i64 0], .int .i64 0]) ∧ Below W.heap.size W w' := by
    intro W
    have := ledger_post (fun _ => 0) 0 1 5 W
    rw [show postE (fun _ => 0) 0 1 5 = 0 by decide +kernel, show five (postL (fun _ => 0) 0 1 5) = #[.int .i64 (-5), .int .i64 5, .int .i64 0, .int .i64 0, .int .i64 0] by rfl] at this
    exact this
  have hB : ∀ (k : Int) (W : World), Calls Try.prog 10 #[.agg #[.int .i64 (-5), .int .i64 5, .int .i64 0, .int .i64 0, .int .i64 0], .int .i64 k] W fun e w' => e = .returned (.int .i64 (balanceOf (fun i => if i = 0 then -5 else if i = 1 then 5 else 0) k)) ∧ Below W.heap.size W w' := by
    intro k W
    have := ledger_balance (fun i => if i = 0 then -5 else if i = 1 then 5 else 0) k W
    rw [show five (fun i => if i = 0 then -5 else if i = 1 then 5 else 0) = #[.int .i64 (-5), .int .i64 5, .int .i64 0, .int .i64 0, .int .i64 0] by rfl] at this
    exact this
  have HP : Aside _ := hP
  have hB0 := hB 0
  have hB1 := hB 1
  rw [show balanceOf (fun i => if i = 0 then -5 else if i = 1 then 5 else 0) 0 = -5 by decide +kernel] at hB0
  rw [show balanceOf (fun i => if i = 0 then -5 else if i = 1 then 5 else 0) 1 = 5 by decide +kernel] at hB1
  have HB0 : Aside _ := hB0
  have HB1 : Aside _ := hB1
  clear hP hB hB0 hB1
  go_enter Try.func7, Try.ntmps7
  go_wp2_with fail
  refine (HP.out _).mono ?_
  rintro e w1 ⟨rfl, b1⟩
  go_wp2_with fail
  refine (HB0.out _).mono ?_
  rintro e w2 ⟨rfl, b2⟩
  have b3 := below_box b1 b2
  have c0 := box_cell b2 0 _ rfl
  have c1 := box_cell b2 1 _ rfl
  have c2 := box_cell b2 2 _ rfl
  have c3 := box_cell b2 3 _ rfl
  have c4 := box_cell b2 4 _ rfl
  go_wp2_with fail
  refine (HB1.out _).mono ?_
  rintro e w4 ⟨rfl, b4⟩
  have b5 := b3.trans (b4.mono b3.size)
  go_wp2
  go_ret
  exact ⟨rfl, b5⟩

theorem below_alloc1 {w w' : World} (h : Below w.heap.size w w') (o : Obj) : Below w.heap.size w (w'.alloc o) := h.alloc h.size o

theorem below_setnew {w w' : World} {p : Addr} (h : Below w.heap.size w w') (hp : w.heap.size ≤ p.block) (u : Value) : Below w.heap.size w (w'.setCell p u) := h.setCell hp u

/-- A posting, over what has turned so far. -/
theorem post_over {w W : World} {g : Nat → Int} {f t s : Int} (h : Below w.heap.size w W) :
    Calls Try.prog 8 #[.agg #[.int .i64 (g 0), .int .i64 (g 1), .int .i64 (g 2), .int .i64 (g 3), .int .i64 (g 4)], .int .i64 f, .int .i64 t, .int .i64 s] W
      fun e w' => e = .returned (.tuple #[.agg #[.int .i64 (postL g f t s 0), .int .i64 (postL g f t s 1), .int .i64 (postL g f t s 2), .int .i64 (postL g f t s 3), .int .i64 (postL g f t s 4)], .int .i64 (postE g f t s)]) ∧ Below w.heap.size w w' ∧ Below W.heap.size W w' :=
  (ledger_post g f t s W).mono fun _ _ k => ⟨k.1, h.trans (k.2.mono h.size), k.2⟩
end Go.Proofs.Ytaboaljpnacnfaa
