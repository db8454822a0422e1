/-
  The disk of package disk: Clone. Conditions: those of each theorem ('DiskAt': the pointer leads to a disk that holds D).
-/
import Derived.Test.YteipcbpkgpffjaaDoorDiskH
import Derived.Deep.WholeRow
namespace Go.Proofs.YteipcbpkgpffjaaDoor
open Go.RowKit
set_option maxRecDepth 100000

theorem wpList_store_new {P : Program} {ops : Array Oper} {rest : List Oper} {op : Oper} {a : Act} {W : World} {Q : Exit → Act → World → Prop} (hgd : op.guard = none) (ty : TypeId) (x y : Operand) (ho : op.op = .store ty x y)
    (c cells : Array Value) (hx : a.eval x = .pointer (some ⟨W.heap.size, 0, none⟩)) (hy : a.eval y = .agg cells) (hi : (P.info? ty).map (·.size) = some cells.size) (hc : c.size = cells.size) (h1 : cells.all (·.oneCell') = true)
    (h : wpList P ops Q rest (a.put op.dst undef) (W.alloc (.cells cells ty))) : wpList P ops Q (op :: rest) a (W.alloc (.cells c ty)) :=
  wpList_plain hgd fun _ hK => by
    unfold Oper.wp execOp
    simp only [ho, hx, hy, Sem.run_bind, run_storeAt_new W ty c cells hi hc h1, Result.andThen_ok, Sem.run_pure]
    exact hK _ _ h

/-- A disk whose first k files have been cloned: block q; the values of the others are those of V. -/
structure Half (w : World) (q B : Nat) (V V' : Nat → Value) (D : DM) (k : Nat) : Prop where
  blk : ∃ cur, w.heap[q]? = some (.cells cur 61 (0, 0)) ∧ cur.size = 28
  c0 : w.cell? ⟨q, 0, none⟩ = some (.int .i64 (D.cap : Int))
  has : ∀ i, i < 8 → w.cell? ⟨q, 1 + i * 3, none⟩ = some (.bool (D.f i).has)
  val : ∀ i, i < 8 → w.cell? ⟨q, 1 + i * 3 + 1, none⟩ = some (if i < k then V' i else V i)
  safe : ∀ i, i < 8 → w.cell? ⟨q, 1 + i * 3 + 2, none⟩ = some (.int .i64 ((D.f i).safe : Int))
  c25 : w.cell? ⟨q, 25, none⟩ = some (.bool D.lit)
  c26 : w.cell? ⟨q, 26, none⟩ = some (.int .i64 (D.fuse : Int))
  c27 : w.cell? ⟨q, 27, none⟩ = some (.bool D.lost)
  row : ∀ i, i < k → w.ownsRow B 5 1 (V' i) (D.f i).b.length ((D.f i).b.map bval)
  apart : ∀ i j, i < k → j < k → i ≠ j → ∀ g, (V' i).ownBlock = some g → (V' j).ownBlock ≠ some g

theorem Half.done {w : World} {q B : Nat} {V V' : Nat → Value} {D : DM} (h : Half w q B V V' D 8) (hok : D.ok) (hq : q < B) :
    DiskAt w q (fun k => k = q ∨ ∃ i, i < 8 ∧ (V' i).ownBlock = some k) V' D := by
  refine ⟨hok, .inl rfl, ?_, h.blk, h.c0, h.has, ?_, h.safe, h.c25, h.c26, h.c27, ?_, ?_, h.apart⟩
  · rintro k (rfl | ⟨i, hi, hk⟩)
    · exact World.block_lt_of_cell? _ _ h.c0
    · exact ((h.row i hi).lt k hk).2
  · intro i hi; have := h.val i hi; rwa [if_pos hi] at this
  · intro i hi
    obtain ⟨h1, h2⟩ := h.row i hi
    exact ⟨h1, h2.elim .inl fun ⟨g, cap, cur, hv, _, r⟩ => .inr ⟨g, cap, cur, hv, Nat.zero_le _, r⟩⟩
  · intro i hi g hg
    exact ⟨.inr ⟨i, hi, hg⟩, by have := ((h.row i hi).lt g hg).1; omega⟩

theorem Half.step {w w1 : World} {q B : Nat} {V V' : Nat → Value} {D : DM} {k : Nat} (h : Half w q B V V' D k) (hk : k < 8) (hq : q < w.heap.size) (hB : B ≤ w.heap.size) (hb : Below w.heap.size w w1) {v : Value}
    (hr : w1.ownsRow w.heap.size 5 1 v (D.f k).b.length ((D.f k).b.map bval)) (hold : ∃ u, w1.cell? ⟨q, 1 + k * 3 + 1, none⟩ = some u) :
    Half (w1.setCell ⟨q, 1 + k * 3 + 1, none⟩ v) q B V (fun i => if i = k then v else V' i) D (k + 1) := by
  have e := fun o => hb.cell (p := ⟨q, o, none⟩) hq
  have hlt : ∀ i, i < k → ∀ g, (V' i).ownBlock = some g → g < w.heap.size := fun i hi g hg => ((h.row i hi).lt g hg).2
  have hge : ∀ g, v.ownBlock = some g → w.heap.size ≤ g := fun g hg => (hr.lt g hg).1
  obtain ⟨u, hu⟩ := hold
  refine ⟨?_, ?_, ?_, ?_, ?_, ?_, ?_, ?_, ?_, ?_⟩
  · obtain ⟨cur, h1, h2⟩ := h.blk
    rw [← hb.block q hq] at h1
    exact ⟨_, setCell_heap_at h1, by simpa using h2⟩
  · rw [cell_other (by omega), e]; exact h.c0
  · intro i hi; rw [cell_other (by omega), e]; exact h.has i hi
  · intro i hi
    by_cases h1 : i = k
    · subst h1; simp only [Nat.lt_succ_self, if_true]; exact cell_same hu
    · rw [cell_other (by omega), e, h.val i hi]
      by_cases h2 : i < k
      · have h3 : i < k + 1 := by omega
        simp only [h1, h2, h3, if_true, if_false]
      · have h3 : ¬ i < k + 1 := by omega
        simp only [h2, h3, if_false]
  · intro i hi; rw [cell_other (by omega), e]; exact h.safe i hi
  · rw [cell_other (by omega), e]; exact h.c25
  · rw [cell_other (by omega), e]; exact h.c26
  · rw [cell_other (by omega), e]; exact h.c27
  · intro i hi
    by_cases h1 : i = k
    · subst h1
      simp only [if_true]
      have h2 := ownsRow_upd hr (upd_set (p := q) (1 + i * 3 + 1) v) (fun g hg x => by have := hge g hg; omega)
      obtain ⟨h3, h4⟩ := h2
      exact ⟨h3, h4.elim .inl fun ⟨g, cap, cur, hv, hg, r⟩ => .inr ⟨g, cap, cur, hv, Nat.le_trans hB hg, r⟩⟩
    · simp only [h1, if_false]
      have h2 : i < k := by omega
      refine ownsRow_upd (S := fun x => x = q) (ownsRow_upd (h.row i h2) (below_upd (fun _ => False) hb) (fun _ _ x => x)) (upd_set _ _) ?_
      intro g hg x
      obtain ⟨cur, h3, _⟩ := h.blk
      have hx : g = q := x
      subst hx
      rcases (h.row i h2).2 with ⟨h4, _⟩ | ⟨g', _, cur', h4, _, h5, _⟩
      · rw [h4] at hg; cases hg
      · rw [h4] at hg
        have : g' = g := by simpa [Value.ownBlock] using hg
        subst this
        rw [h3] at h5
        injection h5 with h5
        injection h5 with _ h6 _
        revert h6
        decide
  · intro i j hi hj hij g
    by_cases h1 : i = k
    · subst h1
      have h2 : ¬ j = i := fun x => hij x.symm
      simp only [h2, if_true, if_false]
      intro hg hx
      have := hge g hg
      have := hlt j (by omega) g hx
      omega
    · simp only [h1, if_false]
      by_cases h2 : j = k
      · subst h2
        simp only [if_true]
        intro hx hg
        have := hge g hg
        have := hlt i (by omega) g hx
        omega
      · simp only [h2, if_false]
        exact h.apart i j (by omega) (by omega) hij g

theorem DiskAt.one {w : World} {p : Nat} {S : Nat → Prop} {V : Nat → Value} {D : DM} (h : DiskAt w p S V D) {cur : Array Value} (hc : w.heap[p]? = some (.cells cur 61 (0, 0))) (hs : cur.size = 28) : cur.all (·.oneCell') = true := by
  rw [Array.all_eq_true]
  intro i hi
  have hv : w.cell? ⟨p, i, none⟩ = some cur[i] := by rw [cell_of_row w p i cur _ _ hc]; exact Array.getElem?_eq_getElem hi
  have key : ∀ v, w.cell? ⟨p, i, none⟩ = some v → v.oneCell' = true → cur[i].oneCell' = true := by
    intro v h1 h2
    rw [hv] at h1
    injection h1 with h1
    rw [h1]; exact h2
  by_cases h0 : i = 0
  · subst h0; exact key _ h.c0 rfl
  by_cases h25 : i = 25
  · subst h25; exact key _ h.c25 rfl
  by_cases h26 : i = 26
  · subst h26; exact key _ h.c26 rfl
  by_cases h27 : i = 27
  · subst h27; exact key _ h.c27 rfl
  have hj : (i - 1) / 3 < 8 := by omega
  obtain ⟨a, c, hvv⟩ := h.slice _ hj
  have hm : (i - 1) % 3 = 0 ∨ (i - 1) % 3 = 1 ∨ (i - 1) % 3 = 2 := by omega
  rcases hm with hm | hm | hm
  · have e : i = 1 + (i - 1) / 3 * 3 := by omega
    exact key _ (by rw [e]; exact h.has _ hj) rfl
  · have e : i = 1 + (i - 1) / 3 * 3 + 1 := by omega
    exact key (V ((i - 1) / 3)) (by rw [e]; rw [show (1 + (i - 1) / 3 * 3 + 1 - 1) / 3 = (i - 1) / 3 by omega]; exact h.val _ hj) (by rw [hvv]; rfl)
  · have e : i = 1 + (i - 1) / 3 * 3 + 2 := by omega
    exact key _ (by rw [e]; exact h.safe _ hj) rfl

end Go.Proofs.YteipcbpkgpffjaaDoor
