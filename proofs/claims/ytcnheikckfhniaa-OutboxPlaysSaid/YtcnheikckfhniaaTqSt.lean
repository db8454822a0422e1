/-
  Package timer: timers, whether anything was ever set or not; Len, first, Next, Day, All, Clone. Conditions: those of each theorem.
-/
import Derived.Test.YtcnheikckfhniaaTq
namespace Go.Proofs.Ytcnheikckfhniaa
open Go.RowKit
set_option maxRecDepth 100000

/-- Timers whose blocks are among S; no timer is ahead of its parent. -/
def TimSt (w : World) (p o : Nat) (S : Nat → Prop) (xs : List Tm) : Prop :=
  S p ∧ p < w.heap.size ∧ HeapTo xs xs.length ∧
    ((xs = [] ∧ w.cell? ⟨p, o, none⟩ = some (.slice none 0 0) ∧ w.cell? ⟨p, o + 1, none⟩ = some (.map none) ∧ ∀ j, w.frozen? ⟨p, j, none⟩ = false) ∨ ∃ g m c, S g ∧ S m ∧ TimAt w p o g m c xs)
section
variable {w w' : World} {p o : Nat} {S S' : Nat → Prop} {xs : List Tm}
theorem TimSt.mono (h : TimSt w p o S xs) (hs : ∀ k, S k → S' k) : TimSt w p o S' xs := by
  obtain ⟨h1, h2, h3, h4⟩ := h
  exact ⟨hs _ h1, h2, h3, h4.imp (fun x => x) (fun ⟨g, m, c, a, b, d⟩ => ⟨g, m, c, hs _ a, hs _ b, d⟩)⟩
theorem TimSt.upd (h : TimSt w p o S xs) (hu : Upd S' w w') (hn : ∀ k, S k → ¬ S' k) : TimSt w' p o S xs := by
  obtain ⟨h1, h2, h3, h4⟩ := h
  refine ⟨h1, Nat.lt_of_lt_of_le h2 hu.size, h3, ?_⟩
  rcases h4 with ⟨a, b, c, d⟩ | ⟨g, m, c, a, b, d⟩
  · exact .inl ⟨a, (hu.cell (p := ⟨p, o, none⟩) h2 (hn _ h1)).trans b, (hu.cell (p := ⟨p, o + 1, none⟩) h2 (hn _ h1)).trans c, fun j => (hu.frozen (p := ⟨p, j, none⟩) h2 (hn _ h1)).trans (d j)⟩
  · exact .inr ⟨g, m, c, a, b, d.upd hu (hn _ h1) (hn _ a) (hn _ b)⟩
theorem TimSt.below (h : TimSt w p o S xs) (hb : Below w.heap.size w w') : TimSt w' p o S xs := h.upd (S' := fun _ => False) (Upd.below hb) (fun _ _ x => x)
theorem TimSt.few (h : TimSt w p o S xs) : xs.length ≤ 1000 := by
  obtain ⟨-, -, -, h4⟩ := h
  rcases h4 with ⟨a, _⟩ | ⟨g, m, c, a, b, d⟩
  · rw [a]; exact Nat.zero_le _
  · exact d.few
theorem TimSt.w64 (h : TimSt w p o S xs) : ∀ x ∈ xs, W64 x.2 := by
  obtain ⟨-, -, -, h4⟩ := h
  rcases h4 with ⟨a, _⟩ | ⟨g, m, c, a, b, d⟩
  · rw [a]; exact fun x hx => by cases hx
  · exact d.w64
theorem TimSt.box (h : TimSt w p o S xs) : ∃ a c, w.cell? ⟨p, o, none⟩ = some (.slice a xs.length c) := by
  obtain ⟨-, -, -, h4⟩ := h
  rcases h4 with ⟨a, b, _⟩ | ⟨g, m, c, a, b, d⟩
  · rw [a]; exact ⟨none, 0, b⟩
  · exact ⟨_, c, d.c0⟩
theorem TimSt.made (h : TimSt w p o S xs) (h0 : xs ≠ []) : ∃ g m c, S g ∧ S m ∧ TimAt w p o g m c xs := by
  obtain ⟨-, -, -, h4⟩ := h
  rcases h4 with ⟨a, _⟩ | h4
  · exact absurd a h0
  · exact h4
/-- No number twice. -/
def ND (xs : List Tm) : Prop := xs.Pairwise (fun x y => x.2 ≠ y.2)
theorem nd_of {xs : List Tm} {ix : Int → Option Nat} (h : IxOk xs ix) : ND xs := by
  unfold ND
  rw [List.pairwise_iff_getElem]
  intro i j hi hj hij e
  rw [← tget_eq hi, ← tget_eq hj] at e
  have := h.inj hi hj e
  omega
theorem TimSt.nd (h : TimSt w p o S xs) : ND xs := by
  obtain ⟨-, -, -, h4⟩ := h
  rcases h4 with ⟨a, _⟩ | ⟨g, m, c, a, b, d⟩
  · rw [a]; exact List.Pairwise.nil
  · obtain ⟨ix, _, hix⟩ := d.mp
    exact nd_of hix
end
theorem TimSt.bare {w : World} {p o : Nat} {S : Nat → Prop} (hs : S p) (hl : p < w.heap.size) (h0 : w.cell? ⟨p, o, none⟩ = some (.slice none 0 0)) (h1 : w.cell? ⟨p, o + 1, none⟩ = some (.map none)) (hf : ∀ j, w.frozen? ⟨p, j, none⟩ = false) : TimSt w p o S [] :=
  ⟨hs, hl, fun _ _ hk => absurd hk (Nat.not_lt_zero _), .inl ⟨rfl, h0, h1, hf⟩⟩
/-- Another cell of the block is stored to. -/
theorem TimSt.other {w : World} {p o : Nat} {S : Nat → Prop} {xs : List Tm} (h : TimSt w p o S xs) {j : Nat} (h1 : j ≠ o) (h2 : j ≠ o + 1) (u : Value) : TimSt (w.setCell ⟨p, j, none⟩ u) p o S xs := by
  have hu : Upd (fun k => k = p) w (w.setCell ⟨p, j, none⟩ u) := upd_set _ _
  obtain ⟨a1, a2, a3, a4⟩ := h
  refine ⟨a1, Nat.lt_of_lt_of_le a2 hu.size, a3, ?_⟩
  rcases a4 with ⟨b1, b2, b3, b4⟩ | ⟨g, m, c, b1, b2, d⟩
  · exact .inl ⟨b1, (cell_other (fun e => h1 e.symm)).trans b2, (cell_other (fun e => h2 e.symm)).trans b3, fun j => by rw [World.frozen?_setCell]; exact b4 j⟩
  · obtain ⟨ix, m1, m2⟩ := d.mp
    exact .inr ⟨g, m, c, b1, b2, ⟨⟨Nat.lt_of_lt_of_le d.lt hu.size, (cell_other (fun e => h1 e.symm)).trans d.c0, (cell_other (fun e => h2 e.symm)).trans d.c1, fun j => by rw [World.frozen?_setCell]; exact d.fz j,
      ownsRow_upd d.row hu (fun k hk => by cases hk; exact fun e => d.pg e.symm), d.pg, d.w64, d.few⟩, ⟨ix, m1.upd hu (fun e => d.gm.2 e.symm), m2⟩⟩⟩
/-- The blocks that are in use by now. -/
theorem TimSt.lower {w : World} {p o : Nat} {S : Nat → Prop} {xs : List Tm} (h : TimSt w p o S xs) : TimSt w p o (fun k => S k ∧ k < w.heap.size) xs := by
  obtain ⟨h1, h2, h3, h4⟩ := h
  exact ⟨⟨h1, h2⟩, h2, h3, h4.imp (fun x => x) (fun ⟨g, m, c, a, b, d⟩ => ⟨g, m, c, ⟨a, d.glt⟩, ⟨b, d.mlt⟩, d⟩)⟩
/-- By day, of the same day by number, no two the same. -/
def Srt (xs : List Tm) : Prop := xs.Pairwise (fun x y => tlt x y = true)

theorem tim_len {w : World} {p o : Nat} {S : Nat → Prop} {xs : List Tm} (h : TimSt w p o S xs) : Calls Try.prog 35 #[.pointer (some ⟨p, o, none⟩)] w fun e w' => e = .returned (.int .i64 xs.length) ∧ w = w' := by
  obtain ⟨a, c, h0⟩ := h.box
  have hn := h.few
  clear h
  generalize xs.length = n at *
  go_enter Try.func35, Try.ntmps35
  go_wp2
  go_ret
  exact ⟨rfl, rfl⟩
theorem tim_len_nil (w : World) : Calls Try.prog 35 #[.pointer none] w fun e w' => e = .returned (.int .i64 0) ∧ w = w' := by
  go_enter Try.func35, Try.ntmps35
  go_wp2
  go_ret
  exact ⟨rfl, rfl⟩
theorem tim_first {w : World} {p o g m c : Nat} {xs : List Tm} (h : TimAt w p o g m c xs) (hn : 0 < xs.length) : Calls Try.prog 36 #[.pointer (some ⟨p, o, none⟩)] w fun e w' => e = .returned (.agg #[.int .i64 (tget xs 0).1, .int .i64 (tget xs 0).2]) ∧ Below w.heap.size w w' := by
  have h0 := h.c0
  have hf := h.few
  obtain ⟨x0, x1⟩ := h.cells hn
  rw [Nat.zero_mul] at x0 x1
  rw [Nat.zero_add] at x1
  have hpl := h.lt
  have hgl := h.glt
  clear h
  have hn' : (0 : Int) < (xs.length : Int) := by omega
  generalize xs.length = n at *
  generalize tget xs 0 = x at *
  obtain ⟨d, a⟩ := x
  dsimp only at *
  go_enter Try.func36, Try.ntmps36
  go_wp2
  refine bodyPost_ret (results_cell_row rfl _ _ _ _ _ _ _ rfl (heap_alloc_new w _) Try.underlying80 rfl (by kernel_rfl)) rfl ⟨rfl, upd_box _⟩

theorem tm_day (x : Tm) (w : World) : (Instr.field 80 (.agg #[.int .i64 x.1, .int .i64 x.2]) 0).run Try.prog w = .ok (.int .i64 x.1) w := by
  exact run_field_one (P := Try.prog) w 80 _ 0 _ _ _ _ Try.underlying80 rfl Try.underlying3 rfl rfl
theorem tm_num (x : Tm) (w : World) : (Instr.field 80 (.agg #[.int .i64 x.1, .int .i64 x.2]) 1).run Try.prog w = .ok (.int .i64 x.2) w := by
  exact run_field_one (P := Try.prog) w 80 _ 1 _ _ _ _ Try.underlying80 rfl Try.underlying3 rfl rfl
/-- What is looked up of a number that has no timer. -/
theorem TimSt.miss {w : World} {p o : Nat} {S : Nat → Prop} {xs : List Tm} (h : TimSt w p o S xs) {a : Int} (ha : W64 a) (hno : ∀ x ∈ xs, x.2 ≠ a) : ∃ mo, w.cell? ⟨p, o + 1, none⟩ = some (.map mo) ∧ (Instr.lookup 55 (.map mo) (.int .i64 a) true).run Try.prog w = .ok (.tuple #[.int .i64 0, .bool false]) w := by
  obtain ⟨-, -, -, h4⟩ := h
  rcases h4 with ⟨_, _, b, _⟩ | ⟨g, m, c, _, _, d⟩
  · exact ⟨none, b, miss_nil ha⟩
  · obtain ⟨ix, hm, hix⟩ := d.mp
    refine ⟨some m, d.c1, hm.miss ha ?_⟩
    cases e : ix a with
    | none => rfl
    | some i => obtain ⟨q1, q2⟩ := hix.no _ _ e; exact absurd q2 (hno _ (mem_tget.2 ⟨i, q1, rfl⟩))
end Go.Proofs.Ytcnheikckfhniaa
