/-
  Package timer: timers, whether anything was ever set or not; Len, first, Next, Day, All, Clone. Conditions: those of each theorem.
-/
import Derived.Test.YtoeiliaaidmmkaaTimSort
namespace Go.Proofs.Ytoeiliaaidmmkaa
open Go.RowKit
set_option maxRecDepth 100000

/-- Timers whose blocks are among S; no timer is ahead of its parent. -/
def TimSt (w : World) (p : Nat) (S : Nat → Prop) (xs : List Tm) : Prop :=
  S p ∧ p < w.heap.size ∧ HeapTo xs xs.length ∧
    ((xs = [] ∧ w.cell? ⟨p, 0, none⟩ = some (.slice none 0 0) ∧ w.cell? ⟨p, 1, none⟩ = some (.map none) ∧ ∀ j, w.frozen? ⟨p, j, none⟩ = false) ∨ ∃ g m c, S g ∧ S m ∧ TimAt w p g m c xs)
section
variable {w w' : World} {p : Nat} {S S' : Nat → Prop} {xs : List Tm}
theorem TimSt.mono (h : TimSt w p S xs) (hs : ∀ k, S k → S' k) : TimSt w p S' xs := by
  obtain ⟨h1, h2, h3, h4⟩ := h
  exact ⟨hs _ h1, h2, h3, h4.imp (fun x => x) (fun ⟨g, m, c, a, b, d⟩ => ⟨g, m, c, hs _ a, hs _ b, d⟩)⟩
theorem TimSt.upd (h : TimSt w p S xs) (hu : Upd S' w w') (hn : ∀ k, S k → ¬ S' k) : TimSt w' p S xs := by
  obtain ⟨h1, h2, h3, h4⟩ := h
  refine ⟨h1, Nat.lt_of_lt_of_le h2 hu.size, h3, ?_⟩
  rcases h4 with ⟨a, b, c, d⟩ | ⟨g, m, c, a, b, d⟩
  · exact .inl ⟨a, (hu.cell (p := ⟨p, 0, none⟩) h2 (hn _ h1)).trans b, (hu.cell (p := ⟨p, 1, none⟩) h2 (hn _ h1)).trans c, fun j => (hu.frozen (p := ⟨p, j, none⟩) h2 (hn _ h1)).trans (d j)⟩
  · exact .inr ⟨g, m, c, a, b, d.upd hu (hn _ h1) (hn _ a) (hn _ b)⟩
theorem TimSt.below (h : TimSt w p S xs) (hb : Below w.heap.size w w') : TimSt w' p S xs := h.upd (S' := fun _ => False) (Upd.below hb) (fun _ _ x => x)
theorem TimSt.few (h : TimSt w p S xs) : xs.length ≤ 1000 := by
  obtain ⟨-, -, -, h4⟩ := h
  rcases h4 with ⟨a, _⟩ | ⟨g, m, c, a, b, d⟩
  · rw [a]; exact Nat.zero_le _
  · exact d.few
theorem TimSt.w64 (h : TimSt w p S xs) : ∀ x ∈ xs, W64 x.2 := by
  obtain ⟨-, -, -, h4⟩ := h
  rcases h4 with ⟨a, _⟩ | ⟨g, m, c, a, b, d⟩
  · rw [a]; exact fun x hx => by cases hx
  · exact d.w64
theorem TimSt.box (h : TimSt w p S xs) : ∃ a c, w.cell? ⟨p, 0, none⟩ = some (.slice a xs.length c) := by
  obtain ⟨-, -, -, h4⟩ := h
  rcases h4 with ⟨a, b, _⟩ | ⟨g, m, c, a, b, d⟩
  · rw [a]; exact ⟨none, 0, b⟩
  · exact ⟨_, c, d.c0⟩
theorem TimSt.made (h : TimSt w p S xs) (h0 : xs ≠ []) : ∃ g m c, S g ∧ S m ∧ TimAt w p g m c xs := by
  obtain ⟨-, -, -, h4⟩ := h
  rcases h4 with ⟨a, _⟩ | h4
  · exact absurd a h0
  · exact h4
/-- No number twice. -/
def ND (xs : List Tm) : Prop := xs.Pairwise (fun x y => x.2 ≠ y.2)
theorem nd_of {xs : List Tm} {ix : Int → Option Nat} (h : IxOk xs ix) : ND xs := by
  unfold ND
  rw [List.pairwise_iff_getElem]
  intro i j hi hj hij e
  rw [← tget_eq hi, ← tget_eq hj] at e
  have := h.inj hi hj e
  omega
theorem TimSt.nd (h : TimSt w p S xs) : ND xs := by
  obtain ⟨-, -, -, h4⟩ := h
  rcases h4 with ⟨a, _⟩ | ⟨g, m, c, a, b, d⟩
  · rw [a]; exact List.Pairwise.nil
  · obtain ⟨ix, _, hix⟩ := d.mp
    exact nd_of hix
end
theorem TimSt.fresh (w : World) (S : Nat → Prop) (hs : S w.heap.size) : TimSt (w.alloc (.cells #[.slice none 0 0, .map none] 30)) w.heap.size S [] := by
  have A := arr_new w #[.slice none 0 0, .map none] 30
  refine ⟨hs, by simp, fun k _ hk => absurd hk (Nat.not_lt_zero _), .inl ⟨rfl, A.cells 0 _ rfl, A.cells 1 _ rfl, fun j => ?_⟩⟩
  unfold World.frozen?
  rw [heap_alloc_new]
  simp

theorem tim_len {w : World} {p : Nat} {S : Nat → Prop} {xs : List Tm} (h : TimSt w p S xs) : Calls Try.prog 18 #[.pointer (some ⟨p, 0, none⟩)] w fun e w' => e = .returned (.int .i64 xs.length) ∧ w = w' := by
  obtain ⟨a, c, h0⟩ := h.box
  have hn := h.few
  clear h
  generalize xs.length = n at *
  go_enter Try.func18, Try.ntmps18
  go_wp2
  go_ret
  exact ⟨rfl, rfl⟩
theorem tim_len_nil (w : World) : Calls Try.prog 18 #[.pointer none] w fun e w' => e = .returned (.int .i64 0) ∧ w = w' := by
  go_enter Try.func18, Try.ntmps18
  go_wp2
  go_ret
  exact ⟨rfl, rfl⟩
theorem tim_first {w : World} {p g m c : Nat} {xs : List Tm} (h : TimAt w p g m c xs) (hn : 0 < xs.length) : Calls Try.prog 22 #[.pointer (some ⟨p, 0, none⟩)] w fun e w' => e = .returned (.agg #[.int .i64 (tget xs 0).1, .int .i64 (tget xs 0).2]) ∧ Below w.heap.size w w' := by
  have h0 := h.c0
  have hf := h.few
  obtain ⟨x0, x1⟩ := h.cells hn
  rw [Nat.zero_mul] at x0 x1
  rw [Nat.zero_add] at x1
  have hpl := h.lt
  have hgl := h.glt
  clear h
  have hn' : (0 : Int) < (xs.length : Int) := by omega
  generalize xs.length = n at *
  generalize tget xs 0 = x at *
  obtain ⟨d, a⟩ := x
  dsimp only at *
  go_enter Try.func22, Try.ntmps22
  go_wp2
  refine bodyPost_ret (results_cell_row rfl _ _ _ _ _ _ _ rfl (heap_alloc_new w _) Try.underlying35 rfl (by kernel_rfl)) rfl ⟨rfl, upd_box _⟩

theorem tm_day (x : Tm) (w : World) : (Instr.field 35 (.agg #[.int .i64 x.1, .int .i64 x.2]) 0).run Try.prog w = .ok (.int .i64 x.1) w := by
  exact run_field_one (P := Try.prog) w 35 _ 0 _ _ _ _ Try.underlying35 rfl Try.underlying3 rfl rfl
theorem tm_num (x : Tm) (w : World) : (Instr.field 35 (.agg #[.int .i64 x.1, .int .i64 x.2]) 1).run Try.prog w = .ok (.int .i64 x.2) w := by
  exact run_field_one (P := Try.prog) w 35 _ 1 _ _ _ _ Try.underlying35 rfl Try.underlying3 rfl rfl
theorem tim_next_none {w : World} {p : Nat} {S : Nat → Prop} (h : TimSt w p S []) : Calls Try.prog 17 #[.pointer (some ⟨p, 0, none⟩)] w fun e w' => e = .returned (.tuple #[.int .i64 0, .bool false]) ∧ w = w' := by
  have HL : Aside _ := tim_len h
  clear h
  go_enter Try.func17, Try.ntmps17
  go_wp2_with fail
  refine Calls.mono HL.out ?_
  rintro e w1 ⟨rfl, rfl⟩
  go_wp2
  go_ret2
  exact ⟨rfl, rfl⟩
theorem tim_next {w : World} {p : Nat} {S : Nat → Prop} {xs : List Tm} (h : TimSt w p S xs) (hn : 0 < xs.length) : Calls Try.prog 17 #[.pointer (some ⟨p, 0, none⟩)] w fun e w' => e = .returned (.tuple #[.int .i64 (tget xs 0).1, .bool true]) ∧ Below w.heap.size w w' := by
  have HL : Aside _ := tim_len h
  obtain ⟨g, m, c, _, _, ha⟩ := h.made (fun e => by rw [e] at hn; exact absurd hn (Nat.lt_irrefl 0))
  have HF : Aside _ := tim_first ha hn
  have hf := h.few
  have hz : ((xs.length : Int) == 0) = false := by simp; intro e; rw [e] at hn; exact absurd hn (Nat.lt_irrefl 0)
  have hfd := fun w => tm_day (tget xs 0) w
  clear h ha
  generalize tget xs 0 = x at *
  obtain ⟨d, a⟩ := x
  dsimp only at *
  go_enter Try.func17, Try.ntmps17
  go_wp2_with fail
  refine Calls.mono HL.out ?_
  rintro e w1 ⟨rfl, rfl⟩
  go_wp2_with fail
  refine Calls.mono HF.out ?_
  rintro e w1 ⟨rfl, b1⟩
  have HB : Aside _ := b1
  clear b1
  go_wp2
  go_ret2
  exact ⟨rfl, HB.out⟩
theorem tim_next_nil (w : World) : Calls Try.prog 17 #[.pointer none] w fun e w' => e = .returned (.tuple #[.int .i64 0, .bool false]) ∧ w = w' := by
  have HL : Aside _ := tim_len_nil w
  go_enter Try.func17, Try.ntmps17
  go_wp2_with fail
  refine Calls.mono HL.out ?_
  rintro e w1 ⟨rfl, rfl⟩
  go_wp2
  go_ret2
  exact ⟨rfl, rfl⟩

theorem tim_day {w : World} {p : Nat} {S : Nat → Prop} {xs : List Tm} (h : TimSt w p S xs) {i : Nat} (hi : i < xs.length) : Calls Try.prog 14 #[.pointer (some ⟨p, 0, none⟩), .int .i64 (tget xs i).2] w fun e w' => e = .returned (.tuple #[.int .i64 (tget xs i).1, .bool true]) ∧ w = w' := by
  obtain ⟨g, m, c, _, _, ha⟩ := h.made (fun e => by rw [e] at hi; exact absurd hi (Nat.not_lt_zero _))
  obtain ⟨ix, hm, hix⟩ := ha.mp
  have hr := hm.look (ha.num hi) (hix.at' i hi)
  have h0 := ha.c0
  have h1 := ha.c1
  have hf := h.few
  obtain ⟨x0, x1⟩ := ha.cells hi
  have hi' : (i : Int) < (xs.length : Int) := by omega
  clear h ha hm hix
  generalize xs.length = n at *
  generalize tget xs i = x at *
  obtain ⟨d, a⟩ := x
  dsimp only at *
  go_enter Try.func14, Try.ntmps14
  go_wp2
  go_ret2
  exact ⟨rfl, rfl⟩
/-- What is looked up of a number that has no timer. -/
theorem TimSt.miss {w : World} {p : Nat} {S : Nat → Prop} {xs : List Tm} (h : TimSt w p S xs) {a : Int} (ha : W64 a) (hno : ∀ x ∈ xs, x.2 ≠ a) : ∃ mo, w.cell? ⟨p, 1, none⟩ = some (.map mo) ∧ (Instr.lookup 26 (.map mo) (.int .i64 a) true).run Try.prog w = .ok (.tuple #[.int .i64 0, .bool false]) w := by
  obtain ⟨-, -, -, h4⟩ := h
  rcases h4 with ⟨_, _, b, _⟩ | ⟨g, m, c, _, _, d⟩
  · exact ⟨none, b, miss_nil ha⟩
  · obtain ⟨ix, hm, hix⟩ := d.mp
    refine ⟨some m, d.c1, hm.miss ha ?_⟩
    cases e : ix a with
    | none => rfl
    | some i => obtain ⟨q1, q2⟩ := hix.no _ _ e; exact absurd q2 (hno _ (mem_tget.2 ⟨i, q1, rfl⟩))
theorem tim_day_none {w : World} {p : Nat} {S : Nat → Prop} {xs : List Tm} (h : TimSt w p S xs) {a : Int} (ha : W64 a) (hno : ∀ x ∈ xs, x.2 ≠ a) : Calls Try.prog 14 #[.pointer (some ⟨p, 0, none⟩), .int .i64 a] w fun e w' => e = .returned (.tuple #[.int .i64 0, .bool false]) ∧ w = w' := by
  obtain ⟨mo, h1, hr⟩ := h.miss ha hno
  clear h hno
  go_enter Try.func14, Try.ntmps14
  go_wp2
  go_ret2
  exact ⟨rfl, rfl⟩
theorem tim_day_nil (a : Int) (w : World) : Calls Try.prog 14 #[.pointer none, .int .i64 a] w fun e w' => e = .returned (.tuple #[.int .i64 0, .bool false]) ∧ w = w' := by
  go_enter Try.func14, Try.ntmps14
  go_wp2
  go_ret2
  exact ⟨rfl, rfl⟩

theorem tim_all_nil (w : World) : Calls Try.prog 15 #[.pointer none] w fun e w' => e = .returned (.slice none 0 0) ∧ w = w' := by
  go_enter Try.func15, Try.ntmps15
  go_wp2
  go_ret
  exact ⟨rfl, rfl⟩
theorem tim_all {w : World} {p : Nat} {S : Nat → Prop} {xs ws : List Tm} (h : TimSt w p S xs) (hs : Srt ws) (hp : ws.Perm xs) : Calls Try.prog 15 #[.pointer (some ⟨p, 0, none⟩)] w fun e w' => ∃ a c, e = .returned (.slice a ws.length c) ∧ TRow w' a ws ∧ Below w.heap.size w w' := by
  have hf := h.few
  obtain ⟨-, -, -, h4⟩ := h
  rcases h4 with ⟨h0, h1, _⟩ | ⟨g, m, c, _, _, ha⟩
  · subst h0
    obtain rfl : ws = [] := List.length_eq_zero_iff.1 hp.length_eq
    have HC : Aside _ := clone_tm_nil 0 0 w
    clear hs hp
    go_enter Try.func15, Try.ntmps15
    go_wp2_with fail
    refine Calls.mono HC.out ?_
    rintro e w1 ⟨rfl, rfl⟩
    have HS : Aside _ := sort_none none 0 w1
    go_wp2_with fail
    refine Calls.mono HS.out ?_
    rintro e w2 ⟨rfl, rfl⟩
    go_wp2
    go_ret
    exact ⟨none, 0, rfl, .inl rfl, Below.refl _ _⟩
  · have h0 := ha.c0
    have hl := hp.length_eq
    have HC : Aside _ := clone_tm (b := g) (o := 0) (c := c) (trow_own ha.row rfl) rfl hf
    have HS : Aside (Srt ws) := hs
    have HP : Aside (ws.Perm xs) := hp
    clear ha hs hp
    go_enter Try.func15, Try.ntmps15
    go_wp2_with fail
    refine Calls.mono HC.out ?_
    rintro e w1 ⟨g', c', rfl, ho, hb⟩
    have HSRT : Aside _ := sort_tm ho rfl hf HS.out HP.out
    have HB : Aside (Below w.heap.size w w1) := hb
    have HG : Hid (w.heap.size ≤ g') := own_base ho rfl
    clear ho hb HC HP HS
    go_wp2_with fail
    refine Calls.mono HSRT.out ?_
    rintro e w2 ⟨rfl, hr, hu⟩
    have HR : Aside (TRow w2 (some ⟨g', 0, none⟩) ws ∧ Below w.heap.size w w2) := ⟨hr, HB.out.trans (hu.toBelow HB.out.size (fun k hk e => by have := HG.out; omega))⟩
    clear hr hu
    go_wp2
    go_ret
    exact ⟨some ⟨g', 0, none⟩, c', by rw [hl]; rfl, HR.out⟩

theorem tim_clone_nil (w : World) : Calls Try.prog 16 #[.pointer none] w fun e w' => e = .returned (.pointer none) ∧ w = w' := by
  go_enter Try.func16, Try.ntmps16
  go_wp2
  go_ret
  exact ⟨rfl, rfl⟩
end Go.Proofs.Ytoeiliaaidmmkaa
