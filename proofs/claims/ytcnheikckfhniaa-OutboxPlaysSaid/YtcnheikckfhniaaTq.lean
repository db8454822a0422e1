/-
  Package timer: timers in memory; the queue's Len, Less. Conditions: those of each theorem.
-/
import Derived.Test.YtcnheikckfhniaaTimCmp
import Derived.Test.YtcnheikckfhniaaTimMap
import Derived.BigRegion
import Derived.ChangeAlike
import Derived.Deep.DeepCutAuto
namespace Go.Proofs.Ytcnheikckfhniaa
open Go.RowKit
set_option maxRecDepth 100000

/-- The cells of a row of timers. -/
def tcells (xs : List Tm) : List Value := xs.flatMap fun x => [.int .i64 x.1, .int .i64 x.2]
theorem tcells_length (xs : List Tm) : (tcells xs).length = xs.length * 2 := by
  induction xs with
  | nil => rfl
  | cons x xs ih => simp only [tcells, List.flatMap_cons, List.length_append, List.length_cons, List.length_nil] at ih ⊢; omega
theorem tcells_append (xs ys : List Tm) : tcells (xs ++ ys) = tcells xs ++ tcells ys := by simp [tcells]
theorem tcells_get : ∀ (xs : List Tm) (i : Nat), i < xs.length → (tcells xs)[i * 2]? = some (.int .i64 (tget xs i).1) ∧ (tcells xs)[i * 2 + 1]? = some (.int .i64 (tget xs i).2)
  | x :: xs, 0, _ => ⟨rfl, rfl⟩
  | x :: xs, i + 1, h => by
    have := tcells_get xs i (by simpa using h)
    have e : tcells (x :: xs) = .int .i64 x.1 :: .int .i64 x.2 :: tcells xs := rfl
    rw [e, show (i + 1) * 2 = i * 2 + 1 + 1 by omega, List.getElem?_cons_succ, List.getElem?_cons_succ, List.getElem?_cons_succ, List.getElem?_cons_succ]
    exact this
theorem tcells_set : ∀ (xs : List Tm) (i : Nat) (y : Tm), i < xs.length → tcells (xs.set i y) = ((tcells xs).set (i * 2) (.int .i64 y.1)).set (i * 2 + 1) (.int .i64 y.2)
  | x :: xs, 0, y, _ => rfl
  | x :: xs, i + 1, y, h => by
    have := tcells_set xs i y (by simpa using h)
    have e : ∀ x xs, tcells (x :: xs) = .int .i64 x.1 :: .int .i64 x.2 :: tcells xs := fun _ _ => rfl
    rw [List.set_cons_succ, e, e, this, show (i + 1) * 2 = i * 2 + 1 + 1 by omega, List.set_cons_succ, List.set_cons_succ, List.set_cons_succ, List.set_cons_succ]
theorem tcells_take : ∀ (xs : List Tm) (n : Nat), (tcells xs).take (n * 2) = tcells (xs.take n)
  | [], n => by simp [tcells]
  | x :: xs, 0 => by simp [tcells]
  | x :: xs, n + 1 => by
    have e : ∀ x xs, tcells (x :: xs) = .int .i64 x.1 :: .int .i64 x.2 :: tcells xs := fun _ _ => rfl
    rw [e, show (n + 1) * 2 = n * 2 + 1 + 1 by omega, List.take_succ_cons, List.take_succ_cons, List.take_succ_cons, e, tcells_take xs n]

/-- Of each number the place at which it is. -/
structure IxOk (xs : List Tm) (ix : Int → Option Nat) : Prop where
  at' : ∀ i, i < xs.length → ix (tget xs i).2 = some i
  no : ∀ a i, ix a = some i → i < xs.length ∧ (tget xs i).2 = a
theorem IxOk.inj {xs : List Tm} {ix : Int → Option Nat} (h : IxOk xs ix) {i j : Nat} (hi : i < xs.length) (hj : j < xs.length) (e : (tget xs i).2 = (tget xs j).2) : i = j := by
  have h1 := h.at' i hi
  rw [e, h.at' j hj] at h1
  injection h1 with h1
  exact h1.symm
theorem IxOk.swap {xs : List Tm} {ix : Int → Option Nat} (h : IxOk xs ix) {i j : Nat} (hi : i < xs.length) (hj : j < xs.length) : IxOk (tswp xs i j) (ixPut (ixPut ix (tget xs j).2 i) (tget xs i).2 j) := by
  have G := tget_swp hi hj
  constructor
  · intro k hk
    rw [tswp_length] at hk
    rw [G k]
    unfold ixPut
    by_cases e : k = j
    · subst e; simp
    · rw [if_neg e]
      by_cases e2 : k = i
      · subst e2
        rw [if_pos rfl, if_neg (fun x => e (h.inj hi hj x.symm)), if_pos rfl]
      · rw [if_neg e2, if_neg (fun x => e2 (h.inj hk hi x)), if_neg (fun x => e (h.inj hk hj x))]
        exact h.at' k hk
  · intro a k hk
    rw [tswp_length]
    unfold ixPut at hk
    by_cases e : a = (tget xs i).2
    · rw [if_pos e] at hk
      injection hk with hk
      subst hk
      exact ⟨hj, by rw [G, if_pos rfl, e]⟩
    · rw [if_neg e] at hk
      by_cases e2 : a = (tget xs j).2
      · rw [if_pos e2] at hk
        injection hk with hk
        subst hk
        refine ⟨hi, ?_⟩
        rw [G i]
        by_cases e3 : i = j
        · subst e3; exact absurd e2 e
        · rw [if_neg e3, if_pos rfl, e2]
      · rw [if_neg e2] at hk
        obtain ⟨h1, h2⟩ := h.no a k hk
        refine ⟨h1, ?_⟩
        rw [G k, if_neg (fun x => e2 (by rw [← h2, x])), if_neg (fun x => e (by rw [← h2, x]))]
        exact h2
theorem IxOk.push {xs : List Tm} {ix : Int → Option Nat} (h : IxOk xs ix) {x : Tm} (hx : ix x.2 = none) : IxOk (xs ++ [x]) (ixPut ix x.2 xs.length) := by
  constructor
  · intro k hk
    rw [List.length_append, List.length_singleton] at hk
    rw [tget_append]
    unfold ixPut
    by_cases e : k = xs.length
    · rw [if_pos e, if_pos rfl, e]
    · rw [if_neg e]
      have := h.at' k (by omega)
      rw [if_neg (fun e2 => by rw [e2, hx] at this; cases this)]
      exact this
  · intro a k hk
    rw [List.length_append, List.length_singleton, tget_append]
    unfold ixPut at hk
    by_cases e : a = x.2
    · rw [if_pos e] at hk
      injection hk with hk
      subst hk
      rw [if_pos rfl]
      exact ⟨by omega, e.symm⟩
    · rw [if_neg e] at hk
      obtain ⟨h1, h2⟩ := h.no a k hk
      rw [if_neg (by omega)]
      exact ⟨by omega, h2⟩
theorem IxOk.pop {xs : List Tm} {ix : Int → Option Nat} (h : IxOk xs ix) {n : Nat} (hn : n + 1 = xs.length) : IxOk (xs.take n) (ixDel ix (tget xs n).2) := by
  have hl : (xs.take n).length = n := by rw [List.length_take]; omega
  constructor
  · intro k hk
    rw [hl] at hk
    rw [tget_take k hk]
    unfold ixDel
    rw [if_neg (fun e => by have := h.inj (by omega) (by omega) e; omega)]
    exact h.at' k (by omega)
  · intro a k hk
    unfold ixDel at hk
    by_cases e : a = (tget xs n).2
    · rw [if_pos e] at hk; cases hk
    · rw [if_neg e] at hk
      obtain ⟨h1, h2⟩ := h.no a k hk
      have hk2 : k ≠ n := fun x => e (by rw [← h2, x])
      rw [hl, tget_take k (by omega)]
      exact ⟨by omega, h2⟩
theorem IxOk.setDay {xs : List Tm} {ix : Int → Option Nat} (h : IxOk xs ix) {i : Nat} (hi : i < xs.length) (d : Int) : IxOk (xs.set i (d, (tget xs i).2)) ix := by
  have G := fun k => tget_set hi (d, (tget xs i).2) k
  have e : ∀ k, (tget (xs.set i (d, (tget xs i).2)) k).2 = (tget xs k).2 := fun k => by
    rw [G k]
    by_cases e : k = i
    · rw [if_pos e, e]
    · rw [if_neg e]
  constructor
  · intro k hk
    rw [List.length_set] at hk
    rw [e k]
    exact h.at' k hk
  · intro a k hk
    rw [List.length_set, e k]
    exact h.no a k hk


/-- Only blocks of S have turned; of block p just the cells o and o + 1. -/
structure UpdC (p o : Nat) (S : Nat → Prop) (w w' : World) : Prop extends Upd S w w' where
  rest : p < w.heap.size → ∀ j, j ≠ o → j ≠ o + 1 → w'.cell? ⟨p, j, none⟩ = w.cell? ⟨p, j, none⟩
  fz : p < w.heap.size → ∀ j, w'.frozen? ⟨p, j, none⟩ = w.frozen? ⟨p, j, none⟩
section
variable {w w1 w2 w' : World} {p o : Nat} {S S' : Nat → Prop}
theorem Upd.part (h : Upd S w w') (hn : ¬ S p) : UpdC p o S w w' :=
  ⟨h, fun hp j _ _ => h.cell (p := ⟨p, j, none⟩) hp hn, fun hp j => h.frozen (p := ⟨p, j, none⟩) hp hn⟩
theorem UpdC.refl (p o : Nat) (S : Nat → Prop) (w : World) : UpdC p o S w w := ⟨Upd.refl _ _, fun _ _ _ _ => rfl, fun _ _ => rfl⟩
theorem UpdC.mono (h : UpdC p o S w w') (hs : ∀ k, k < w.heap.size → S k → S' k) : UpdC p o S' w w' := ⟨h.toUpd.mono hs, h.rest, h.fz⟩
theorem UpdC.trans (h : UpdC p o S w w1) (k : UpdC p o S' w1 w2) (hs : ∀ k, k < w.heap.size → S' k → S k) : UpdC p o S w w2 :=
  ⟨h.toUpd.trans k.toUpd hs, fun hp j h1 h2 => (k.rest (Nat.lt_of_lt_of_le hp h.size) j h1 h2).trans (h.rest hp j h1 h2), fun hp j => (k.fz (Nat.lt_of_lt_of_le hp h.size) j).trans (h.fz hp j)⟩
theorem UpdC.below (h : Below w.heap.size w w') : UpdC p o S w w' := (Upd.part (S := fun _ => False) (Upd.below h) (fun x => x)).mono (fun _ _ x => x.elim)
theorem UpdC.setCell (h : UpdC p o S w w') (hp : S p) {j : Nat} (hj : j = o ∨ j = o + 1) (u : Value) : UpdC p o S w (w'.setCell ⟨p, j, none⟩ u) :=
  ⟨h.toUpd.setCell (p := ⟨p, j, none⟩) (.inl hp) u, fun hq k h1 h2 => (cell_other (by omega)).trans (h.rest hq k h1 h2), fun hq k => by rw [World.frozen?_setCell]; exact h.fz hq k⟩
theorem UpdC.alloc (h : UpdC p o S w w') (x : Obj) : UpdC p o S w (w'.alloc x) := h.trans (UpdC.below (S := S) (upd_box x)) (fun _ _ x => x)
theorem UpdC.drew (h : UpdC p o S w w') : UpdC p o S w w'.drew := ⟨h.toUpd.drew, h.rest, h.fz⟩
end

/-- Timers, but of each number the place: the box p; their row, in block g. -/
structure TimRow (w : World) (p o g m c : Nat) (xs : List Tm) : Prop where
  lt : p < w.heap.size
  c0 : w.cell? ⟨p, o, none⟩ = some (.slice (some ⟨g, 0, none⟩) xs.length c)
  c1 : w.cell? ⟨p, o + 1, none⟩ = some (.map (some m))
  fz : ∀ j, w.frozen? ⟨p, j, none⟩ = false
  row : w.ownsRow 0 80 2 (.slice (some ⟨g, 0, none⟩) xs.length c) xs.length (tcells xs)
  pg : p ≠ g
  w64 : ∀ x ∈ xs, W64 x.2
  few : xs.length ≤ 1000
/-- Timers: the box p; their row, in block g; of each number the place, in block m. -/
structure TimAt (w : World) (p o g m c : Nat) (xs : List Tm) : Prop extends TimRow w p o g m c xs where
  mp : ∃ ix, MapIs w m xs.length ix ∧ IxOk xs ix
section
variable {w w' : World} {p o g m c : Nat} {xs : List Tm}
theorem TimRow.ne (h : TimRow w p o g m c xs) {n : Nat} {ix : Int → Option Nat} (hm : MapIs w m n ix) : g ≠ m ∧ p ≠ m := by
  constructor
  · rintro rfl
    obtain ⟨D, ⟨es, clock, h1, _⟩, _⟩ := hm
    rcases h.row.2 with ⟨h2, _⟩ | ⟨g', cap, cur, h2, _, h3, _⟩
    · cases h2
    · obtain rfl : g' = g := by injection h2 with h2; injection h2 with h2; injection h2 with h2; exact h2.symm
      rw [h1] at h3
      cases h3
  · rintro rfl
    have := h.c0
    rw [hm.noCells o] at this
    cases this
theorem TimAt.gm (h : TimAt w p o g m c xs) : g ≠ m ∧ p ≠ m := by
  obtain ⟨ix, hm, _⟩ := h.mp
  exact h.toTimRow.ne hm
theorem TimRow.glt (h : TimRow w p o g m c xs) : g < w.heap.size := own_in h.row rfl
theorem TimAt.mlt (h : TimAt w p o g m c xs) : m < w.heap.size := by obtain ⟨ix, hm, _⟩ := h.mp; exact hm.lt
theorem TimRow.upd {S : Nat → Prop} (h : TimRow w p o g m c xs) (hu : Upd S w w') (hp : ¬ S p) (hg : ¬ S g) : TimRow w' p o g m c xs :=
  ⟨Nat.lt_of_lt_of_le h.lt hu.size, (hu.cell (p := ⟨p, o, none⟩) h.lt hp).trans h.c0, (hu.cell (p := ⟨p, o + 1, none⟩) h.lt hp).trans h.c1, fun j => (hu.frozen (p := ⟨p, j, none⟩) h.lt hp).trans (h.fz j),
    ownsRow_upd h.row hu (fun k hk => by cases hk; exact hg), h.pg, h.w64, h.few⟩
theorem TimAt.upd {S : Nat → Prop} (h : TimAt w p o g m c xs) (hu : Upd S w w') (hp : ¬ S p) (hg : ¬ S g) (hm : ¬ S m) : TimAt w' p o g m c xs := by
  obtain ⟨ix, h1, h2⟩ := h.mp
  exact ⟨h.toTimRow.upd hu hp hg, ⟨ix, h1.upd hu hm, h2⟩⟩
theorem TimAt.below (h : TimAt w p o g m c xs) (hb : Below w.heap.size w w') : TimAt w' p o g m c xs := h.upd (S := fun _ => False) (Upd.below hb) (fun x => x) (fun x => x) (fun x => x)
theorem TimRow.cells (h : TimRow w p o g m c xs) {i : Nat} (hi : i < xs.length) : w.cell? ⟨g, i * 2, none⟩ = some (.int .i64 (tget xs i).1) ∧ w.cell? ⟨g, i * 2 + 1, none⟩ = some (.int .i64 (tget xs i).2) := by
  obtain ⟨h1, h2⟩ := tcells_get xs i hi
  exact ⟨(h.row.cellAt (i * 2) (by omega)).trans h1, (h.row.cellAt (i * 2 + 1) (by omega)).trans h2⟩
theorem TimRow.num (h : TimRow w p o g m c xs) {i : Nat} (hi : i < xs.length) : W64 (tget xs i).2 := h.w64 _ (mem_tget.2 ⟨i, hi, rfl⟩)
/-- A timer is stored in the place of another one. -/
theorem TimRow.put (h : TimRow w p o g m c xs) {i : Nat} (hi : i < xs.length) (y : Tm) (hy : W64 y.2) : TimRow ((w.setCell ⟨g, i * 2, none⟩ (.int .i64 y.1)).setCell ⟨g, i * 2 + 1, none⟩ (.int .i64 y.2)) p o g m c (xs.set i y) := by
  have hu : Upd (fun k => k = g) w ((w.setCell ⟨g, i * 2, none⟩ (.int .i64 y.1)).setCell ⟨g, i * 2 + 1, none⟩ (.int .i64 y.2)) := (upd_set _ _).trans (upd_set _ _) (fun _ _ x => x)
  have r := ((h.row.stored (i * 2) (.int .i64 y.1)).1.stored (i * 2 + 1) (.int .i64 y.2)).1
  rw [← tcells_set xs i y hi] at r
  have hw : ∀ x ∈ xs.set i y, W64 x.2 := fun x hx => by
    rcases List.mem_or_eq_of_mem_set hx with hx | rfl
    · exact h.w64 x hx
    · exact hy
  have hl : (xs.set i y).length = xs.length := List.length_set
  exact ⟨Nat.lt_of_lt_of_le h.lt hu.size, by rw [hl]; exact (hu.cell (p := ⟨p, o, none⟩) h.lt h.pg).trans h.c0, (hu.cell (p := ⟨p, o + 1, none⟩) h.lt h.pg).trans h.c1, fun j => (hu.frozen (p := ⟨p, j, none⟩) h.lt h.pg).trans (h.fz j),
    by rw [hl]; exact r, h.pg, hw, by rw [hl]; exact h.few⟩
end

theorem q_len {w : World} {p o g m c : Nat} {xs : List Tm} (h : TimAt w p o g m c xs) : Calls Try.prog 86 #[.pointer (some ⟨p, o, none⟩)] w fun e w' => e = .returned (.int .i64 xs.length) ∧ w = w' := by
  have h0 := h.c0
  have hn := h.few
  clear h
  generalize xs.length = n at *
  go_enter Try.func86, Try.ntmps86
  go_wp2
  go_ret
  exact ⟨rfl, rfl⟩

set_option maxHeartbeats 1000000 in
theorem q_less {w : World} {p o g m c : Nat} {xs : List Tm} (h : TimAt w p o g m c xs) {i j : Nat} (hi : i < xs.length) (hj : j < xs.length) : Calls Try.prog 87 #[.pointer (some ⟨p, o, none⟩), .int .i64 i, .int .i64 j] w fun e w' => e = .returned (.bool (tlt (tget xs i) (tget xs j))) ∧ Below w.heap.size w w' := by
  have h0 := h.c0
  have hn := h.few
  obtain ⟨x0, x1⟩ := h.cells hi
  obtain ⟨y0, y1⟩ := h.cells hj
  have HC : Aside (∀ w : World, Calls Try.prog 91 #[.agg #[.int .i64 (tget xs i).1, .int .i64 (tget xs i).2], .agg #[.int .i64 (tget xs j).1, .int .i64 (tget xs j).2]] w fun e w' => e = .returned (.int .i64 (tcmp (tget xs i) (tget xs j))) ∧ Below w.heap.size w w') := fun w => tim_compared _ _ w
  rw [← tcmp_neg]
  have hpl := h.lt
  have hgl := h.glt
  clear h
  have i1 : (i : Int) < (xs.length : Int) := by omega
  have j1 : (j : Int) < (xs.length : Int) := by omega
  generalize xs.length = n at *
  generalize tcmp (tget xs i) (tget xs j) = r at *
  generalize tget xs i = x at *
  generalize tget xs j = y at *
  obtain ⟨d1, n1⟩ := x
  obtain ⟨d2, n2⟩ := y
  dsimp only at *
  go_enter Try.func87, Try.ntmps87
  go_wp2
  go_still_tail 14, (by kernel_rfl)
  change wpList _ _ _ _ _ w.drew
  go_wp2_with fail
  refine (HC.out _).mono ?_
  rintro e w1 ⟨rfl, b1⟩
  have HB : Aside _ := b1
  clear b1
  go_wp2
  go_ret
  exact ⟨rfl, ⟨HB.out.os, HB.out.tape, HB.out.output, HB.out.size, HB.out.block⟩⟩

end Go.Proofs.Ytcnheikckfhniaa
