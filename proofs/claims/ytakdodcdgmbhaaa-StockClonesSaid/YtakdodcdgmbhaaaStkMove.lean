/-
  Package stock: Move. Conditions: those of each theorem.
-/
import Derived.Test.YtakdodcdgmbhaaaStk
namespace Go.Proofs.Ytakdodcdgmbhaaa
open Go.RowKit
set_option maxRecDepth 100000

/-- The world in which the unit whose cells begin at o has moved. -/
def movedW (w : World) (G o : Nat) (x : Itm) (z : Int) : World := ((w.setCell ⟨G, o + 2, none⟩ (.bool (x.moved z).rcv)).setCell ⟨G, o + 3, none⟩ (.bool (x.moved z).grd)).setCell ⟨G, o + 1, none⟩ (.int .i64 z)

set_option maxHeartbeats 2000000 in
theorem stk_itemMove {w : World} {G o : Nat} {x : Itm} (z : Int) (h1 : w.cell? ⟨G, o + 1, none⟩ = some (.int .i64 x.place)) (h2 : w.cell? ⟨G, o + 2, none⟩ = some (.bool x.rcv)) (h3 : w.cell? ⟨G, o + 3, none⟩ = some (.bool x.grd))
    (f1 : w.frozen? ⟨G, o + 1, none⟩ = false) (f2 : w.frozen? ⟨G, o + 2, none⟩ = false) (f3 : w.frozen? ⟨G, o + 3, none⟩ = false) (hm : mayB x.place z = true) :
    Calls Try.prog 24 #[.pointer (some ⟨G, o, none⟩), .int .i64 z] w fun e w' => e = .returned (.int .i64 0) ∧ w' = movedW w G o x z := by
  have HM : Aside _ := stk_may x.place z w
  rw [hm] at HM
  unfold movedW
  obtain ⟨sku, pl, r, g⟩ := x
  simp only [Itm.moved] at h1 h2 h3 HM ⊢
  clear hm
  have k1 : r = true ∨ (r = false ∧ pl = 1 ∧ z = 2) ∨ (r = false ∧ pl = 1 ∧ (z == 2) = false) ∨ (r = false ∧ (pl == 1) = false) := by
    cases r
    · by_cases a : pl = 1
      · by_cases b : z = 2
        · exact .inr (.inl ⟨rfl, a, b⟩)
        · exact .inr (.inr (.inl ⟨rfl, a, by simpa using b⟩))
      · exact .inr (.inr (.inr ⟨rfl, by simpa using a⟩))
    · exact .inl rfl
  have k2 : g = true ∨ (g = false ∧ pl = 2) ∨ (g = false ∧ (pl == 2) = false) := by
    cases g
    · by_cases a : pl = 2
      · exact .inr (.inl ⟨rfl, a⟩)
      · exact .inr (.inr ⟨rfl, by simpa using a⟩)
    · exact .inl rfl
  rcases k1 with rfl | ⟨rfl, rfl, rfl⟩ | ⟨rfl, rfl, b⟩ | ⟨rfl, b⟩ <;> rcases k2 with rfl | ⟨rfl, c⟩ | ⟨rfl, c⟩ <;> try (first | exact absurd c (by decide) | subst c)
  all_goals
    go_enter Try.func24, Try.ntmps24
    go_wp2_with fail
    refine Calls.mono HM.out ?_
    rintro e w1 ⟨rfl, rfl⟩
    go_wp2
    go_ret
    exact ⟨rfl, by simp [*]⟩
theorem stk_itemMove_no {w : World} {G o : Nat} {x : Itm} (z : Int) (h1 : w.cell? ⟨G, o + 1, none⟩ = some (.int .i64 x.place)) (hm : mayB x.place z = false) :
    Calls Try.prog 24 #[.pointer (some ⟨G, o, none⟩), .int .i64 z] w fun e w' => e = .returned (.int .i64 8) ∧ w' = w := by
  have HM : Aside _ := stk_may x.place z w
  rw [hm] at HM
  generalize x.place = pl at *
  go_enter Try.func24, Try.ntmps24
  go_wp2_with fail
  refine Calls.mono HM.out ?_
  rintro e w1 ⟨rfl, rfl⟩
  go_wp2
  go_ret
  exact ⟨rfl, rfl⟩

theorem StockAt.moved {w : World} {p G n : Nat} {u : Nat → Itm} (h : StockAt w p G n u) {k : Nat} (hk : k < n) (z : Int) : StockAt (movedW w G (k * 4) (u k) z) p G n (putAt u k ((u k).moved z)) ∧ Upd (fun b => b = G) w (movedW w G (k * 4) (u k) z) := by
  have h0 : 0 < n := by omega
  obtain ⟨-, c0, c1, c2, c3⟩ := h.reads hk
  have hu : Upd (fun b => b = G) w (movedW w G (k * 4) (u k) z) :=
    (((Upd.refl (fun b => b = G) w).setCell (p := ⟨G, k * 4 + 2, none⟩) (.inl rfl) _).setCell (p := ⟨G, k * 4 + 3, none⟩) (.inl rfl) _).setCell (p := ⟨G, k * 4 + 1, none⟩) (.inl rfl) _
  have hne := h.ne h0
  obtain ⟨a, c, h1, h2⟩ := h.box
  refine ⟨⟨Nat.lt_of_lt_of_le h.lt hu.size, ⟨a, c, (hu.cell (p := ⟨p, 0, none⟩) h.lt hne).trans h1, h2⟩, fun _ => ?_, h.few, h.ne⟩, hu⟩
  have hr := (h.row h0).put (w' := movedW w G (k * 4) (u k) z) (fun i => rfl) k ((u k).moved z).arr hu.size (fun o ho => ?_) (fun j v hj => ?_) (fun j => ?_)
  · refine ⟨hr.lt, fun i hi => ?_, hr.fz⟩
    have := hr.row i hi
    unfold putAt
    by_cases e : i = k
    · simpa [e] using this
    · simpa [e] using this
  · unfold movedW
    rw [cell_other (by omega), cell_other (by omega), cell_other (by omega)]
  · have d1 : ((w.setCell ⟨G, k * 4 + 2, none⟩ (.bool ((u k).moved z).rcv)).setCell ⟨G, k * 4 + 3, none⟩ (.bool ((u k).moved z).grd)).cell? ⟨G, k * 4 + 1, none⟩ = some (.int .i64 (u k).place) := by
      rw [cell_other (by omega), cell_other (by omega)]; exact c1
    unfold movedW
    match j, hj with
    | 0, hj =>
      rw [cell_other (by omega), cell_other (by omega), cell_other (by omega), Nat.add_zero, c0]
      exact hj
    | 1, hj =>
      rw [cell_same d1]
      exact hj
    | 2, hj =>
      rw [cell_other (by omega), cell_other (by omega), cell_same c2]
      exact hj
    | 3, hj =>
      rw [cell_other (by omega), cell_same (by rw [cell_other (by omega)]; exact c3)]
      exact hj
    | j + 4, hj => simp [Itm.arr] at hj
  · unfold movedW
    rw [World.frozen?_setCell, World.frozen?_setCell, World.frozen?_setCell]

/-- What Move answers, and leaves. -/
def moveE (u : Nat → Itm) (k : Nat) (z : Int) : Int := if mayB (u k).place z then 0 else 8
def moveU (u : Nat → Itm) (k : Nat) (z : Int) : Nat → Itm := if mayB (u k).place z then putAt u k ((u k).moved z) else u

theorem stk_move {w : World} {p G n : Nat} {u : Nat → Itm} (h : StockAt w p G n u) {k : Nat} (hk : k < n) (z : Int) : Calls Try.prog 11 #[.pointer (some ⟨p, 0, none⟩), .int .i64 k, .int .i64 z] w fun e w' => e = .returned (.int .i64 (moveE u k z)) ∧ StockAt w' p G n (moveU u k z) ∧ Upd (fun b => b = G) w w' := by
  have HH : Aside _ := stk_has_in h hk
  obtain ⟨⟨c, h0⟩, -, h1, h2, h3⟩ := h.reads hk
  have hn := h.few
  have hf := (h.row (by omega)).fz
  by_cases hm : mayB (u k).place z = true
  · have HI : Aside _ := stk_itemMove z h1 h2 h3 (hf _) (hf _) (hf _) hm
    have HR : Aside _ := h.moved hk z
    have e1 : moveE u k z = 0 := by unfold moveE; rw [if_pos hm]
    have e2 : moveU u k z = putAt u k ((u k).moved z) := by unfold moveU; rw [if_pos hm]
    rw [e1, e2]
    clear h h1 h2 h3 hf hm e1 e2
    go_enter Try.func11, Try.ntmps11
    go_wp2_with fail
    refine Calls.mono HH.out ?_
    rintro e w1 ⟨rfl, rfl⟩
    go_wp2_with fail
    refine Calls.mono HI.out ?_
    rintro e w1 ⟨rfl, rfl⟩
    go_wp2
    go_ret
    exact ⟨rfl, HR.out.1, HR.out.2⟩
  · have hm := Bool.eq_false_iff.2 hm
    have HI : Aside _ := stk_itemMove_no z h1 hm
    have HR : Aside _ := h
    have e1 : moveE u k z = 8 := by unfold moveE; rw [hm]; rfl
    have e2 : moveU u k z = u := by unfold moveU; rw [hm]; rfl
    rw [e1, e2]
    clear h h1 h2 h3 hf hm e1 e2
    go_enter Try.func11, Try.ntmps11
    go_wp2_with fail
    refine Calls.mono HH.out ?_
    rintro e w1 ⟨rfl, rfl⟩
    go_wp2_with fail
    refine Calls.mono HI.out ?_
    rintro e w1 ⟨rfl, rfl⟩
    go_wp2
    go_ret
    exact ⟨rfl, HR.out, Upd.refl _ _⟩
theorem stk_move_out {w : World} {p G n : Nat} {u : Nat → Itm} (h : StockAt w p G n u) {i : Int} (hi : ¬ (0 ≤ i ∧ i < n)) (z : Int) : Calls Try.prog 11 #[.pointer (some ⟨p, 0, none⟩), .int .i64 i, .int .i64 z] w fun e w' => e = .returned (.int .i64 7) ∧ w' = w := by
  have HH : Aside _ := stk_has_out h hi
  clear h hi
  go_enter Try.func11, Try.ntmps11
  go_wp2_with fail
  refine Calls.mono HH.out ?_
  rintro e w1 ⟨rfl, rfl⟩
  go_wp2
  go_ret
  exact ⟨rfl, rfl⟩
end Go.Proofs.Ytakdodcdgmbhaaa
