/-
  Package stock: whatever is done by Move, by Pick: what becomes of the units. Conditions: those of each theorem.
-/
import Derived.Test.YtakdodcdgmbhaaaStkPick
namespace Go.Proofs.Ytakdodcdgmbhaaa
open Go.RowKit
set_option maxRecDepth 100000

/-- No unit has moved, or one has. -/
def Moves (n : Nat) (u u' : Nat → Itm) : Prop := u' = u ∨ ∃ k z, k < n ∧ mayB (u k).place z = true ∧ u' = putAt u k ((u k).moved z)
def Done (w : World) (p G n : Nat) (u : Nat → Itm) (w' : World) : Prop := ∃ u', Moves n u u' ∧ StockAt w' p G n u' ∧ Upd (fun b => b = G) w w'

theorem stk_doMove {w : World} {p G n : Nat} {u : Nat → Itm} (h : StockAt w p G n u) (i z : Int) : Calls Try.prog 11 #[.pointer (some ⟨p, 0, none⟩), .int .i64 i, .int .i64 z] w fun e w' => (∃ x : Int, e = .returned (.int .i64 x)) ∧ Done w p G n u w' := by
  by_cases hi : 0 ≤ i ∧ i < n
  · obtain ⟨k, rfl⟩ := Int.eq_ofNat_of_zero_le hi.1
    have hk : k < n := by omega
    refine (stk_move h hk z).mono ?_
    rintro e w' ⟨rfl, hs, hu⟩
    refine ⟨⟨_, rfl⟩, _, ?_, hs, hu⟩
    cases hm : mayB (u k).place z
    · exact .inl (by unfold moveU; rw [hm]; rfl)
    · exact .inr ⟨k, z, hk, hm, by unfold moveU; rw [if_pos hm]⟩
  · refine (stk_move_out h hi z).mono ?_
    rintro e w' ⟨rfl, rfl⟩
    exact ⟨⟨_, rfl⟩, u, .inl rfl, h, Upd.refl _ _⟩
theorem stk_doPick {w : World} {p G n : Nat} {u : Nat → Itm} (h : StockAt w p G n u) (s : Int) : Calls Try.prog 10 #[.pointer (some ⟨p, 0, none⟩), .int .i64 s] w fun e w' => (∃ x y : Int, e = .returned (.tuple #[.int .i64 x, .int .i64 y])) ∧ Done w p G n u w' := by
  rcases least_any (pickB u s) n with ⟨k, hk, hp, hl⟩ | hn
  · refine (stk_pick_found h s hk hp hl).mono ?_
    rintro e w' ⟨rfl, hs, hu⟩
    refine ⟨⟨_, _, rfl⟩, _, .inr ⟨k, 7, hk, ?_, rfl⟩, hs, hu⟩
    unfold pickB at hp
    simp only [Bool.and_eq_true, beq_iff_eq] at hp
    rw [hp.2]; rfl
  · refine (stk_pick_none h s hn).mono ?_
    rintro e w' ⟨rfl, hb⟩
    exact ⟨⟨_, _, rfl⟩, u, .inl rfl, h.below hb, Upd.below hb⟩
theorem Upd.toB {w0 w w' : World} {G : Nat} (hu : Upd (fun b => b = G) w w') (hb : Below w0.heap.size w0 w) (hG : w0.heap.size ≤ G) : Below w0.heap.size w0 w' :=
  (Upd.trans (S := fun k => w0.heap.size ≤ k) (Upd.below hb) hu (fun j _ e => by rw [e]; exact hG)).toBelow (Nat.le_refl _) (fun j hj x => by omega)
end Go.Proofs.Ytakdodcdgmbhaaa
