/-
  Returns in the laws: as cells of which it is known what they hold. Conditions: those of each theorem.
-/
import Derived.Test.YtkjkamcjbhhefaaDoorRmSame
import Derived.Test.YtkjkamcjbhhefaaDoorRmClone
namespace Go.Proofs.YtkjkamcjbhhefaaDoor
open Go.RowKit
set_option maxRecDepth 100000

theorem RetBox.range {w : World} {g : Nat} {t : TypeId} {r : Ret} (h : RetBox w g t r) {cs : List Value} (hc : cs.toArray = #[.int .i64 r.num, .int .i64 r.ord, .int .i64 r.rea, .int .i64 r.want, .int .i64 r.res, .bool r.cred, .int .i64 r.st, .int .i64 r.day, .slice r.uA r.uN r.uC, .slice r.gA r.gN r.gC, .int .i64 r.wor, .int .i64 r.pai, .int .i64 r.cre, .int .i64 r.giv]) : w.rangeAt g 0 cs := fun j v hv => by
  refine h.at_cells j v ?_
  rw [← hc]
  simpa using hv
theorem range_below {w w' : World} {g o : Nat} {cs : List Value} (hb : Below w.heap.size w w') (hg : g < w.heap.size) (h : w.rangeAt g o cs) : w'.rangeAt g o cs := fun j v hv => (hb.cell (p := ⟨g, o + j, none⟩) hg).trans (h j v hv)
theorem at2_same (r s : Ret) (us vs gs hs : List Int) (a b : Option Addr) (c d : Nat) (a' b' : Option Addr) (c' d' : Nat) : sameB (r.at2 a c b d) (s.at2 a' c' b' d') us vs gs hs = sameB r s us vs gs hs := rfl

/-- Cells of a return, which has these units and grades. -/
def Holds (w : World) (c : Array Value) (r : Ret) (us gs : List Int) : Prop := ∃ a n b m, c = #[.int .i64 (r.at2 a n b m).num, .int .i64 (r.at2 a n b m).ord, .int .i64 (r.at2 a n b m).rea, .int .i64 (r.at2 a n b m).want, .int .i64 (r.at2 a n b m).res, .bool (r.at2 a n b m).cred, .int .i64 (r.at2 a n b m).st, .int .i64 (r.at2 a n b m).day, .slice (r.at2 a n b m).uA (r.at2 a n b m).uN (r.at2 a n b m).uC, .slice (r.at2 a n b m).gA (r.at2 a n b m).gN (r.at2 a n b m).gC, .int .i64 (r.at2 a n b m).wor, .int .i64 (r.at2 a n b m).pai, .int .i64 (r.at2 a n b m).cre, .int .i64 (r.at2 a n b m).giv] ∧ RetAt w (r.at2 a n b m) us gs
theorem Holds.below {w w' : World} {c : Array Value} {r : Ret} {us gs : List Int} (h : Holds w c r us gs) (hb : Below w.heap.size w w') : Holds w' c r us gs := by
  obtain ⟨a, n, b, m, h1, h2⟩ := h
  exact ⟨a, n, b, m, h1, h2.below hb⟩
theorem theirs_holds {w : World} {c : Array Value} {r : Ret} {us gs : List Int} (h : Holds w c r us gs) (hu : r.uN ≤ 1000) (hg : r.gN ≤ 1000) :
    Calls Tryd.prog 14 #[.agg c] w fun e w' => ∃ c', e = .returned (.agg c') ∧ Holds w' c' r us gs ∧ Below w.heap.size w w' := by
  obtain ⟨a, n, b, m, rfl, h2⟩ := h
  refine (law_theirs (r.at2 a n b m) us gs w h2 hu hg).mono ?_
  rintro e w' ⟨⟨a', n', b', m', rfl, h3⟩, hb⟩
  exact ⟨_, rfl, ⟨a', n', b', m', rfl, h3.ret⟩, hb⟩
theorem clone_holds {w : World} {c : Array Value} {r : Ret} {us gs : List Int} (h : Holds w c r us gs) (hu : r.uN ≤ 1000) (hg : r.gN ≤ 1000) :
    Calls Tryd.prog 30 #[.agg c] w fun e w' => ∃ c', e = .returned (.agg c') ∧ Holds w' c' r us gs ∧ Below w.heap.size w w' := by
  obtain ⟨a, n, b, m, rfl, h2⟩ := h
  refine (rma_clone (r.at2 a n b m) us gs w h2 hu hg).mono ?_
  rintro e w' ⟨⟨a', n', b', m', rfl, h3⟩, hb⟩
  exact ⟨_, rfl, ⟨a', n', b', m', rfl, h3.ret⟩, hb⟩
theorem equal_holds {w : World} {c d : Array Value} {r s : Ret} {us gs vs hs : List Int} (h : Holds w c r us gs) (k : Holds w d s vs hs) (hu : r.uN ≤ 1000) (hg : r.gN ≤ 1000) (hu2 : s.uN ≤ 1000) (hg2 : s.gN ≤ 1000) :
    Calls Tryd.prog 20 #[.agg c, .agg d] w fun e w' => e = .returned (.bool (sameB r s us vs gs hs)) ∧ Below w.heap.size w w' := by
  obtain ⟨a, n, b, m, rfl, h2⟩ := h
  obtain ⟨a', n', b', m', rfl, k2⟩ := k
  exact rma_equal (r.at2 a n b m) (s.at2 a' n' b' m') us gs vs hs w h2 k2 (Nat.le_trans hu (by decide)) (Nat.le_trans hg (by decide)) (Nat.le_trans hu2 (by decide)) (Nat.le_trans hg2 (by decide))
theorem same_holds {w : World} {c d : Array Value} {r s : Ret} {us gs vs hs : List Int} (h : Holds w c r us gs) (k : Holds w d s vs hs) (hu : r.uN ≤ 1000) (hg : r.gN ≤ 1000) (hu2 : s.uN ≤ 1000) (hg2 : s.gN ≤ 1000) :
    Calls Tryd.prog 21 #[.agg c, .agg d] w fun e w' => e = .returned (.bool (sameB r s us vs gs hs)) ∧ Below w.heap.size w w' := by
  obtain ⟨a, n, b, m, rfl, h2⟩ := h
  obtain ⟨a', n', b', m', rfl, k2⟩ := k
  exact law_same (r.at2 a n b m) (s.at2 a' n' b' m') us gs vs hs w h2 k2 (Nat.le_trans hu (by decide)) (Nat.le_trans hg (by decide)) (Nat.le_trans hu2 (by decide)) (Nat.le_trans hg2 (by decide))
theorem ours_holds {w : World} {c : Array Value} {r : Ret} {us gs : List Int} (h : Holds w c r us gs) :
    Calls Tryd.prog 22 #[.agg c] w fun e w' => e = .returned (.agg c) ∧ Below w.heap.size w w' := by
  obtain ⟨a, n, b, m, rfl, h2⟩ := h
  exact law_ours (r.at2 a n b m) w
/-- A box of such cells. -/
theorem RetBox.holds {w : World} {g : Nat} {t : TypeId} {r : Ret} {us gs : List Int} (h : RetBox w g t r) (k : RetAt w r us gs) : ∃ cs : List Value, w.rangeAt g 0 cs ∧ cs.length = 14 ∧ Holds w cs.toArray r us gs :=
  ⟨[.int .i64 r.num, .int .i64 r.ord, .int .i64 r.rea, .int .i64 r.want, .int .i64 r.res, .bool r.cred, .int .i64 r.st, .int .i64 r.day, .slice r.uA r.uN r.uC, .slice r.gA r.gN r.gC, .int .i64 r.wor, .int .i64 r.pai, .int .i64 r.cre, .int .i64 r.giv], h.range rfl, rfl, r.uA, r.uC, r.gA, r.gC, rfl, k⟩
end Go.Proofs.YtkjkamcjbhhefaaDoor
