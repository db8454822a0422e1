/-
  What all accounts have together, and a posting. Conditions: those of the theorems.
-/
import Derived.Test.YtaboaljpnacnfaaLedgerLaw
namespace Go.Proofs.Ytaboaljpnacnfaa
open Go.RowKit
set_option maxRecDepth 100000

theorem postE_at {g : Nat → Int} {F T : Nat} {s : Int} {b : Bool} (h : goodArgs F T s = true) (hr : (Rt (g F) && Rt s && Rt (g F - s) && (Rt (g T) && Rt s && Rt (g T + s))) = b) : postE g F T s = if b = true then 0 else 9 := by
  subst hr
  unfold postE
  rw [if_pos h]
  rfl

theorem wrap_add (a b : Int) : wrap64 (wrap64 a + b) = wrap64 (a + b) := by
  unfold wrap64
  omega

def sum5 (g : Nat → Int) : Int := g 0 + g 1 + g 2 + g 3 + g 4

theorem tot_sum (g : Nat → Int) : tot g 5 = wrap64 (sum5 g) := by
  simp only [tot, sum5, wrap_add]
  congr 1
  omega

theorem sum_turned (g : Nat → Int) (i : Nat) (v : Int) (h : i < 5) : sum5 (turned g i v) = sum5 g - g i + v := by
  match i, h with
  | 0, _ => simp [sum5, turned]; omega
  | 1, _ => simp [sum5, turned]; omega
  | 2, _ => simp [sum5, turned]; omega
  | 3, _ => simp [sum5, turned]; omega
  | 4, _ => simp [sum5, turned]

theorem tot_posted {g : Nat → Int} {f t s : Int} (h : postE g f t s = 0) : tot (postL g f t s) 5 = tot g 5 := by
  have h4 := goodArgs_iff.1 (postE_yes h).1
  rw [tot_sum, tot_sum, postL_yes h]
  congr 1
  unfold posted
  rw [sum_turned _ _ _ (by omega), sum_turned _ _ _ (by omega)]
  rw [show turned g f.toNat (g f.toNat - s) t.toNat = g t.toNat by unfold turned; rw [if_neg (by omega)]]
  omega

theorem tot_told (g : Nat → Int) : wrap64 (wrap64 (wrap64 (wrap64 (g 0 + g 1) + g 2) + g 3) + g 4) = tot g 5 := by
  rw [tot_sum]
  simp only [wrap_add]
  rfl

theorem FiveAt.ofCells {w : World} {p : Nat} {y : Nat → Int} {v0 v1 v2 v3 v4 : Value} (fz : ∀ j, w.frozen? ⟨p, j, none⟩ = false) (z0 : w.cell? ⟨p, 0, none⟩ = some v0) (z1 : w.cell? ⟨p, 1, none⟩ = some v1) (z2 : w.cell? ⟨p, 2, none⟩ = some v2) (z3 : w.cell? ⟨p, 3, none⟩ = some v3) (z4 : w.cell? ⟨p, 4, none⟩ = some v4) :
    FiveAt (((((w.setCell ⟨p, 0, none⟩ (.int .i64 (y 0))).setCell ⟨p, 1, none⟩ (.int .i64 (y 1))).setCell ⟨p, 2, none⟩ (.int .i64 (y 2))).setCell ⟨p, 3, none⟩ (.int .i64 (y 3))).setCell ⟨p, 4, none⟩ (.int .i64 (y 4))) p y := by
  have hlt : p < w.heap.size := block_lt_of_cell z0
  refine ⟨by simpa [setCell_size] using hlt, fun j => by simpa using fz j, ?_, ?_, ?_, ?_, ?_⟩
  · rw [cell_other (by decide), cell_other (by decide), cell_other (by decide), cell_other (by decide), cell_same z0]
  · rw [cell_other (by decide), cell_other (by decide), cell_other (by decide), cell_same ((cell_other (by decide)).trans z1)]
  · rw [cell_other (by decide), cell_other (by decide), cell_same ((cell_other (by decide)).trans ((cell_other (by decide)).trans z2))]
  · rw [cell_other (by decide), cell_same ((cell_other (by decide)).trans ((cell_other (by decide)).trans ((cell_other (by decide)).trans z3)))]
  · rw [cell_same ((cell_other (by decide)).trans ((cell_other (by decide)).trans ((cell_other (by decide)).trans ((cell_other (by decide)).trans z4))))]
end Go.Proofs.Ytaboaljpnacnfaa
