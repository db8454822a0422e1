/-
  What a unit is worth: the document's answers, as functions; plain facts. Conditions: those of each theorem.
-/
import Derived.Test.YtjlgjdmnjjfhnaaRefTable
import Derived.Test.YtjlgjdmnjjfhnaaMoneyPoints
import Derived.Test.YtjlgjdmnjjfhnaaTableFacts
namespace Go.Proofs.Ytjlgjdmnjjfhnaa
open Go.RowKit
set_option maxRecDepth 100000

/-- One of four? -/
def four (k : Int) : Bool := decide (0 ≤ k ∧ k < 4)
theorem four_nat {k : Int} (h : four k = true) : ∃ n : Nat, k = n ∧ n < 4 := by
  have := of_decide_eq_true h
  exact ⟨k.toNat, by omega, by omega⟩
/-- A sum that may be shared. -/
def sumB (s : Int) : Bool := decide (0 ≤ s ∧ s ≤ 1125899906842624)
def mayE (p : Pol) (d : Int) (wants : Bool) : Int := if rightP p then (if p.fin || p.exc && !wants then 12 else if decide (0 ≤ d ∧ d ≤ p.win) then 0 else 11) else 10
def feeE (p : Pol) (s r : Int) : Int := if rightP p then (if four r then (if sumB s then 0 else 9) else 1) else 10
def feeV (p : Pol) (s r : Int) : Int := if rightP p then (if four r then partV s (p.fee r.toNat) 10000 else 0) else 0
def toE (p : Pol) (g : Int) : Int := if rightP p then (if four g then 0 else 1) else 10
def toV (p : Pol) (g : Int) : Int := if rightP p then (if four g then p.dest g.toNat else 0) else 0
def worthOf (p : Pol) (s : Int) (r g : Nat) : Int := partV s (p.share g) 10000 - partV (partV s (p.share g) 10000) (p.fee r) 10000
def worthE (p : Pol) (s r g : Int) : Int := if rightP p then (if four r && four g then (if sumB s then 0 else 9) else 1) else 10
def worthV (p : Pol) (s r g : Int) : Int := if rightP p then (if four r && four g then (if sumB s then worthOf p s r.toNat g.toNat else 0) else 0) else 0

theorem part_points {s n : Int} (hs : sumB s = true) (hn : 0 ≤ n ∧ n ≤ 10000) : partE s n 10000 = 0 ∧ 0 ≤ partV s n 10000 ∧ partV s n 10000 ≤ s := by
  have h := of_decide_eq_true hs
  have hg := part_good (a := s) (n := n) (o := 10000) h ⟨by decide, hn⟩
  rcases part_bounds s n 10000 with h1 | h1
  · exact absurd hg.2 h1
  · exact ⟨hg.2, h1⟩
theorem part_nomoney {s n : Int} (hs : sumB s = false) : partE s n 10000 = 9 ∧ partV s n 10000 = 0 := by
  have h := of_decide_eq_false hs
  have := part_money (n := n) (o := 10000) h
  exact ⟨this.2, this.1⟩
/-- What a right policy's worth is: nothing below nought, nothing above the share. -/
theorem worth_bounds {p : Pol} (hp : RightP p) {s : Int} (hs : sumB s = true) {r g : Nat} (hr : r < 4) (hg : g < 4) : 0 ≤ worthOf p s r g ∧ worthOf p s r g ≤ s ∧ sumB (partV s (p.share g) 10000) = true := by
  obtain ⟨-, h1, h2⟩ := part_points hs (hp.share g hg)
  have h3 : sumB (partV s (p.share g) 10000) = true := decide_eq_true ⟨h1, by have := of_decide_eq_true hs; omega⟩
  obtain ⟨-, h4, h5⟩ := part_points h3 (hp.fee r hr)
  unfold worthOf
  exact ⟨by omega, by omega, h3⟩
end Go.Proofs.Ytjlgjdmnjjfhnaa
