/-
  Package cents, its core: Right, checked, Add. Conditions: those of each theorem.
-/
import Derived.Test.YtjlgjdmnjjfhnaaLaw
import Derived.Test.YtjlgjdmnjjfhnaaRd
import Derived.Deep.QuietTactic
import Derived.BigQuiet
namespace Go.Proofs.Ytjlgjdmnjjfhnaa
open Go.RowKit
set_option maxRecDepth 100000

/-- Is a sum right? -/
def Rt (a : Int) : Bool := decide (-1125899906842624 ≤ a ∧ a ≤ 1125899906842624)

theorem rt_iff {a : Int} : Rt a = true ↔ -1125899906842624 ≤ a ∧ a ≤ 1125899906842624 := by simp [Rt]

theorem rt_not {a : Int} : Rt a = false ↔ a < -1125899906842624 ∨ 1125899906842624 < a := by
  simp only [Rt, decide_eq_false_iff_not]
  omega

/-- What a sum is told as: value and error; 'ok': was all that it was made of right? -/
def tv (ok : Bool) (a : Int) : Int := if ok && Rt a then a else 0

def te (ok : Bool) (a : Int) : Int := if ok && Rt a then 0 else 9

def toldOf (ok : Bool) (a : Int) : Value := .tuple #[.int .i64 (tv ok a), .int .i64 (te ok a)]

theorem told_yes {ok : Bool} {a : Int} (h : (ok && Rt a) = true) : toldOf ok a = .tuple #[.int .i64 a, .int .i64 0] := by simp only [toldOf, tv, te, h, if_true]

theorem told_no {ok : Bool} {a : Int} (h : (ok && Rt a) = false) : toldOf ok a = .tuple #[.int .i64 0, .int .i64 9] := by simp [toldOf, tv, te, h]

theorem cents_right (a : Int) (w : World) : Calls Try.prog 25 #[.int .i64 a] w fun e w' => e = .returned (.bool (Rt a)) ∧ w = w' := by
  by_cases h1 : (-1125899906842624 : Int) ≤ a
  · by_cases h2 : a ≤ (1125899906842624 : Int)
    · have hr : Rt a = true := rt_iff.2 ⟨h1, h2⟩
      rw [hr]
      clear hr
      go_enter Try.func25, Try.ntmps25
      go_wp2
      go_ret
      exact ⟨rfl, rfl⟩
    · have hr : Rt a = false := rt_not.2 (by omega)
      rw [hr]
      clear hr
      go_enter Try.func25, Try.ntmps25
      go_wp2
      go_ret
      exact ⟨rfl, rfl⟩
  · have hr : Rt a = false := rt_not.2 (by omega)
    rw [hr]
    clear hr
    go_enter Try.func25, Try.ntmps25
    go_wp2
    go_ret
    exact ⟨rfl, rfl⟩

theorem cents_checked (a : Int) (w : World) : Calls Try.prog 26 #[.int .i64 a] w fun e w' => e = .returned (toldOf true a) ∧ w = w' := by
  by_cases h : Rt a = true
  · rw [told_yes (by simp [h])]
    go_enter Try.func26, Try.ntmps26
    go_wp2_with fail
    refine (cents_right a w).mono ?_
    rintro e w1 ⟨rfl, rfl⟩
    rw [h]
    go_wp2
    go_ret2
    exact ⟨rfl, rfl⟩
  · have h : Rt a = false := by simpa using h
    rw [told_no (by simp [h])]
    go_enter Try.func26, Try.ntmps26
    go_wp2_with fail
    refine (cents_right a w).mono ?_
    rintro e w1 ⟨rfl, rfl⟩
    rw [h]
    go_wp2
    go_ret2
    exact ⟨rfl, rfl⟩

theorem below_drawn {w w1 : World} (h : Below w.heap.size w w1) (n : Nat) : Below w.heap.size w (w1.drewN n) := ⟨h.os, h.tape, h.output, h.size, h.block⟩

end Go.Proofs.Ytjlgjdmnjjfhnaa
