/-
  The laws of layer 9, what they share: the arguments, awake. Conditions: those of the theorems.
-/
import Derived.Test.YtjlgjdmnjjfhnaaRuleDue
import Derived.Test.YtjlgjdmnjjfhnaaPolArgs
import Derived.Test.YtjlgjdmnjjfhnaaOwn
namespace Go.Proofs.Ytjlgjdmnjjfhnaa
open Go.RowKit
set_option maxRecDepth 100000

theorem val_pol {w : World} {v : Value} {r : Reach} {base : Nat} (hv : Value.okWide Try.prog w r base 27 v) (h : Rd Try.prog w 27 v.cells.toList) : ∃ p : Pol, v = .agg p.arr ∧ PolFit p := by
  have e : v = .agg v.cells := by
    simp only [Value.okWide, Try.underlying27] at hv
    obtain ⟨cs, rfl, _⟩ := hv
    rfl
  obtain ⟨p, h1, h2⟩ := rd_pol h
  refine ⟨p, ?_, h2⟩
  rw [e]
  congr 1
  exact Array.toList_inj.1 h1

theorem rule_awake (w : World) : Calls Try.prog 7 #[] w fun e w' => e = .returned (.bool true) ∧ Below w.heap.size w w' := by
  have HM : Aside (∀ W, Calls Try.prog 8 #[.agg #[.int .i64 0, .bool true, .bool false, .bool false, .int .i64 0, .int .i64 0, .int .i64 0, .int .i64 0, .int .i64 0, .int .i64 0, .int .i64 0, .int .i64 0, .int .i64 0, .int .i64 0, .int .i64 0, .int .i64 0], .int .i64 0, .bool true] W fun e w' => e = .returned (.int .i64 12) ∧ Below W.heap.size W w') :=
    fun W => rule_may ⟨0, true, false, false, fun _ => 0, fun _ => 0, fun _ => 0⟩ 0 true W
  go_enter Try.func7, Try.ntmps7
  go_wp2_with fail
  refine Calls.mono (HM.out _) ?_
  rintro e w1 ⟨rfl, b1⟩
  go_wp2
  go_ret
  exact ⟨rfl, b1⟩
end Go.Proofs.Ytjlgjdmnjjfhnaa
