/-
  StockMay: whether a unit moves from one place to another is told as the document says. No conditions: every input.
-/
import Derived.Test.YtakdodcdgmbhaaaStockLaw
namespace Go.Proofs.Ytakdodcdgmbhaaa
open Go.RowKit Go.WideShapes
set_option maxRecDepth 100000

theorem stockMay_law (f t : Int) (w : World) : Calls Try.prog 5 #[.int .i64 f, .int .i64 t] w fun e w' => e = .returned (.bool true) ∧ Below w.heap.size w w' := by
  have HM : Aside (∀ W, _) := fun W => stk_may f t W
  have HR : Aside (∀ W, _) := fun W => stk_rmay f t W
  generalize mayB f t = q at *
  go_enter Try.func5, Try.ntmps5
  go_wp2_with fail
  refine Calls.mono (stk_awake _) ?_
  rintro e w1 ⟨rfl, b1⟩
  have HB : Aside _ := b1
  clear b1
  go_wp2_with fail
  refine Calls.mono (HM.out _) ?_
  rintro e w2 ⟨rfl, rfl⟩
  go_wp2_with fail
  refine Calls.mono (HR.out _) ?_
  rintro e w2 ⟨rfl, rfl⟩
  go_wp2
  go_ret
  exact ⟨by simp, HB.out⟩

theorem stockMay_contract (W : World) (args : Array Value) (h : Each Try.prog W Try.f5.params.toList args.toList) :
    Calls Try.prog 5 args W fun e W' => e = .returned (.bool true) ∧ Below W.heap.size W W' := by
  rw [Try.params5] at h
  obtain ⟨v0, r0, e0, ⟨_, o0⟩, d0, h⟩ := h.cons
  obtain ⟨v1, r1, rfl, ⟨_, o1⟩, d1, h⟩ := h.cons
  obtain rfl := h.nil
  obtain ⟨args⟩ := args
  obtain rfl : args = [v0, v1] := e0
  obtain ⟨x0, rfl, hx0⟩ := val_int o0 d0 Try.underlying3
  obtain ⟨x1, rfl, hx1⟩ := val_int o1 d1 Try.underlying3
  exact stockMay_law x0 x1 W

theorem stockMay_lifted (os : Os) (started : os.Started) (H : Type) (enc : TypeId × Value → H) :
    ReturnsInHanded {} Try.checked os 5 .any (Rows.stockMaySpec.pre6 enc Try.prog Try.f5 Rows.stockMayRow.domain false) (Rows.stockMaySpec.post enc Try.prog Try.f5 false true false false) :=
  law_lifted (C := Try.checked) seat_own seat_laid (by kernel_rfl) Try.func5 rfl (tb := 4) rfl Try.underlying4
    (by
      rw [Try.params5]; intro t ht; simp at ht
      rcases ht with rfl | rfl <;> exact ⟨by kernel_rfl, of_decide_eq_true (by kernel_rfl)⟩)
    (fun H ds hl => by
      rw [Try.params5] at hl
      match ds, hl with
      | [d1, d2], _ => rfl)
    os started H enc
    (ChangeSpec.witness6 (enc := enc) (C := Try.checked) false ⟨#[], #[.int .i64 0, .int .i64 0], []⟩ 8 (by kernel_rfl) (by kernel_rfl) (by kernel_rfl) (by kernel_rfl))
    stockMay_contract

theorem stockMay_holds : Rows.StockMaySaid :=
  OpenClaim.holds_of_wide 5 Try.f5 rfl rfl rfl rfl rfl rfl rfl ⟨rfl, rfl, rfl, rfl, rfl⟩ rfl rfl rfl rfl rfl (by kernel_rfl) Try.func5 (by kernel_rfl)
    (of_decide_eq_true (by kernel_rfl)) (by unfold Func.isWrapper; first | (rw [if_pos (by decide +kernel)]; kernel_rfl) | (rw [if_neg (by decide +kernel)]; exact ⟨rfl, rfl⟩))
    (fun os started H enc _ => stockMay_lifted os started H enc)
#print axioms stockMay_holds
end Go.Proofs.Ytakdodcdgmbhaaa
