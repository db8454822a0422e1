/-
  RuleMay: whether anything may come back is told as the document says. No conditions: every input.
-/
import Derived.Test.YtjlgjdmnjjfhnaaRuleLaw
import Derived.Test.YtjlgjdmnjjfhnaaRuleRef
import Derived.Deep.RegionHeld3
namespace Go.Proofs.Ytjlgjdmnjjfhnaa
open Go.RowKit Go.WideShapes
set_option maxRecDepth 100000

set_option maxHeartbeats 4000000 in
theorem ruleMay_law (p : Pol) (d : Int) (wants : Bool) (w : World) :
    Calls Try.prog 3 #[.agg p.arr, .int .i64 d, .bool wants] w fun e w' => e = .returned (.bool true) ∧ Below w.heap.size w w' := by
  have hp := pol_new w p 27
  have HB : Aside (Below w.heap.size w (w.alloc (.cells p.arr 27))) := (Below.refl _ _).alloc (Nat.le_refl _) _
  have HM : Aside (∀ W, _) := rule_may p d wants
  have HR : Aside (∀ W, _) := ref_may p d wants
  generalize mayE p d wants = E at *
  have HPA : Aside _ := hp
  clear hp
  go_enter Try.func3, Try.ntmps3
  go_upto_region 1 with (fail)
  show Code.wp _ _ _ _ (w.alloc (.cells p.arr 27))
  generalize w.alloc (.cells p.arr 27) = w1 at *
  go_wp2_with fail
  refine Calls.mono (rule_awake _) ?_
  rintro e w2 ⟨rfl, b2⟩
  have HPB := HPA.out.grown b2
  have HB2 : Aside _ := HB.out.trans (b2.mono HB.out.size)
  have hall := HPB.all
  simp only [Nat.zero_add] at hall
  obtain ⟨z0, z1, z2, z3, z4, z5, z6, z7, z8, z9, za, zb, zc, zd, ze, zf⟩ := hall
  have hw2 : w.heap.size < w2.heap.size := HPB.lt
  have b0 := Below.refl w2.heap.size w2
  have HMo : Aside (∀ W : World, Below w2.heap.size w2 W → Calls Try.prog 8 #[.agg p.arr, .int .i64 d, .bool wants] W fun e w' => e = .returned (.int .i64 E) ∧ Below w2.heap.size w2 w') := fun W h => (HM.out W).mono fun e w' ⟨h1, h2⟩ => ⟨h1, h.trans (h2.mono h.size)⟩
  have HRo : Aside (∀ W : World, Below w2.heap.size w2 W → Calls Try.prog 9 #[.agg p.arr, .int .i64 d, .bool wants] W fun e w' => e = .returned (.int .i64 E) ∧ Below w2.heap.size w2 w') := fun W h => (HR.out W).mono fun e w' ⟨h1, h2⟩ => ⟨h1, h.trans (h2.mono h.size)⟩
  clear HM HR
  clear HPB HPA b2
  go_wp2_with fail
  as_aux_lemma =>
    go_region_held3 (fun w' => Below w2.heap.size w2 w' ∧ w'.cell? ⟨w.heap.size, 0, none⟩ = some (.int .i64 p.win) ∧ w'.cell? ⟨w.heap.size, 1, none⟩ = some (.bool p.fin) ∧ w'.cell? ⟨w.heap.size, 2, none⟩ = some (.bool p.exc) ∧ w'.cell? ⟨w.heap.size, 3, none⟩ = some (.bool p.cre) ∧ w'.cell? ⟨w.heap.size, 4, none⟩ = some (.int .i64 (p.fee 0)) ∧ w'.cell? ⟨w.heap.size, 5, none⟩ = some (.int .i64 (p.fee 1)) ∧ w'.cell? ⟨w.heap.size, 6, none⟩ = some (.int .i64 (p.fee 2)) ∧ w'.cell? ⟨w.heap.size, 7, none⟩ = some (.int .i64 (p.fee 3)) ∧ w'.cell? ⟨w.heap.size, 8, none⟩ = some (.int .i64 (p.share 0)) ∧ w'.cell? ⟨w.heap.size, 9, none⟩ = some (.int .i64 (p.dest 0)) ∧ w'.cell? ⟨w.heap.size, 10, none⟩ = some (.int .i64 (p.share 1)) ∧ w'.cell? ⟨w.heap.size, 11, none⟩ = some (.int .i64 (p.dest 1)) ∧ w'.cell? ⟨w.heap.size, 12, none⟩ = some (.int .i64 (p.share 2)) ∧ w'.cell? ⟨w.heap.size, 13, none⟩ = some (.int .i64 (p.dest 2)) ∧ w'.cell? ⟨w.heap.size, 14, none⟩ = some (.int .i64 (p.share 3)) ∧ w'.cell? ⟨w.heap.size, 15, none⟩ = some (.int .i64 (p.dest 3)))
      (refine ⟨?_, (Below.cell (p := ⟨w.heap.size, 0, none⟩) (B := w2.heap.size) ?_ hw2).trans z0, (Below.cell (p := ⟨w.heap.size, 1, none⟩) (B := w2.heap.size) ?_ hw2).trans z1, (Below.cell (p := ⟨w.heap.size, 2, none⟩) (B := w2.heap.size) ?_ hw2).trans z2, (Below.cell (p := ⟨w.heap.size, 3, none⟩) (B := w2.heap.size) ?_ hw2).trans z3, (Below.cell (p := ⟨w.heap.size, 4, none⟩) (B := w2.heap.size) ?_ hw2).trans z4, (Below.cell (p := ⟨w.heap.size, 5, none⟩) (B := w2.heap.size) ?_ hw2).trans z5, (Below.cell (p := ⟨w.heap.size, 6, none⟩) (B := w2.heap.size) ?_ hw2).trans z6, (Below.cell (p := ⟨w.heap.size, 7, none⟩) (B := w2.heap.size) ?_ hw2).trans z7, (Below.cell (p := ⟨w.heap.size, 8, none⟩) (B := w2.heap.size) ?_ hw2).trans z8, (Below.cell (p := ⟨w.heap.size, 9, none⟩) (B := w2.heap.size) ?_ hw2).trans z9, (Below.cell (p := ⟨w.heap.size, 10, none⟩) (B := w2.heap.size) ?_ hw2).trans za, (Below.cell (p := ⟨w.heap.size, 11, none⟩) (B := w2.heap.size) ?_ hw2).trans zb, (Below.cell (p := ⟨w.heap.size, 12, none⟩) (B := w2.heap.size) ?_ hw2).trans zc, (Below.cell (p := ⟨w.heap.size, 13, none⟩) (B := w2.heap.size) ?_ hw2).trans zd, (Below.cell (p := ⟨w.heap.size, 14, none⟩) (B := w2.heap.size) ?_ hw2).trans ze, (Below.cell (p := ⟨w.heap.size, 15, none⟩) (B := w2.heap.size) ?_ hw2).trans zf⟩ <;> (with_reducible (repeat (first | assumption | refine Below.drew ?_))))
      ((first
        | (go_at_call 8; refine Calls.mono (HMo.out _ ?_) ?_; (with_reducible (repeat (first | assumption | refine Below.drew ?_))); rintro e w8 ⟨rfl, b8⟩)
        | (go_at_call 9; refine Calls.mono (HRo.out _ ?_) ?_; (with_reducible (repeat (first | assumption | refine Below.drew ?_))); rintro e w8 ⟨rfl, b8⟩)))
    all_goals
      go_wp2
      go_ret
      exact ⟨rfl, HB2.out.trans (b8.mono HB2.out.size)⟩

theorem ruleMay_contract (W : World) (args : Array Value) (h : Each Try.prog W Try.f3.params.toList args.toList) :
    Calls Try.prog 3 args W fun e W' => e = .returned (.bool true) ∧ Below W.heap.size W W' := by
  rw [Try.params3] at h
  obtain ⟨v0, r0, e0, ⟨_, o0⟩, d0, h⟩ := h.cons
  obtain ⟨v1, r1, rfl, ⟨_, o1⟩, d1, h⟩ := h.cons
  obtain ⟨v2, r2, rfl, ⟨_, o2⟩, d2, h⟩ := h.cons
  obtain rfl := h.nil
  obtain ⟨args⟩ := args
  obtain rfl : args = [v0, v1, v2] := e0
  obtain ⟨x1, rfl, hx1⟩ := val_int o1 d1 Try.underlying3
  obtain ⟨p0, rfl, hf0⟩ := val_pol o0 d0
  obtain ⟨b2, rfl⟩ := val_bool o2 d2 Try.underlying4
  exact ruleMay_law p0 x1 b2 W

theorem ruleMay_lifted (os : Os) (started : os.Started) (H : Type) (enc : TypeId × Value → H) :
    ReturnsInHanded {} Try.checked os 3 .any (Rows.ruleMaySpec.pre6 enc Try.prog Try.f3 Rows.ruleMayRow.domain false) (Rows.ruleMaySpec.post enc Try.prog Try.f3 false true false false) :=
  law_lifted (C := Try.checked) seat_own seat_laid (by kernel_rfl) Try.func3 rfl (tb := 4) rfl Try.underlying4
    (by
      rw [Try.params3]; intro t ht; simp at ht
      rcases ht with rfl | rfl | rfl <;> exact ⟨by kernel_rfl, of_decide_eq_true (by kernel_rfl)⟩)
    (fun H ds hl => by
      rw [Try.params3] at hl
      match ds, hl with
      | [d1, d2, d3], _ => rfl)
    os started H enc
    (ChangeSpec.witness6 (enc := enc) (C := Try.checked) false ⟨#[], #[.agg #[.int .i64 0, .bool false, .bool false, .bool false, .int .i64 0, .int .i64 0, .int .i64 0, .int .i64 0, .int .i64 0, .int .i64 0, .int .i64 0, .int .i64 0, .int .i64 0, .int .i64 0, .int .i64 0, .int .i64 0], .int .i64 0, .bool false], []⟩ 8 (by kernel_rfl) (by kernel_rfl) (by kernel_rfl) (by kernel_rfl))
    ruleMay_contract

theorem ruleMay_holds : Rows.RuleMaySaid :=
  OpenClaim.holds_of_wide 3 Try.f3 rfl rfl rfl rfl rfl rfl rfl ⟨rfl, rfl, rfl, rfl, rfl⟩ rfl rfl rfl rfl rfl (by kernel_rfl) Try.func3 (by kernel_rfl)
    (of_decide_eq_true (by kernel_rfl)) (by unfold Func.isWrapper; first | (rw [if_pos (by decide +kernel)]; kernel_rfl) | (rw [if_neg (by decide +kernel)]; exact ⟨rfl, rfl⟩))
    (fun os started H enc _ => ruleMay_lifted os started H enc)
#print axioms ruleMay_holds
end Go.Proofs.Ytjlgjdmnjjfhnaa
