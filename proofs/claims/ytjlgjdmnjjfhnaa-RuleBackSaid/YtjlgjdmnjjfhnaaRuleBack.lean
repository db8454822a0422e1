/-
  RuleBack: what goes back to who sent it is worth nothing. No conditions: every input.
-/
import Derived.Test.YtjlgjdmnjjfhnaaRuleLaw
import Derived.Test.YtjlgjdmnjjfhnaaRuleFacts
namespace Go.Proofs.Ytjlgjdmnjjfhnaa
open Go.RowKit Go.WideShapes
set_option maxRecDepth 100000

set_option maxHeartbeats 4000000 in
theorem ruleBack_law (p : Pol) (s r g : Int) (w : World) :
    Calls Try.prog 6 #[.agg p.arr, .int .i64 s, .int .i64 r, .int .i64 g] w fun e w' => e = .returned (.bool true) ∧ Below w.heap.size w w' := by
  have hp := pol_new w p 27
  have HB : Aside (Below w.heap.size w (w.alloc (.cells p.arr 27))) := (Below.refl _ _).alloc (Nat.le_refl _) _
  have HW1 : Aside (∀ W, _) := rule_worth p s r g
  have HT : Aside (∀ W, _) := rule_to p g
  have HK : Hid (worthE p s r g = 0 → toV p g = 0 → worthV p s r g = 0) := worth_back
  generalize worthV p s r g = V at *
  generalize worthE p s r g = E at *
  generalize toV p g = T at *
  generalize toE p g = G at *
  have HPA : Aside _ := hp
  clear hp
  go_enter Try.func6, Try.ntmps6
  go_upto_region 1 with (fail)
  show Code.wp _ _ _ _ (w.alloc (.cells p.arr 27))
  generalize w.alloc (.cells p.arr 27) = w1 at *
  go_wp2_with fail
  refine Calls.mono (rule_awake _) ?_
  rintro e w2 ⟨rfl, b2⟩
  have HP2 : Aside _ := HPA.out.grown b2
  have HB2 : Aside _ := HB.out.trans (b2.mono HB.out.size)
  clear HPA HB b2
  have hcs := HP2.out.cells
  go_wp2_with (refine wpList_load_cells rfl 27 _ rfl w.heap.size 0 rfl p.arr _ hcs Try.underlying27 rfl info_pol ?_)
  refine Calls.mono (HW1.out _) ?_
  rintro e w3 ⟨rfl, b3⟩
  have HP3 : Aside _ := HP2.out.grown b3
  have HB3 : Aside _ := HB2.out.trans (b3.mono HB2.out.size)
  clear HP2 HB2 b3 HW1 hcs
  have hcs := HP3.out.cells
  go_wp2_with (refine wpList_load_cells rfl 27 _ rfl w.heap.size 0 rfl p.arr _ hcs Try.underlying27 rfl info_pol ?_)
  refine Calls.mono (HT.out _) ?_
  rintro e w4 ⟨rfl, b4⟩
  have HB4 : Aside _ := HB3.out.trans (b4.mono HB3.out.size)
  clear HP3 HB3 b4 HT hcs
  by_cases h1 : E = 0
  · subst h1
    by_cases h2 : G = 0
    · subst h2
      by_cases h3 : T = 0
      · subst h3
        obtain rfl : V = 0 := HK.out rfl rfl
        clear HK
        go_wp2
        go_ret
        exact ⟨rfl, HB4.out⟩
      · have h3' : (T != 0) = true := by simpa using h3
        clear HK h3
        go_wp2
        go_ret
        exact ⟨rfl, HB4.out⟩
    · have h2' : (G != 0) = true := by simpa using h2
      clear HK h2
      go_wp2
      go_ret
      exact ⟨rfl, HB4.out⟩
  · have h1' : (E != 0) = true := by simpa using h1
    clear HK h1
    go_wp2
    go_ret
    exact ⟨rfl, HB4.out⟩

theorem ruleBack_contract (W : World) (args : Array Value) (h : Each Try.prog W Try.f6.params.toList args.toList) :
    Calls Try.prog 6 args W fun e W' => e = .returned (.bool true) ∧ Below W.heap.size W W' := by
  rw [Try.params6] at h
  obtain ⟨v0, r0, e0, ⟨_, o0⟩, d0, h⟩ := h.cons
  obtain ⟨v1, r1, rfl, ⟨_, o1⟩, d1, h⟩ := h.cons
  obtain ⟨v2, r2, rfl, ⟨_, o2⟩, d2, h⟩ := h.cons
  obtain ⟨v3, r3, rfl, ⟨_, o3⟩, d3, h⟩ := h.cons
  obtain rfl := h.nil
  obtain ⟨args⟩ := args
  obtain rfl : args = [v0, v1, v2, v3] := e0
  obtain ⟨x1, rfl, hx1⟩ := val_int o1 d1 Try.underlying2
  obtain ⟨x2, rfl, hx2⟩ := val_int o2 d2 Try.underlying3
  obtain ⟨x3, rfl, hx3⟩ := val_int o3 d3 Try.underlying3
  obtain ⟨p0, rfl, hf0⟩ := val_pol o0 d0
  exact ruleBack_law p0 x1 x2 x3 W

theorem ruleBack_lifted (os : Os) (started : os.Started) (H : Type) (enc : TypeId × Value → H) :
    ReturnsInHanded {} Try.checked os 6 .any (Rows.ruleBackSpec.pre6 enc Try.prog Try.f6 Rows.ruleBackRow.domain false) (Rows.ruleBackSpec.post enc Try.prog Try.f6 false true false false) :=
  law_lifted (C := Try.checked) seat_own seat_laid (by kernel_rfl) Try.func6 rfl (tb := 4) rfl Try.underlying4
    (by
      rw [Try.params6]; intro t ht; simp at ht
      rcases ht with rfl | rfl | rfl | rfl <;> exact ⟨by kernel_rfl, of_decide_eq_true (by kernel_rfl)⟩)
    (fun H ds hl => by
      rw [Try.params6] at hl
      match ds, hl with
      | [d1, d2, d3, d4], _ => rfl)
    os started H enc
    (ChangeSpec.witness6 (enc := enc) (C := Try.checked) false ⟨#[], #[.agg #[.int .i64 0, .bool false, .bool false, .bool false, .int .i64 0, .int .i64 0, .int .i64 0, .int .i64 0, .int .i64 0, .int .i64 0, .int .i64 0, .int .i64 0, .int .i64 0, .int .i64 0, .int .i64 0, .int .i64 0], .int .i64 0, .int .i64 0, .int .i64 0], []⟩ 8 (by kernel_rfl) (by kernel_rfl) (by kernel_rfl) (by kernel_rfl))
    ruleBack_contract

theorem ruleBack_holds : Rows.RuleBackSaid :=
  OpenClaim.holds_of_wide 6 Try.f6 rfl rfl rfl rfl rfl rfl rfl ⟨rfl, rfl, rfl, rfl, rfl⟩ rfl rfl rfl rfl rfl (by kernel_rfl) Try.func6 (by kernel_rfl)
    (of_decide_eq_true (by kernel_rfl)) (by unfold Func.isWrapper; first | (rw [if_pos (by decide +kernel)]; kernel_rfl) | (rw [if_neg (by decide +kernel)]; exact ⟨rfl, rfl⟩))
    (fun os started H enc _ => ruleBack_lifted os started H enc)
#print axioms ruleBack_holds
end Go.Proofs.Ytjlgjdmnjjfhnaa
