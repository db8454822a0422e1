/-
  CentsSums: sums are added and taken away, if all are right, and else refused. No conditions: every input.
-/
import Derived.Test.YteaapfagajdomaaCents
namespace Go.Proofs.Yteaapfagajdomaa
open Go.RowKit Go.WideShapes
set_option maxRecDepth 100000

theorem told_told (a : Int) (w : World) : Calls Try.prog 12 #[.int .i64 (tv true a), .int .i64 (te true a), .int .i64 a] w fun e w' => e = .returned (.bool true) ∧ w = w' := by
  by_cases h : Rt a = true
  · have e1 : tv true a = a := by simp [tv, h]
    have e2 : te true a = 0 := by simp [te, h]
    rw [e1, e2]
    clear e1 e2
    go_enter Try.func12, Try.ntmps12
    go_wp2_with fail
    refine (ref_right a w).mono ?_
    rintro e w1 ⟨rfl, rfl⟩
    rw [h]
    go_wp2
    go_ret
    exact ⟨rfl, rfl⟩
  · have h : Rt a = false := by simpa using h
    have e1 : tv true a = 0 := by simp [tv, h]
    have e2 : te true a = 9 := by simp [te, h]
    rw [e1, e2]
    clear e1 e2
    go_enter Try.func12, Try.ntmps12
    go_wp2_with fail
    refine (ref_right a w).mono ?_
    rintro e w1 ⟨rfl, rfl⟩
    rw [h]
    go_wp2
    go_ret
    exact ⟨rfl, rfl⟩

set_option maxHeartbeats 800000 in
theorem sums_law (a b : Int) (w : World) : Calls Try.prog 3 #[.int .i64 a, .int .i64 b] w fun e w' => e = .returned (.bool true) ∧ Below w.heap.size w w' := by
  have hA := fun w => cents_add a b w
  have hS := fun w => cents_sub a b w
  by_cases ha : Rt a = true
  · by_cases hb : Rt b = true
    · rw [ha, hb, Bool.and_self] at hA hS
      have a1 := (rt_iff.1 ha).1
      have a2 := (rt_iff.1 ha).2
      have b1 := (rt_iff.1 hb).1
      have b2 := (rt_iff.1 hb).2
      go_enter Try.func3, Try.ntmps3
      go_wp2_with fail
      refine (cents_awake w).mono ?_
      rintro e w1 ⟨rfl, d1⟩
      go_wp2_with fail
      refine (hA w1).mono ?_
      rintro e w2 ⟨rfl, rfl⟩
      unfold toldOf
      go_wp2_with fail
      refine (hS w1).mono ?_
      rintro e w2 ⟨rfl, rfl⟩
      unfold toldOf
      go_wp2_with fail
      refine (ref_right a w1).mono ?_
      rintro e w2 ⟨rfl, rfl⟩
      rw [ha]
      go_wp2_with fail
      refine (ref_right b w1).mono ?_
      rintro e w2 ⟨rfl, rfl⟩
      rw [hb]
      go_wp2_with fail
      refine (cents_right a w1).mono ?_
      rintro e w2 ⟨rfl, rfl⟩
      rw [ha]
      go_wp2_with fail
      refine (told_told (a + b) w1).mono ?_
      rintro e w2 ⟨rfl, rfl⟩
      go_wp2_with fail
      refine (told_told (a - b) w1).mono ?_
      rintro e w2 ⟨rfl, rfl⟩
      go_wp2
      go_ret
      exact ⟨rfl, d1⟩
    · have hb : Rt b = false := by simpa using hb
      rw [hb, Bool.and_false] at hA hS
      rw [told_no rfl] at hA hS
      go_enter Try.func3, Try.ntmps3
      go_wp2_with fail
      refine (cents_awake w).mono ?_
      rintro e w1 ⟨rfl, d1⟩
      go_wp2_with fail
      refine (hA w1).mono ?_
      rintro e w2 ⟨rfl, rfl⟩
      go_wp2_with fail
      refine (hS w1).mono ?_
      rintro e w2 ⟨rfl, rfl⟩
      go_wp2_with fail
      refine (ref_right a w1).mono ?_
      rintro e w2 ⟨rfl, rfl⟩
      rw [ha]
      go_wp2_with fail
      refine (ref_right b w1).mono ?_
      rintro e w2 ⟨rfl, rfl⟩
      rw [hb]
      go_wp2_with fail
      refine (cents_right a w1).mono ?_
      rintro e w2 ⟨rfl, rfl⟩
      go_wp2_with fail
      refine (ref_right a w1).mono ?_
      rintro e w2 ⟨rfl, rfl⟩
      rw [ha]
      go_wp2
      go_ret
      exact ⟨rfl, d1⟩
  · have ha : Rt a = false := by simpa using ha
    rw [ha, Bool.false_and] at hA hS
    rw [told_no rfl] at hA hS
    go_enter Try.func3, Try.ntmps3
    go_wp2_with fail
    refine (cents_awake w).mono ?_
    rintro e w1 ⟨rfl, d1⟩
    go_wp2_with fail
    refine (hA w1).mono ?_
    rintro e w2 ⟨rfl, rfl⟩
    go_wp2_with fail
    refine (hS w1).mono ?_
    rintro e w2 ⟨rfl, rfl⟩
    go_wp2_with fail
    refine (ref_right a w1).mono ?_
    rintro e w2 ⟨rfl, rfl⟩
    rw [ha]
    go_wp2_with fail
    refine (cents_right a w1).mono ?_
    rintro e w2 ⟨rfl, rfl⟩
    go_wp2_with fail
    refine (ref_right a w1).mono ?_
    rintro e w2 ⟨rfl, rfl⟩
    rw [ha]
    go_wp2
    go_ret
    exact ⟨rfl, d1⟩

theorem sums_contract (W : World) (args : Array Value) (h : Each Try.prog W Try.f3.params.toList args.toList) :
    Calls Try.prog 3 args W fun e W' => e = .returned (.bool true) ∧ Below W.heap.size W W' := by
  rw [Try.params3] at h
  obtain ⟨v0, r0, e0, ⟨_, o0⟩, d0, h⟩ := h.cons
  obtain ⟨v1, r1, rfl, ⟨_, o1⟩, d1, h⟩ := h.cons
  obtain rfl := h.nil
  obtain ⟨args⟩ := args
  obtain rfl : args = [v0, v1] := e0
  obtain ⟨a, rfl, ha⟩ := val_int o0 d0 Try.underlying2
  obtain ⟨b, rfl, hb⟩ := val_int o1 d1 Try.underlying2
  exact sums_law a b W

theorem cents_own : ownKnob Try.prog.godebug = none := by kernel_rfl
theorem cents_laidOut : laidOutB Try.prog = true := by kernel_rfl

theorem sums_lifted (os : Os) (started : os.Started) (H : Type) (enc : TypeId × Value → H) :
    ReturnsInHanded {} Try.checked os 3 .any (Rows.centsSumsSpec.pre6 enc Try.prog Try.f3 Rows.centsSumsRow.domain false) (Rows.centsSumsSpec.post enc Try.prog Try.f3 false true false false) :=
  law_lifted (C := Try.checked) cents_own cents_laidOut (by kernel_rfl) Try.func3 rfl (tb := 4) rfl Try.underlying4
    (by
      rw [Try.params3]; intro t ht; simp at ht
      obtain rfl := ht; exact ⟨by kernel_rfl, of_decide_eq_true (by kernel_rfl)⟩)
    (fun H ds hl => by
      rw [Try.params3] at hl
      match ds, hl with
      | [d1, d2], _ => rfl)
    os started H enc
    (ChangeSpec.witness6 (enc := enc) (C := Try.checked) false ⟨#[], #[.int .i64 0, .int .i64 0], []⟩ 8 (by kernel_rfl) (by kernel_rfl) (by kernel_rfl) (by kernel_rfl))
    sums_contract

theorem centsSums_holds : Rows.CentsSumsSaid :=
  OpenClaim.holds_of_wide 3 Try.f3 rfl rfl rfl rfl rfl rfl rfl ⟨rfl, rfl, rfl, rfl, rfl⟩ rfl rfl rfl rfl rfl (by kernel_rfl) Try.func3 (by kernel_rfl)
    (of_decide_eq_true (by kernel_rfl)) (by unfold Func.isWrapper; first | (rw [if_pos (by decide +kernel)]; kernel_rfl) | (rw [if_neg (by decide +kernel)]; exact ⟨rfl, rfl⟩))
    (fun os started H enc _ => sums_lifted os started H enc)
#print axioms centsSums_holds
end Go.Proofs.Yteaapfagajdomaa
