/-
  CentsTimes: a sum so many times is what it is, added up, or refused. No conditions: every input.
-/
import Derived.Test.YteaapfagajdomaaCentsSums
namespace Go.Proofs.Yteaapfagajdomaa
open Go.RowKit Go.WideShapes
set_option maxRecDepth 100000

theorem mul_alike {a n : Int} (h : a < 0 ↔ n < 0) : a * n = ((a.natAbs * n.natAbs : Nat) : Int) := by
  rw [Int.natCast_mul]
  by_cases ha : a < 0
  · have hn := h.1 ha
    rw [show a * n = -a * -n from (Int.neg_mul_neg a n).symm]
    congr 1 <;> omega
  · have hn : ¬ n < 0 := fun x => ha (h.2 x)
    congr 1 <;> omega
theorem mul_other {a n : Int} (h : ¬ (a < 0 ↔ n < 0)) : a * n = -((a.natAbs * n.natAbs : Nat) : Int) := by
  rw [Int.natCast_mul]
  by_cases ha : a < 0
  · have hn : ¬ n < 0 := fun x => h ⟨fun _ => x, fun _ => ha⟩
    rw [← Int.neg_mul]
    congr 1 <;> omega
  · have hn : n < 0 := by
      by_cases hn : n < 0
      · exact hn
      · exact absurd ⟨fun x => absurd x ha, fun x => absurd x hn⟩ h
    rw [← Int.mul_neg]
    congr 1 <;> omega
theorem rt_mul {a n : Int} : Rt (a * n) = decide (a.natAbs * n.natAbs ≤ 1125899906842624) := by
  by_cases h : a < 0 ↔ n < 0
  · rw [mul_alike h]
    generalize a.natAbs * n.natAbs = p
    rw [Bool.eq_iff_iff, rt_iff, decide_eq_true_iff]
    omega
  · rw [mul_other h]
    generalize a.natAbs * n.natAbs = p
    rw [Bool.eq_iff_iff, rt_iff, decide_eq_true_iff]
    omega

set_option maxHeartbeats 800000 in
theorem cents_times (a n : Int) (hn1 : -9223372036854775808 ≤ n) (hn2 : n ≤ 9223372036854775807) (w : World) :
    Calls Try.prog 13 #[.int .i64 a, .int .i64 n] w fun e w' => e = .returned (toldOf (Rt a) (a * n)) ∧ w = w' := by
  by_cases ha : Rt a = true
  · have a1 := (rt_iff.1 ha).1
    have a2 := (rt_iff.1 ha).2
    have hk : a.natAbs < 18446744073709551616 := by omega
    have hm : n.natAbs < 18446744073709551616 := by omega
    have hM := fun w => bits_mul64 a.natAbs n.natAbs hk hm w
    by_cases hp : a.natAbs * n.natAbs ≤ 1125899906842624
    · have ht : Rt (a * n) = true := by rw [rt_mul]; simpa using hp
      rw [told_yes (by rw [ha, ht]; rfl)]
      have e1 := fun h : a < 0 ↔ n < 0 => mul_alike h
      have e2 := fun h : ¬ (a < 0 ↔ n < 0) => mul_other h
      rw [show a.natAbs * n.natAbs / 18446744073709551616 = 0 from Nat.div_eq_of_lt (by omega), show a.natAbs * n.natAbs % 18446744073709551616 = a.natAbs * n.natAbs from Nat.mod_eq_of_lt (by omega)] at hM
      generalize a.natAbs * n.natAbs = p at *
      generalize a * n = x at *
      clear ht
      by_cases s1 : a < 0
      · by_cases s2 : n < 0
        · obtain rfl := e1 ⟨fun _ => s2, fun _ => s1⟩
          clear e1 e2
          have b1 : decide (a < 0) = true := by simpa using s1
          have b2 : decide (n < 0) = true := by simpa using s2
          go_enter Try.func13, Try.ntmps13
          go_wp2_with fail
          refine (cents_right a w).mono ?_
          rintro e w1 ⟨rfl, rfl⟩
          rw [ha]
          go_wp2_with fail
          refine (cents_size a (by omega) (by omega) w).mono ?_
          rintro e w1 ⟨rfl, rfl⟩
          go_wp2_with fail
          refine (cents_size n hn1 hn2 w).mono ?_
          rintro e w1 ⟨rfl, rfl⟩
          go_wp2_with fail
          refine (hM w).mono ?_
          rintro e w1 ⟨rfl, rfl⟩
          go_wp2
          go_ret2
          exact ⟨rfl, rfl⟩
        · obtain rfl := e2 (fun h => s2 (h.1 s1))
          clear e1 e2
          have b1 : decide (a < 0) = true := by simpa using s1
          have b2 : decide (n < 0) = false := by simpa using s2
          go_enter Try.func13, Try.ntmps13
          go_wp2_with fail
          refine (cents_right a w).mono ?_
          rintro e w1 ⟨rfl, rfl⟩
          rw [ha]
          go_wp2_with fail
          refine (cents_size a (by omega) (by omega) w).mono ?_
          rintro e w1 ⟨rfl, rfl⟩
          go_wp2_with fail
          refine (cents_size n hn1 hn2 w).mono ?_
          rintro e w1 ⟨rfl, rfl⟩
          go_wp2_with fail
          refine (hM w).mono ?_
          rintro e w1 ⟨rfl, rfl⟩
          go_wp2
          go_ret2
          exact ⟨rfl, rfl⟩
      · by_cases s2 : n < 0
        · obtain rfl := e2 (fun h => s1 (h.2 s2))
          clear e1 e2
          have b1 : decide (a < 0) = false := by simpa using s1
          have b2 : decide (n < 0) = true := by simpa using s2
          go_enter Try.func13, Try.ntmps13
          go_wp2_with fail
          refine (cents_right a w).mono ?_
          rintro e w1 ⟨rfl, rfl⟩
          rw [ha]
          go_wp2_with fail
          refine (cents_size a (by omega) (by omega) w).mono ?_
          rintro e w1 ⟨rfl, rfl⟩
          go_wp2_with fail
          refine (cents_size n hn1 hn2 w).mono ?_
          rintro e w1 ⟨rfl, rfl⟩
          go_wp2_with fail
          refine (hM w).mono ?_
          rintro e w1 ⟨rfl, rfl⟩
          go_wp2
          go_ret2
          exact ⟨rfl, rfl⟩
        · obtain rfl := e1 ⟨fun h => absurd h s1, fun h => absurd h s2⟩
          clear e1 e2
          have b1 : decide (a < 0) = false := by simpa using s1
          have b2 : decide (n < 0) = false := by simpa using s2
          go_enter Try.func13, Try.ntmps13
          go_wp2_with fail
          refine (cents_right a w).mono ?_
          rintro e w1 ⟨rfl, rfl⟩
          rw [ha]
          go_wp2_with fail
          refine (cents_size a (by omega) (by omega) w).mono ?_
          rintro e w1 ⟨rfl, rfl⟩
          go_wp2_with fail
          refine (cents_size n hn1 hn2 w).mono ?_
          rintro e w1 ⟨rfl, rfl⟩
          go_wp2_with fail
          refine (hM w).mono ?_
          rintro e w1 ⟨rfl, rfl⟩
          go_wp2
          go_ret2
          exact ⟨rfl, rfl⟩
    · have ht : Rt (a * n) = false := by rw [rt_mul]; simpa using hp
      rw [told_no (by rw [ha, ht]; rfl)]
      clear ht
      by_cases hh : a.natAbs * n.natAbs / 18446744073709551616 = 0
      · have hl : ¬ a.natAbs * n.natAbs % 18446744073709551616 ≤ 1125899906842624 := by
          generalize a.natAbs * n.natAbs = p at *
          omega
        rw [hh] at hM
        generalize a.natAbs * n.natAbs % 18446744073709551616 = lo at *
        clear hp hh
        have hl' : (1125899906842624 : Int) < (lo : Int) := by omega
        clear hl
        go_enter Try.func13, Try.ntmps13
        go_wp2_with fail
        refine (cents_right a w).mono ?_
        rintro e w1 ⟨rfl, rfl⟩
        rw [ha]
        go_wp2_with fail
        refine (cents_size a (by omega) (by omega) w).mono ?_
        rintro e w1 ⟨rfl, rfl⟩
        go_wp2_with fail
        refine (cents_size n hn1 hn2 w).mono ?_
        rintro e w1 ⟨rfl, rfl⟩
        go_wp2_with fail
        refine (hM w).mono ?_
        rintro e w1 ⟨rfl, rfl⟩
        go_wp2
        go_ret2
        exact ⟨rfl, rfl⟩
      · generalize a.natAbs * n.natAbs % 18446744073709551616 = lo at *
        generalize a.natAbs * n.natAbs / 18446744073709551616 = hi at *
        clear hp
        have hh' : ¬ (hi : Int) = 0 := by omega
        go_enter Try.func13, Try.ntmps13
        go_wp2_with fail
        refine (cents_right a w).mono ?_
        rintro e w1 ⟨rfl, rfl⟩
        rw [ha]
        go_wp2_with fail
        refine (cents_size a (by omega) (by omega) w).mono ?_
        rintro e w1 ⟨rfl, rfl⟩
        go_wp2_with fail
        refine (cents_size n hn1 hn2 w).mono ?_
        rintro e w1 ⟨rfl, rfl⟩
        go_wp2_with fail
        refine (hM w).mono ?_
        rintro e w1 ⟨rfl, rfl⟩
        go_wp2
        go_ret2
        exact ⟨rfl, rfl⟩
  · have ha : Rt a = false := by simpa using ha
    rw [told_no (by rw [ha]; rfl)]
    go_enter Try.func13, Try.ntmps13
    go_wp2_with fail
    refine (cents_right a w).mono ?_
    rintro e w1 ⟨rfl, rfl⟩
    rw [ha]
    go_wp2
    go_ret2
    exact ⟨rfl, rfl⟩

theorem tmod_two (n : Int) : n.tmod 2 = -1 ∨ n.tmod 2 = 0 ∨ n.tmod 2 = 1 := by
  have h := Int.natAbs_tmod n 2
  rw [show Int.natAbs 2 = 2 from rfl] at h
  omega
theorem tdiv_two {n : Int} (h1 : -9223372036854775808 ≤ n) (h2 : n ≤ 9223372036854775807) : -9223372036854775808 ≤ n.tdiv 2 ∧ n.tdiv 2 ≤ 9223372036854775807 := by
  have h : (n.tdiv 2).natAbs = n.natAbs / 2 := Int.natAbs_tdiv n 2
  omega
theorem i64_fits {n : Int} (h : (Lit.int .i64 n).wf = true) : -9223372036854775808 ≤ n ∧ n ≤ 9223372036854775807 := by
  simpa [Lit.wf, IntKind.min, IntKind.max, IntKind.signed, IntKind.bits] using h
theorem cents_rest (a n : Int) (ha : Rt a = true) (w : World) : Calls Try.prog 14 #[.int .i64 a, .int .i64 n] w fun e w' => e = .returned (.int .i64 (a * n.tmod 2)) ∧ w = w' := by
  have a1 := (rt_iff.1 ha).1
  have a2 := (rt_iff.1 ha).2
  have h := tmod_two n
  go_enter Try.func14, Try.ntmps14
  go_wp2
  go_ret
  refine ⟨congrArg Ending.returned (congrArg (Value.int .i64) ?_), rfl⟩
  show wrap64 (a * n.tmod 2) = a * n.tmod 2
  unfold wrap64
  rcases h with h | h | h <;> rw [h] <;> omega

set_option maxHeartbeats 800000 in
theorem times_law (a n : Int) (hn1 : -9223372036854775808 ≤ n) (hn2 : n ≤ 9223372036854775807) (w : World) :
    Calls Try.prog 4 #[.int .i64 a, .int .i64 n] w fun e w' => e = .returned (.bool true) ∧ Below w.heap.size w w' := by
  have hT := fun w => cents_times a n hn1 hn2 w
  by_cases ha : Rt a = true
  · have a1 := (rt_iff.1 ha).1
    have a2 := (rt_iff.1 ha).2
    rw [ha] at hT
    by_cases h0 : a = 0 ∨ n = 0
    · have e : a * n = 0 := by rcases h0 with rfl | rfl <;> simp
      rw [e, told_yes (by decide)] at hT
      clear e
      by_cases hz : a = 0
      · clear h0
        subst hz
        go_enter Try.func4, Try.ntmps4
        go_wp2_with fail
        refine (cents_awake w).mono ?_
        rintro e w1 ⟨rfl, d1⟩
        go_wp2_with fail
        refine (hT w1).mono ?_
        rintro e w2 ⟨rfl, rfl⟩
        go_wp2_with fail
        refine (ref_right 0 w1).mono ?_
        rintro e w2 ⟨rfl, rfl⟩
        rw [ha]
        go_wp2
        go_ret
        exact ⟨rfl, d1⟩
      · have hn : n = 0 := h0.resolve_left hz
        clear h0
        subst hn
        go_enter Try.func4, Try.ntmps4
        go_wp2_with fail
        refine (cents_awake w).mono ?_
        rintro e w1 ⟨rfl, d1⟩
        go_wp2_with fail
        refine (hT w1).mono ?_
        rintro e w2 ⟨rfl, rfl⟩
        go_wp2_with fail
        refine (ref_right a w1).mono ?_
        rintro e w2 ⟨rfl, rfl⟩
        rw [ha]
        go_wp2
        go_ret
        exact ⟨rfl, d1⟩
    · have hz : ¬ a = 0 := fun h => h0 (.inl h)
      have hn : ¬ n = 0 := fun h => h0 (.inr h)
      clear h0
      have hz' : (a == 0) = false := by simpa using hz
      have hn' : (n == 0) = false := by simpa using hn
      by_cases ht : Rt (a * n) = true
      · rw [told_yes (by rw [ht]; rfl)] at hT
        have t1 := (rt_iff.1 ht).1
        have t2 := (rt_iff.1 ht).2
        have q1 : (a * n).tmod a = 0 := Int.mul_tmod_right a n
        have q2 : (a * n).tdiv a = n := Int.mul_tdiv_cancel_left n hz
        generalize a * n = x at *
        go_enter Try.func4, Try.ntmps4
        go_wp2_with fail
        refine (cents_awake w).mono ?_
        rintro e w1 ⟨rfl, d1⟩
        go_wp2_with fail
        refine (hT w1).mono ?_
        rintro e w2 ⟨rfl, rfl⟩
        go_wp2_with fail
        refine (ref_right a w1).mono ?_
        rintro e w2 ⟨rfl, rfl⟩
        rw [ha]
        go_wp2_with fail
        refine (ref_right x w1).mono ?_
        rintro e w2 ⟨rfl, rfl⟩
        rw [ht]
        go_wp2
        go_ret
        exact ⟨rfl, d1⟩
      · have ht : Rt (a * n) = false := by simpa using ht
        rw [told_no (by rw [ht]; rfl)] at hT
        have hH := fun w => cents_times a (n.tdiv 2) (tdiv_two hn1 hn2).1 (tdiv_two hn1 hn2).2 w
        rw [ha] at hH
        have hsum : 2 * (a * n.tdiv 2) + a * n.tmod 2 = a * n := by
          rw [Int.mul_left_comm, ← Int.mul_add, Int.mul_tdiv_add_tmod]
        have hR := fun w => cents_rest a n ha w
        have hr := tmod_two n
        have hr1 : -1125899906842624 ≤ a * n.tmod 2 := by rcases hr with h | h | h <;> rw [h] <;> omega
        have hr2 : a * n.tmod 2 ≤ 1125899906842624 := by rcases hr with h | h | h <;> rw [h] <;> omega
        clear hr
        by_cases hh : Rt (a * n.tdiv 2) = true
        · rw [told_yes (by rw [hh]; rfl)] at hH
          have t1 := (rt_iff.1 hh).1
          have t2 := (rt_iff.1 hh).2
          rw [← hsum] at ht
          clear hsum
          generalize a * n.tdiv 2 = y at *
          generalize a * n.tmod 2 = z at *
          go_enter Try.func4, Try.ntmps4
          go_wp2_with fail
          refine (cents_awake w).mono ?_
          rintro e w1 ⟨rfl, d1⟩
          go_wp2_with fail
          refine (hT w1).mono ?_
          rintro e w2 ⟨rfl, rfl⟩
          go_wp2_with fail
          refine (ref_right a w1).mono ?_
          rintro e w2 ⟨rfl, rfl⟩
          rw [ha]
          go_wp2_with fail
          refine (hH w1).mono ?_
          rintro e w2 ⟨rfl, rfl⟩
          go_wp2_with fail
          refine (hR w1).mono ?_
          rintro e w2 ⟨rfl, rfl⟩
          go_wp2_with fail
          refine (ref_right (2 * y + z) w1).mono ?_
          rintro e w2 ⟨rfl, rfl⟩
          rw [ht]
          go_wp2
          go_ret
          exact ⟨rfl, d1⟩
        · have hh : Rt (a * n.tdiv 2) = false := by simpa using hh
          rw [told_no (by rw [hh]; rfl)] at hH
          go_enter Try.func4, Try.ntmps4
          go_wp2_with fail
          refine (cents_awake w).mono ?_
          rintro e w1 ⟨rfl, d1⟩
          go_wp2_with fail
          refine (hT w1).mono ?_
          rintro e w2 ⟨rfl, rfl⟩
          go_wp2_with fail
          refine (ref_right a w1).mono ?_
          rintro e w2 ⟨rfl, rfl⟩
          rw [ha]
          go_wp2_with fail
          refine (hH w1).mono ?_
          rintro e w2 ⟨rfl, rfl⟩
          go_wp2
          go_ret
          exact ⟨rfl, d1⟩
  · have ha : Rt a = false := by simpa using ha
    rw [ha, told_no rfl] at hT
    go_enter Try.func4, Try.ntmps4
    go_wp2_with fail
    refine (cents_awake w).mono ?_
    rintro e w1 ⟨rfl, d1⟩
    go_wp2_with fail
    refine (hT w1).mono ?_
    rintro e w2 ⟨rfl, rfl⟩
    go_wp2_with fail
    refine (ref_right a w1).mono ?_
    rintro e w2 ⟨rfl, rfl⟩
    rw [ha]
    go_wp2
    go_ret
    exact ⟨rfl, d1⟩
theorem times_contract (W : World) (args : Array Value) (h : Each Try.prog W Try.f4.params.toList args.toList) :
    Calls Try.prog 4 args W fun e W' => e = .returned (.bool true) ∧ Below W.heap.size W W' := by
  rw [Try.params4] at h
  obtain ⟨v0, r0, e0, ⟨_, o0⟩, d0, h⟩ := h.cons
  obtain ⟨v1, r1, rfl, ⟨_, o1⟩, d1, h⟩ := h.cons
  obtain rfl := h.nil
  obtain ⟨args⟩ := args
  obtain rfl : args = [v0, v1] := e0
  obtain ⟨a, rfl, ha⟩ := val_int o0 d0 Try.underlying2
  obtain ⟨b, rfl, hb⟩ := val_int o1 d1 Try.underlying3
  exact times_law a b (i64_fits hb).1 (i64_fits hb).2 W

theorem times_lifted (os : Os) (started : os.Started) (H : Type) (enc : TypeId × Value → H) :
    ReturnsInHanded {} Try.checked os 4 .any (Rows.centsTimesSpec.pre6 enc Try.prog Try.f4 Rows.centsTimesRow.domain false) (Rows.centsTimesSpec.post enc Try.prog Try.f4 false true false false) :=
  law_lifted (C := Try.checked) cents_own cents_laidOut (by kernel_rfl) Try.func4 rfl (tb := 4) rfl Try.underlying4
    (by
      rw [Try.params4]; intro t ht; simp at ht
      rcases ht with rfl | rfl <;> exact ⟨by kernel_rfl, of_decide_eq_true (by kernel_rfl)⟩)
    (fun H ds hl => by
      rw [Try.params4] at hl
      match ds, hl with
      | [d1, d2], _ => rfl)
    os started H enc
    (ChangeSpec.witness6 (enc := enc) (C := Try.checked) false ⟨#[], #[.int .i64 0, .int .i64 0], []⟩ 8 (by kernel_rfl) (by kernel_rfl) (by kernel_rfl) (by kernel_rfl))
    times_contract

theorem centsTimes_holds : Rows.CentsTimesSaid :=
  OpenClaim.holds_of_wide 4 Try.f4 rfl rfl rfl rfl rfl rfl rfl ⟨rfl, rfl, rfl, rfl, rfl⟩ rfl rfl rfl rfl rfl (by kernel_rfl) Try.func4 (by kernel_rfl)
    (of_decide_eq_true (by kernel_rfl)) (by unfold Func.isWrapper; first | (rw [if_pos (by decide +kernel)]; kernel_rfl) | (rw [if_neg (by decide +kernel)]; exact ⟨rfl, rfl⟩))
    (fun os started H enc _ => times_lifted os started H enc)
#print axioms centsTimes_holds
end Go.Proofs.Yteaapfagajdomaa
