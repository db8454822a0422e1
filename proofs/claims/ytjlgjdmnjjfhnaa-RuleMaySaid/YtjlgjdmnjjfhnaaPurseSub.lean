/-
  Package cents: Sub. No conditions.
-/
import Derived.Test.YtjlgjdmnjjfhnaaPurse
namespace Go.Proofs.Ytjlgjdmnjjfhnaa
open Go.RowKit
set_option maxRecDepth 100000

theorem cents_sub (a b : Int) (w : World) : Calls Try.prog 20 #[.int .i64 a, .int .i64 b] w fun e w' => e = .returned (toldOf (Rt a && Rt b) (a - b)) ∧ w = w' := by
  by_cases ha : Rt a = true
  · by_cases hb : Rt b = true
    · rw [ha, hb, Bool.and_self]
      have a1 := (rt_iff.1 ha).1
      have a2 := (rt_iff.1 ha).2
      have b1 := (rt_iff.1 hb).1
      have b2 := (rt_iff.1 hb).2
      go_enter Try.func20, Try.ntmps20
      go_wp2_with fail
      refine (cents_right a w).mono ?_
      rintro e w1 ⟨rfl, rfl⟩
      rw [ha]
      go_wp2_with fail
      refine (cents_right b w).mono ?_
      rintro e w1 ⟨rfl, rfl⟩
      rw [hb]
      go_wp2_with fail
      refine (cents_checked (a - b) w).mono ?_
      rintro e w1 ⟨rfl, rfl⟩
      unfold toldOf
      go_wp2
      go_ret2
      exact ⟨rfl, rfl⟩
    · have hb : Rt b = false := by simpa using hb
      rw [told_no (by simp [hb])]
      go_enter Try.func20, Try.ntmps20
      go_wp2_with fail
      refine (cents_right a w).mono ?_
      rintro e w1 ⟨rfl, rfl⟩
      rw [ha]
      go_wp2_with fail
      refine (cents_right b w).mono ?_
      rintro e w1 ⟨rfl, rfl⟩
      rw [hb]
      go_wp2
      go_ret2
      exact ⟨rfl, rfl⟩
  · have ha : Rt a = false := by simpa using ha
    rw [told_no (by simp [ha])]
    go_enter Try.func20, Try.ntmps20
    go_wp2_with fail
    refine (cents_right a w).mono ?_
    rintro e w1 ⟨rfl, rfl⟩
    rw [ha]
    go_wp2
    go_ret2
    exact ⟨rfl, rfl⟩

end Go.Proofs.Ytjlgjdmnjjfhnaa
