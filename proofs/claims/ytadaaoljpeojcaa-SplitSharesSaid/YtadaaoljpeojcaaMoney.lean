/-
  Package cents, its core: Right, checked, Add; the long product, the long quotient where its upper half is nought. Conditions: those of each theorem.
-/
import Derived.Test.YtadaaoljpeojcaaLaw
import Derived.Test.YtadaaoljpeojcaaRd
import Derived.Lib.Mul64
import Derived.Laws.Bits64b
import Derived.Deep.QuietTactic
import Derived.BigQuiet
namespace Go.Proofs.Ytadaaoljpeojcaa
open Go.RowKit
set_option maxRecDepth 100000

/-- Is a sum right? -/
def Rt (a : Int) : Bool := decide (-1125899906842624 ≤ a ∧ a ≤ 1125899906842624)

theorem rt_iff {a : Int} : Rt a = true ↔ -1125899906842624 ≤ a ∧ a ≤ 1125899906842624 := by simp [Rt]

theorem rt_not {a : Int} : Rt a = false ↔ a < -1125899906842624 ∨ 1125899906842624 < a := by
  simp only [Rt, decide_eq_false_iff_not]
  omega

/-- What a sum is told as: value and error; 'ok': was all that it was made of right? -/
def tv (ok : Bool) (a : Int) : Int := if ok && Rt a then a else 0

def te (ok : Bool) (a : Int) : Int := if ok && Rt a then 0 else 9

def toldOf (ok : Bool) (a : Int) : Value := .tuple #[.int .i64 (tv ok a), .int .i64 (te ok a)]

theorem told_yes {ok : Bool} {a : Int} (h : (ok && Rt a) = true) : toldOf ok a = .tuple #[.int .i64 a, .int .i64 0] := by simp only [toldOf, tv, te, h, if_true]

theorem told_no {ok : Bool} {a : Int} (h : (ok && Rt a) = false) : toldOf ok a = .tuple #[.int .i64 0, .int .i64 9] := by simp [toldOf, tv, te, h]

theorem cents_right (a : Int) (w : World) : Calls Try.prog 16 #[.int .i64 a] w fun e w' => e = .returned (.bool (Rt a)) ∧ w = w' := by
  by_cases h1 : (-1125899906842624 : Int) ≤ a
  · by_cases h2 : a ≤ (1125899906842624 : Int)
    · have hr : Rt a = true := rt_iff.2 ⟨h1, h2⟩
      rw [hr]
      clear hr
      go_enter Try.func16, Try.ntmps16
      go_wp2
      go_ret
      exact ⟨rfl, rfl⟩
    · have hr : Rt a = false := rt_not.2 (by omega)
      rw [hr]
      clear hr
      go_enter Try.func16, Try.ntmps16
      go_wp2
      go_ret
      exact ⟨rfl, rfl⟩
  · have hr : Rt a = false := rt_not.2 (by omega)
    rw [hr]
    clear hr
    go_enter Try.func16, Try.ntmps16
    go_wp2
    go_ret
    exact ⟨rfl, rfl⟩

theorem cents_checked (a : Int) (w : World) : Calls Try.prog 25 #[.int .i64 a] w fun e w' => e = .returned (toldOf true a) ∧ w = w' := by
  by_cases h : Rt a = true
  · rw [told_yes (by simp [h])]
    go_enter Try.func25, Try.ntmps25
    go_wp2_with fail
    refine (cents_right a w).mono ?_
    rintro e w1 ⟨rfl, rfl⟩
    rw [h]
    go_wp2
    go_ret2
    exact ⟨rfl, rfl⟩
  · have h : Rt a = false := by simpa using h
    rw [told_no (by simp [h])]
    go_enter Try.func25, Try.ntmps25
    go_wp2_with fail
    refine (cents_right a w).mono ?_
    rintro e w1 ⟨rfl, rfl⟩
    rw [h]
    go_wp2
    go_ret2
    exact ⟨rfl, rfl⟩

theorem cents_add (a b : Int) (w : World) : Calls Try.prog 20 #[.int .i64 a, .int .i64 b] w fun e w' => e = .returned (toldOf (Rt a && Rt b) (a + b)) ∧ w = w' := by
  by_cases ha : Rt a = true
  · by_cases hb : Rt b = true
    · rw [ha, hb, Bool.and_self]
      have a1 := (rt_iff.1 ha).1
      have a2 := (rt_iff.1 ha).2
      have b1 := (rt_iff.1 hb).1
      have b2 := (rt_iff.1 hb).2
      go_enter Try.func20, Try.ntmps20
      go_wp2_with fail
      refine (cents_right a w).mono ?_
      rintro e w1 ⟨rfl, rfl⟩
      rw [ha]
      go_wp2_with fail
      refine (cents_right b w).mono ?_
      rintro e w1 ⟨rfl, rfl⟩
      rw [hb]
      go_wp2_with fail
      refine (cents_checked (a + b) w).mono ?_
      rintro e w1 ⟨rfl, rfl⟩
      unfold toldOf
      go_wp2
      go_ret2
      exact ⟨rfl, rfl⟩
    · have hb : Rt b = false := by simpa using hb
      rw [told_no (by simp [hb])]
      go_enter Try.func20, Try.ntmps20
      go_wp2_with fail
      refine (cents_right a w).mono ?_
      rintro e w1 ⟨rfl, rfl⟩
      rw [ha]
      go_wp2_with fail
      refine (cents_right b w).mono ?_
      rintro e w1 ⟨rfl, rfl⟩
      rw [hb]
      go_wp2
      go_ret2
      exact ⟨rfl, rfl⟩
  · have ha : Rt a = false := by simpa using ha
    rw [told_no (by simp [ha])]
    go_enter Try.func20, Try.ntmps20
    go_wp2_with fail
    refine (cents_right a w).mono ?_
    rintro e w1 ⟨rfl, rfl⟩
    rw [ha]
    go_wp2
    go_ret2
    exact ⟨rfl, rfl⟩

theorem wrap_u64' (a : Int) : IntKind.u64.wrap a = a % 18446744073709551616 := by simp [IntKind.wrap, IntKind.bits, IntKind.signed]

theorem below_drawn {w w1 : World} (h : Below w.heap.size w w1) (n : Nat) : Below w.heap.size w (w1.drewN n) := ⟨h.os, h.tape, h.output, h.size, h.block⟩

theorem bits_low32 (a : Nat) (ha : a < 18446744073709551616) : bits .and .u64 (a : Int) 4294967295 = ((a % 4294967296 : Nat) : Int) := by
  have h := bits_and_u64_nat a 4294967295 ha (by omega)
  rw [show a &&& 4294967295 = a % 4294967296 from Nat.and_two_pow_sub_one_eq_mod a 32] at h
  exact h

theorem nat_quo32 (a : Nat) : (a : Int) / 4294967296 = ((a / 4294967296 : Nat) : Int) := by omega

theorem nat_mul (a b : Nat) : (a : Int) * (b : Int) = ((a * b : Nat) : Int) := (Int.natCast_mul a b).symm

theorem nat_add (a b : Nat) : (a : Int) + (b : Int) = ((a + b : Nat) : Int) := (Int.natCast_add a b).symm

theorem wrap_fits (a : Nat) (ha : a < 18446744073709551616) : IntKind.u64.wrap (a : Int) = (a : Int) := by rw [IntKind.wrap_u64]; omega

theorem wrap_left (a : Nat) : IntKind.u64.wrap (a : Int) = ((a % 18446744073709551616 : Nat) : Int) := by rw [IntKind.wrap_u64]; omega

set_option maxHeartbeats 1000000 in
/-- The long product, by halves. -/
theorem bits_mul64 (x y : Nat) (hx : x < 18446744073709551616) (hy : y < 18446744073709551616) (w : World) :
    Calls Try.prog 26 #[.int .u64 x, .int .u64 y] w fun e w' => e = .returned (.tuple #[.int .u64 ((x * y / 18446744073709551616 : Nat) : Int), .int .u64 ((x * y % 18446744073709551616 : Nat) : Int)]) ∧ w = w' := by
  obtain ⟨f1, f2, f3, hhi⟩ := Lib.mul64_hi x y hx hy
  have p1 := Lib.half_mul_le (a := x / 4294967296) (b := y / 4294967296) (by omega) (by omega)
  have p2 := Lib.half_mul_le (a := x / 4294967296) (b := y % 4294967296) (by omega) (by omega)
  have p3 := Lib.half_mul_le (a := x % 4294967296) (b := y / 4294967296) (by omega) (by omega)
  have q1 : x / 4294967296 * (y / 4294967296) < 18446744073709551616 := by omega
  have q2 : x / 4294967296 * (y % 4294967296) < 18446744073709551616 := by omega
  have q3 : x % 4294967296 * (y / 4294967296) < 18446744073709551616 := by omega
  have q4 : x / 4294967296 * (y / 4294967296) + (x / 4294967296 * (y % 4294967296) + x % 4294967296 * (y % 4294967296) / 4294967296) / 4294967296 < 18446744073709551616 := by omega
  have q5 : x / 4294967296 * (y / 4294967296) + (x / 4294967296 * (y % 4294967296) + x % 4294967296 * (y % 4294967296) / 4294967296) / 4294967296 + ((x / 4294967296 * (y % 4294967296) + x % 4294967296 * (y % 4294967296) / 4294967296) % 4294967296 + x % 4294967296 * (y / 4294967296)) / 4294967296 < 18446744073709551616 := by omega
  go_enter Try.func26, Try.ntmps26
  go_wp2
  simp only [bits_low32 x hx, bits_low32 y hy, nat_quo32, nat_mul, nat_add, wrap_fits _ f1, wrap_fits _ q2, wrap_fits _ f2, bits_low32 _ f2, wrap_fits _ q3, wrap_fits _ f3, wrap_fits _ q1, wrap_fits _ q4, wrap_fits _ q5, wrap_left (x * y)]
  rw [hhi]
  go_ret2
  exact ⟨rfl, rfl⟩

theorem wrap_quo {x y : Nat} (hx : x < 18446744073709551616) : IntKind.u64.wrap ((x : Int) / (y : Int)) = ((x / y : Nat) : Int) := by
  rw [← Int.natCast_ediv, wrap_fits]
  exact Nat.lt_of_le_of_lt (Nat.div_le_self _ _) hx

theorem pair_ret {k1 k2 : IntKind} {a b c d : Int} (h1 : a = c) (h2 : b = d) : Ending.returned (.tuple #[.int k1 a, .int k2 b]) = Ending.returned (.tuple #[.int k1 c, .int k2 d]) := by rw [h1, h2]

/-- The long quotient, where the upper half is nought. -/
theorem bits_div64_low (x y : Nat) (hx : x < 18446744073709551616) (h0 : 0 < y) (w : World) :
    Calls Try.prog 27 #[.int .u64 0, .int .u64 x, .int .u64 y] w fun e w' => (e = .returned (.tuple #[.int .u64 ((x / y : Nat) : Int), .int .u64 ((x % y : Nat) : Int)])) ∧ Below w.heap.size w w' := by
  have h1 : (0 : Int) < (y : Int) := by omega
  have h2 : ¬ (y : Int) = 0 := by omega
  have h3 : ¬ (y : Int) ≤ 0 := by omega
  go_enter Try.func27, Try.ntmps27
  go_wp2
  go_quiet (fail)
  go_wp2
  go_ret2
  exact ⟨pair_ret (wrap_quo hx) (Int.natCast_emod x y).symm, below_drawn (Below.refl _ _) _⟩

end Go.Proofs.Ytadaaoljpeojcaa
