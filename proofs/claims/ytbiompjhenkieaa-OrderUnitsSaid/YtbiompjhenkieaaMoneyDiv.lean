/-
  The document's long division. Conditions: those of each theorem.
-/
import Derived.Test.YtbiompjhenkieaaMoneyX
namespace Go.Proofs.Ytbiompjhenkieaa
open Go.RowKit Go.WideShapes
set_option maxRecDepth 100000

/-- A bit of a number that isn't below nought. -/
theorem bits_one_i64 {a : Nat} (ha : a < 9223372036854775808) : bits .and .i64 (a : Int) 1 = ((a % 2 : Nat) : Int) := by
  have hk : IntKind.bits .i64 = 64 := rfl
  unfold bits
  rw [hk]
  rw [show (1 : Int) = ((1 : Nat) : Int) from rfl]
  simp only [BitVec.ofInt_natCast, BitVec.toNat_and, BitVec.toNat_ofNat]
  rw [Nat.mod_eq_of_lt (show a < 2 ^ 64 by omega), Nat.mod_eq_of_lt (show 1 < 2 ^ 64 by decide), Nat.and_one_is_mod]
  have : IntKind.i64.wrap ((a % 2 : Nat) : Int) = ((a % 2 : Nat) : Int) := by
    simp [IntKind.wrap, IntKind.signed, IntKind.bits]
    omega
  exact this

set_option maxHeartbeats 1600000 in
/-- The document's long division. -/
theorem ref_divided (A N O : Nat) (hA : A ≤ 1125899906842624) (h0 : 0 < O) (hN : N ≤ O) (hO : O < 9223372036854775808) (w : World) :
    Calls Try.prog 37 #[.int .i64 A, .int .i64 N, .int .i64 O] w fun e w' => e = .returned (.tuple #[.int .i64 ((A * N / O : Nat) : Int), .int .u64 ((A * N % O : Nat) : Int)]) ∧ w = w' := by
  have eO : IntKind.u64.wrap (O : Int) = (O : Int) := by rw [wrap_u64']; omega
  have eN : IntKind.u64.wrap (N : Int) = (N : Int) := by rw [wrap_u64']; omega
  have HA := Lib.hid hA
  have HO := Lib.hid hO
  have HN := Lib.hid hN
  have H0 := Lib.hid h0
  clear hA h0 hN
  go_enter Try.func37, Try.ntmps37
  go_wp2
  go_loop [8, 9, 10] (fun s t i => ∃ j q r : Nat, j ≤ 51 ∧ i = .int .i64 ((j : Int) - 1) ∧ s = .int .u64 q ∧ t = .int .u64 r ∧ q * O + r = A / 2 ^ j * N ∧ r < O) (fun _ _ i => (intOf i + 1).toNat)
  case atStart => exact ⟨51, 0, 0, by decide, rfl, rfl, rfl, by rw [Nat.div_eq_of_lt (Nat.lt_of_le_of_lt HA.out (by decide))]; simp, H0.out⟩
  case round =>
    obtain ⟨j, q, r, hj, rfl, rfl, rfl, hs, hr⟩ := hrel
    have hqb : q ≤ 1125899906842624 := by
      have h1 : A / 2 ^ j * N ≤ A / 2 ^ j * O := Nat.mul_le_mul_left _ HN.out
      have h2 : q * O ≤ A / 2 ^ j * O := by omega
      have h3 := Nat.le_of_mul_le_mul_right h2 H0.out
      have h4 : A / 2 ^ j ≤ A := Nat.div_le_self _ _
      exact Nat.le_trans h3 (Nat.le_trans h4 HA.out)
    by_cases hj0 : j = 0
    · subst hj0
      rw [Nat.pow_zero, Nat.div_one] at hs
      have hQ : Hid (q = A * N / O ∧ r = A * N % O) := by
        show q = _ ∧ r = _
        rw [← hs]
        constructor
        · rw [Nat.mul_comm, Nat.mul_add_div H0.out, Nat.div_eq_of_lt hr, Nat.add_zero]
        · rw [Nat.mul_comm, Nat.mul_add_mod, Nat.mod_eq_of_lt hr]
      have hq9 : (q : Int) ≤ 1125899906842624 := by omega
      clear hs hqb hj
      have e0 : ((0 : Nat) : Int) - 1 = -1 := by decide
      rw [e0]
      go_wp2
      go_ret2
      exact ⟨pair_ret (congrArg (fun x : Nat => (x : Int)) hQ.out.1) (congrArg (fun x : Nat => (x : Int)) hQ.out.2), rfl⟩
    · obtain ⟨b, rfl⟩ : ∃ b, j = b + 1 := ⟨j - 1, by omega⟩
      have eb : ((b + 1 : Nat) : Int) - 1 = (b : Int) := by omega
      rw [eb]
      have hb0 : (0 : Int) ≤ (b : Int) := by omega
      have hb1 : (b : Int) ≤ 50 := by omega
      have hbn : Hid (b ≤ 51) := by
        show b ≤ 51
        omega
      have hD : A / 2 ^ b = 2 * (A / 2 ^ (b + 1)) + A / 2 ^ b % 2 := by
        rw [Nat.pow_succ, ← Nat.div_div_eq_div_mul]
        omega
      have hAb : A / 2 ^ b < 9223372036854775808 := Nat.lt_of_le_of_lt (Nat.div_le_self _ _) (Nat.lt_of_le_of_lt HA.out (by decide))
      have eT : bits .and .i64 ((A : Int) / 2 ^ b) 1 = ((A / 2 ^ b % 2 : Nat) : Int) := by
        have h4 : (A : Int) / 2 ^ b = ((A / 2 ^ b : Nat) : Int) := by
          rw [Int.natCast_ediv, Int.natCast_pow]
          rfl
        rw [h4]
        exact bits_one_i64 hAb
      have hT2 : A / 2 ^ b % 2 < 2 := Nat.mod_lt _ (by decide)
      clear hAb
      generalize A / 2 ^ (b + 1) = D at *
      have HB : Hid (∃ E, E = A / 2 ^ b) := ⟨_, rfl⟩
      obtain ⟨E, hE⟩ := HB.out
      rw [← hE] at hD hT2 eT
      have HE := Lib.hid hE
      clear hE HB
      generalize hX : E % 2 = X at *
      have e2 : IntKind.u64.wrap ((q : Int) * 2) = ((q * 2 : Nat) : Int) := by rw [wrap_u64']; omega
      have hM := fun w => ref_more r r O (q * 2) hr (by omega) hO (by omega) w
      have HS := Lib.hid hs
      have HD := Lib.hid hD
      have HRO := Lib.hid hr
      have HQB := Lib.hid hqb
      clear hs hD hqb hX hj hr
      go_wp2_with fail
      refine (hM w).mono ?_
      rintro e w1 ⟨⟨R1, Q1, rfl, m1, m2⟩, rfl⟩
      have HM1 := Lib.hid m1
      have hq1 : Hid (Q1 + 1 < 18446744073709551616) := by
        show Q1 + 1 < _
        have h1 : Q1 * O ≤ (q * 2) * O + 2 * O := by
          have := HRO.out
          omega
        rw [← Nat.add_mul] at h1
        have h3 := Nat.le_of_mul_le_mul_right h1 H0.out
        have h5 := HQB.out
        omega
      clear m1
      by_cases hx : X = 1
      · subst hx
        have hM2 := fun w => ref_more R1 N O Q1 m2 HN.out hO hq1.out w
        clear m2
        go_wp2_with fail
        refine (hM2 w).mono ?_
        rintro e w1 ⟨⟨R2, Q2, rfl, m3, m4⟩, rfl⟩
        have HM3 := Lib.hid m3
        have HM4 := Lib.hid m4
        clear m3 m4
        go_wp2
        go_round
        case rel =>
          refine ⟨b, Q2, R2, hbn.out, rfl, rfl, rfl, ?_, HM4.out⟩
          rw [HM3.out, HM1.out, ← HE.out, HD.out, Nat.add_mul, Nat.one_mul, Nat.mul_assoc 2 D N, ← HS.out, Nat.mul_right_comm q 2 O]
          omega
        case measure => simp [intOf]
      · have hx0 : X = 0 := by omega
        subst hx0
        have HM2 := Lib.hid m2
        clear m2 hx
        go_wp2
        go_round
        case rel =>
          refine ⟨b, Q1, R1, hbn.out, rfl, rfl, rfl, ?_, HM2.out⟩
          rw [HM1.out, ← HE.out, HD.out, Nat.add_zero, Nat.mul_assoc 2 D N, ← HS.out, Nat.mul_right_comm q 2 O]
          omega
        case measure => simp [intOf]

end Go.Proofs.Ytbiompjhenkieaa
