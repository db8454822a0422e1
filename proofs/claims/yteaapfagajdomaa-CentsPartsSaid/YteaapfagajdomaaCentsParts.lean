/-
  CentsParts: a part of a sum, and basis points of it, are what they are by long division, or refused. No conditions: every input.
-/
import Derived.Test.YteaapfagajdomaaCentsPart
namespace Go.Proofs.Yteaapfagajdomaa
open Go.RowKit Go.WideShapes
set_option maxRecDepth 100000

/-- A bit of a number that isn't below nought. -/
theorem bits_one_i64 {a : Nat} (ha : a < 9223372036854775808) : bits .and .i64 (a : Int) 1 = ((a % 2 : Nat) : Int) := by
  have hk : IntKind.bits .i64 = 64 := rfl
  unfold bits
  rw [hk]
  rw [show (1 : Int) = ((1 : Nat) : Int) from rfl]
  simp only [BitVec.ofInt_natCast, BitVec.toNat_and, BitVec.toNat_ofNat]
  rw [Nat.mod_eq_of_lt (show a < 2 ^ 64 by omega), Nat.mod_eq_of_lt (show 1 < 2 ^ 64 by decide), Nat.and_one_is_mod]
  have : IntKind.i64.wrap ((a % 2 : Nat) : Int) = ((a % 2 : Nat) : Int) := by
    simp [IntKind.wrap, IntKind.signed, IntKind.bits]
    omega
  exact this

set_option maxHeartbeats 1600000 in
/-- The document's long division. -/
theorem ref_divided (A N O : Nat) (hA : A ≤ 1125899906842624) (h0 : 0 < O) (hN : N ≤ O) (hO : O < 9223372036854775808) (w : World) :
    Calls Try.prog 23 #[.int .i64 A, .int .i64 N, .int .i64 O] w fun e w' => e = .returned (.tuple #[.int .i64 ((A * N / O : Nat) : Int), .int .u64 ((A * N % O : Nat) : Int)]) ∧ w = w' := by
  have eO : IntKind.u64.wrap (O : Int) = (O : Int) := by rw [wrap_u64']; omega
  have eN : IntKind.u64.wrap (N : Int) = (N : Int) := by rw [wrap_u64']; omega
  have HA := Lib.hid hA
  have HO := Lib.hid hO
  have HN := Lib.hid hN
  have H0 := Lib.hid h0
  clear hA h0 hN
  go_enter Try.func23, Try.ntmps23
  go_wp2
  go_loop [8, 9, 10] (fun s t i => ∃ j q r : Nat, j ≤ 51 ∧ i = .int .i64 ((j : Int) - 1) ∧ s = .int .u64 q ∧ t = .int .u64 r ∧ q * O + r = A / 2 ^ j * N ∧ r < O) (fun _ _ i => (intOf i + 1).toNat)
  case atStart => exact ⟨51, 0, 0, by decide, rfl, rfl, rfl, by rw [Nat.div_eq_of_lt (Nat.lt_of_le_of_lt HA.out (by decide))]; simp, H0.out⟩
  case round =>
    obtain ⟨j, q, r, hj, rfl, rfl, rfl, hs, hr⟩ := hrel
    have hqb : q ≤ 1125899906842624 := by
      have h1 : A / 2 ^ j * N ≤ A / 2 ^ j * O := Nat.mul_le_mul_left _ HN.out
      have h2 : q * O ≤ A / 2 ^ j * O := by omega
      have h3 := Nat.le_of_mul_le_mul_right h2 H0.out
      have h4 : A / 2 ^ j ≤ A := Nat.div_le_self _ _
      exact Nat.le_trans h3 (Nat.le_trans h4 HA.out)
    by_cases hj0 : j = 0
    · subst hj0
      rw [Nat.pow_zero, Nat.div_one] at hs
      have hQ : Hid (q = A * N / O ∧ r = A * N % O) := by
        show q = _ ∧ r = _
        rw [← hs]
        constructor
        · rw [Nat.mul_comm, Nat.mul_add_div H0.out, Nat.div_eq_of_lt hr, Nat.add_zero]
        · rw [Nat.mul_comm, Nat.mul_add_mod, Nat.mod_eq_of_lt hr]
      have hq9 : (q : Int) ≤ 1125899906842624 := by omega
      clear hs hqb hj
      have e0 : ((0 : Nat) : Int) - 1 = -1 := by decide
      rw [e0]
      go_wp2
      go_ret2
      exact ⟨pair_ret (congrArg (fun x : Nat => (x : Int)) hQ.out.1) (congrArg (fun x : Nat => (x : Int)) hQ.out.2), rfl⟩
    · obtain ⟨b, rfl⟩ : ∃ b, j = b + 1 := ⟨j - 1, by omega⟩
      have eb : ((b + 1 : Nat) : Int) - 1 = (b : Int) := by omega
      rw [eb]
      have hb0 : (0 : Int) ≤ (b : Int) := by omega
      have hb1 : (b : Int) ≤ 50 := by omega
      have hbn : Hid (b ≤ 51) := by
        show b ≤ 51
        omega
      have hD : A / 2 ^ b = 2 * (A / 2 ^ (b + 1)) + A / 2 ^ b % 2 := by
        rw [Nat.pow_succ, ← Nat.div_div_eq_div_mul]
        omega
      have hAb : A / 2 ^ b < 9223372036854775808 := Nat.lt_of_le_of_lt (Nat.div_le_self _ _) (Nat.lt_of_le_of_lt HA.out (by decide))
      have eT : bits .and .i64 ((A : Int) / 2 ^ b) 1 = ((A / 2 ^ b % 2 : Nat) : Int) := by
        have h4 : (A : Int) / 2 ^ b = ((A / 2 ^ b : Nat) : Int) := by
          rw [Int.natCast_ediv, Int.natCast_pow]
          rfl
        rw [h4]
        exact bits_one_i64 hAb
      have hT2 : A / 2 ^ b % 2 < 2 := Nat.mod_lt _ (by decide)
      clear hAb
      generalize A / 2 ^ (b + 1) = D at *
      have HB : Hid (∃ E, E = A / 2 ^ b) := ⟨_, rfl⟩
      obtain ⟨E, hE⟩ := HB.out
      rw [← hE] at hD hT2 eT
      have HE := Lib.hid hE
      clear hE HB
      generalize hX : E % 2 = X at *
      have e2 : IntKind.u64.wrap ((q : Int) * 2) = ((q * 2 : Nat) : Int) := by rw [wrap_u64']; omega
      have hM := fun w => ref_more r r O (q * 2) hr (by omega) hO (by omega) w
      have HS := Lib.hid hs
      have HD := Lib.hid hD
      have HRO := Lib.hid hr
      have HQB := Lib.hid hqb
      clear hs hD hqb hX hj hr
      go_wp2_with fail
      refine (hM w).mono ?_
      rintro e w1 ⟨⟨R1, Q1, rfl, m1, m2⟩, rfl⟩
      have HM1 := Lib.hid m1
      have hq1 : Hid (Q1 + 1 < 18446744073709551616) := by
        show Q1 + 1 < _
        have h1 : Q1 * O ≤ (q * 2) * O + 2 * O := by
          have := HRO.out
          omega
        rw [← Nat.add_mul] at h1
        have h3 := Nat.le_of_mul_le_mul_right h1 H0.out
        have h5 := HQB.out
        omega
      clear m1
      by_cases hx : X = 1
      · subst hx
        have hM2 := fun w => ref_more R1 N O Q1 m2 HN.out hO hq1.out w
        clear m2
        go_wp2_with fail
        refine (hM2 w).mono ?_
        rintro e w1 ⟨⟨R2, Q2, rfl, m3, m4⟩, rfl⟩
        have HM3 := Lib.hid m3
        have HM4 := Lib.hid m4
        clear m3 m4
        go_wp2
        go_round
        case rel =>
          refine ⟨b, Q2, R2, hbn.out, rfl, rfl, rfl, ?_, HM4.out⟩
          rw [HM3.out, HM1.out, ← HE.out, HD.out, Nat.add_mul, Nat.one_mul, Nat.mul_assoc 2 D N, ← HS.out, Nat.mul_right_comm q 2 O]
          omega
        case measure => simp [intOf]
      · have hx0 : X = 0 := by omega
        subst hx0
        have HM2 := Lib.hid m2
        clear m2 hx
        go_wp2
        go_round
        case rel =>
          refine ⟨b, Q1, R1, hbn.out, rfl, rfl, rfl, ?_, HM2.out⟩
          rw [HM1.out, ← HE.out, HD.out, Nat.add_zero, Nat.mul_assoc 2 D N, ← HS.out, Nat.mul_right_comm q 2 O]
          omega
        case measure => simp [intOf]

set_option maxHeartbeats 1600000 in
theorem ref_part (a n o : Int) (hn : I64 n) (ho : I64 o) (w : World) :
    Calls Try.prog 16 #[.int .i64 a, .int .i64 n, .int .i64 o] w fun e w' => e = .returned (.tuple #[.int .i64 (partV a n o), .int .i64 (partE a n o)]) ∧ w = w' := by
  obtain ⟨n1, n2⟩ := hn
  obtain ⟨o1, o2⟩ := ho
  by_cases ha : 0 ≤ a ∧ a ≤ 1125899906842624
  · have a0 : ¬ a < 0 := by omega
    have a1 : ¬ (1125899906842624 : Int) < a := by omega
    by_cases hg : 1 ≤ o ∧ 0 ≤ n ∧ n ≤ o
    · rw [(part_good ha hg).1, (part_good ha hg).2]
      obtain ⟨g1, g2, g3⟩ := hg
      obtain ⟨A, rfl⟩ := Int.eq_ofNat_of_zero_le ha.1
      obtain ⟨N, rfl⟩ := Int.eq_ofNat_of_zero_le g2
      obtain ⟨O, rfl⟩ := Int.eq_ofNat_of_zero_le (show 0 ≤ o by omega)
      have hD := fun w => ref_divided A N O (by omega) (by omega) (by omega) (by omega) w
      have hq : (A : Int) * (N : Int) / (O : Int) = ((A * N / O : Nat) : Int) := by rw [Int.natCast_ediv, Int.natCast_mul]
      rw [hq]
      clear hq
      generalize A * N / O = q at *
      generalize A * N % O = r at *
      have o0 : ¬ (O : Int) < 1 := by omega
      have n0 : ¬ (N : Int) < 0 := by omega
      have c0 : ¬ (O : Int) < (N : Int) := by omega
      go_enter Try.func16, Try.ntmps16
      go_wp2_with fail
      refine (hD w).mono ?_
      rintro e w1 ⟨rfl, rfl⟩
      go_wp2
      go_ret2
      exact ⟨rfl, rfl⟩
    · rw [(part_arg ha hg).1, (part_arg ha hg).2]
      by_cases g1 : o < 1
      · clear hg
        go_enter Try.func16, Try.ntmps16
        go_wp2
        go_ret2
        exact ⟨rfl, rfl⟩
      · by_cases g2 : n < 0
        · clear hg
          go_enter Try.func16, Try.ntmps16
          go_wp2
          go_ret2
          exact ⟨rfl, rfl⟩
        · have g3 : o < n := by omega
          clear hg
          go_enter Try.func16, Try.ntmps16
          go_wp2
          go_ret2
          exact ⟨rfl, rfl⟩
  · rw [(part_money ha).1, (part_money ha).2]
    by_cases a0 : a < 0
    · clear ha
      go_enter Try.func16, Try.ntmps16
      go_wp2
      go_ret2
      exact ⟨rfl, rfl⟩
    · have a1 : (1125899906842624 : Int) < a := by omega
      clear ha
      go_enter Try.func16, Try.ntmps16
      go_wp2
      go_ret2
      exact ⟨rfl, rfl⟩

theorem cents_points (a n : Int) (hn : I64 n) (w : World) : Calls Try.prog 17 #[.int .i64 a, .int .i64 n] w fun e w' => e = .returned (.tuple #[.int .i64 (partV a n 10000), .int .i64 (partE a n 10000)]) ∧ Below w.heap.size w w' := by
  have hP := fun w => cents_part a n 10000 hn ⟨by decide, by decide⟩ w
  generalize partV a n 10000 = v at *
  generalize partE a n 10000 = f at *
  go_enter Try.func17, Try.ntmps17
  go_wp2_with fail
  refine (hP w).mono ?_
  rintro e w1 ⟨rfl, b1⟩
  go_wp2
  go_ret2
  exact ⟨rfl, b1⟩

theorem part_bounds (a n o : Int) : partE a n o ≠ 0 ∨ (0 ≤ partV a n o ∧ partV a n o ≤ a) := by
  by_cases ha : 0 ≤ a ∧ a ≤ 1125899906842624
  · by_cases hg : 1 ≤ o ∧ 0 ≤ n ∧ n ≤ o
    · right
      rw [(part_good ha hg).1]
      obtain ⟨g1, g2, g3⟩ := hg
      obtain ⟨A, rfl⟩ := Int.eq_ofNat_of_zero_le ha.1
      obtain ⟨N, rfl⟩ := Int.eq_ofNat_of_zero_le g2
      obtain ⟨O, rfl⟩ := Int.eq_ofNat_of_zero_le (show 0 ≤ o by omega)
      have hmost := part_most (A := A) (N := N) (O := O) (by omega) (by omega)
      have hq : (A : Int) * (N : Int) / (O : Int) = ((A * N / O : Nat) : Int) := by rw [Int.natCast_ediv, Int.natCast_mul]
      rw [hq]
      generalize A * N / O = q at *
      omega
    · left
      rw [(part_arg ha hg).2]
      decide
  · left
    rw [(part_money ha).2]
    decide

set_option maxHeartbeats 1600000 in
theorem parts_law (a n o p : Int) (hn : I64 n) (ho : I64 o) (hp : I64 p) (w : World) :
    Calls Try.prog 5 #[.int .i64 a, .int .i64 n, .int .i64 o, .int .i64 p] w fun e w' => e = .returned (.bool true) ∧ Below w.heap.size w w' := by
  have hb := part_bounds a n o
  have h1 := fun w => cents_part a n o hn ho w
  have h2 := fun w => ref_part a n o hn ho w
  have h3 := fun w => cents_points a p hp w
  have h4 := fun w => ref_part a p 10000 hp ⟨by decide, by decide⟩ w
  generalize partV a n o = v at *
  generalize partE a n o = f at *
  generalize partV a p 10000 = v2 at *
  generalize partE a p 10000 = f2 at *
  by_cases hf : f = 0
  · subst hf
    have hb1 : 0 ≤ v ∧ v ≤ a := hb.resolve_left (fun h => h rfl)
    obtain ⟨b1, b2⟩ := hb1
    clear hb
    go_enter Try.func5, Try.ntmps5
    go_wp2_with fail
    refine (cents_awake w).mono ?_
    rintro e w1 ⟨rfl, d1⟩
    go_wp2_with fail
    refine (h1 w1).mono ?_
    rintro e w2 ⟨rfl, d2⟩
    go_wp2_with fail
    refine (h2 w2).mono ?_
    rintro e w3 ⟨rfl, rfl⟩
    go_wp2_with fail
    refine (h3 w2).mono ?_
    rintro e w3 ⟨rfl, d3⟩
    go_wp2_with fail
    refine (h4 w3).mono ?_
    rintro e w4 ⟨rfl, rfl⟩
    go_wp2
    go_ret
    have D2 := d1.trans (d2.mono d1.size)
    exact ⟨rfl, D2.trans (d3.mono D2.size)⟩
  · have hf' : (f == 0) = false := by simpa using hf
    clear hb
    go_enter Try.func5, Try.ntmps5
    go_wp2_with fail
    refine (cents_awake w).mono ?_
    rintro e w1 ⟨rfl, d1⟩
    go_wp2_with fail
    refine (h1 w1).mono ?_
    rintro e w2 ⟨rfl, d2⟩
    go_wp2_with fail
    refine (h2 w2).mono ?_
    rintro e w3 ⟨rfl, rfl⟩
    go_wp2_with fail
    refine (h3 w2).mono ?_
    rintro e w3 ⟨rfl, d3⟩
    go_wp2_with fail
    refine (h4 w3).mono ?_
    rintro e w4 ⟨rfl, rfl⟩
    go_wp2
    go_ret
    have D2 := d1.trans (d2.mono d1.size)
    exact ⟨rfl, D2.trans (d3.mono D2.size)⟩

theorem parts_contract (W : World) (args : Array Value) (h : Each Try.prog W Try.f5.params.toList args.toList) :
    Calls Try.prog 5 args W fun e W' => e = .returned (.bool true) ∧ Below W.heap.size W W' := by
  rw [Try.params5] at h
  obtain ⟨v0, r0, e0, ⟨_, o0⟩, d0, h⟩ := h.cons
  obtain ⟨v1, r1, rfl, ⟨_, o1⟩, d1, h⟩ := h.cons
  obtain ⟨v2, r2, rfl, ⟨_, o2⟩, d2, h⟩ := h.cons
  obtain ⟨v3, r3, rfl, ⟨_, o3⟩, d3, h⟩ := h.cons
  obtain rfl := h.nil
  obtain ⟨args⟩ := args
  obtain rfl : args = [v0, v1, v2, v3] := e0
  obtain ⟨a, rfl, ha⟩ := val_int o0 d0 Try.underlying2
  obtain ⟨b, rfl, hb⟩ := val_int o1 d1 Try.underlying2
  obtain ⟨c, rfl, hc⟩ := val_int o2 d2 Try.underlying2
  obtain ⟨d, rfl, hd⟩ := val_int o3 d3 Try.underlying3
  exact parts_law a b c d (i64_fits hb) (i64_fits hc) (i64_fits hd) W

theorem parts_lifted (os : Os) (started : os.Started) (H : Type) (enc : TypeId × Value → H) :
    ReturnsInHanded {} Try.checked os 5 .any (Rows.centsPartsSpec.pre6 enc Try.prog Try.f5 Rows.centsPartsRow.domain false) (Rows.centsPartsSpec.post enc Try.prog Try.f5 false true false false) :=
  law_lifted (C := Try.checked) cents_own cents_laidOut (by kernel_rfl) Try.func5 rfl (tb := 4) rfl Try.underlying4
    (by
      rw [Try.params5]; intro t ht; simp at ht
      rcases ht with rfl | rfl <;> exact ⟨by kernel_rfl, of_decide_eq_true (by kernel_rfl)⟩)
    (fun H ds hl => by
      rw [Try.params5] at hl
      match ds, hl with
      | [d1, d2, d3, d4], _ => rfl)
    os started H enc
    (ChangeSpec.witness6 (enc := enc) (C := Try.checked) false ⟨#[], #[.int .i64 0, .int .i64 0, .int .i64 0, .int .i64 0], []⟩ 8 (by kernel_rfl) (by kernel_rfl) (by kernel_rfl) (by kernel_rfl))
    parts_contract

theorem centsParts_holds : Rows.CentsPartsSaid :=
  OpenClaim.holds_of_wide 5 Try.f5 rfl rfl rfl rfl rfl rfl rfl ⟨rfl, rfl, rfl, rfl, rfl⟩ rfl rfl rfl rfl rfl (by kernel_rfl) Try.func5 (by kernel_rfl)
    (of_decide_eq_true (by kernel_rfl)) (by unfold Func.isWrapper; first | (rw [if_pos (by decide +kernel)]; kernel_rfl) | (rw [if_neg (by decide +kernel)]; exact ⟨rfl, rfl⟩))
    (fun os started H enc _ => parts_lifted os started H enc)
#print axioms centsParts_holds
end Go.Proofs.Yteaapfagajdomaa
