/-
  The long quotient: math/bits.Div64. Conditions: those of each theorem.
-/
import Derived.Test.YtjlgjdmnjjfhnaaCentsLen
import Derived.Test.YtjlgjdmnjjfhnaaLong
import Derived.Deep.DeepCutAuto
import Derived.Deep.CutBlock
import Derived.Lib.Hide
namespace Go.Proofs.Ytjlgjdmnjjfhnaa
open Go.RowKit
set_option maxRecDepth 100000

set_option maxHeartbeats 4000000 in
theorem bits_div64 (hi lo y : Nat) (hhi : hi < y) (hlo : lo < 18446744073709551616) (hy : y < 18446744073709551616) (w : World) :
    Calls Try.prog 31 #[.int .u64 hi, .int .u64 lo, .int .u64 y] w fun e w' => (∃ r : Int, e = .returned (.tuple #[.int .u64 (((hi * 18446744073709551616 + lo) / y : Nat) : Int), .int .u64 r])) ∧ Below w.heap.size w w' := by
  by_cases h0 : hi = 0
  · subst h0
    have e : (0 * 18446744073709551616 + lo) / y = lo / y := by rw [Nat.zero_mul, Nat.zero_add]
    rw [e]
    exact (bits_div64_low lo y hlo hhi w).mono fun e w' ⟨h1, h2⟩ => ⟨⟨_, h1⟩, h2⟩
  · have y1 : (0 : Int) < (y : Int) := by omega
    have y2 : ¬ (y : Int) = 0 := by omega
    have y3 : ¬ (y : Int) ≤ (hi : Int) := by omega
    have y4 : ¬ (hi : Int) = 0 := by omega
    go_enter Try.func31, Try.ntmps31
    go_wp2_with fail
    refine (bits_leading64 y (by omega) hy w).mono ?_
    rintro e w1 ⟨⟨s, rfl, s1, s2, s3⟩, rfl⟩
    have s0 : (0 : Int) ≤ (s : Int) := by omega
    have s1' : (s : Int) ≤ 63 := by omega
    have HYb := Lib.hid (show y * 2 ^ s < 18446744073709551616 ∧ 9223372036854775808 ≤ y * 2 ^ s from ⟨s3, s2⟩)
    have eY : IntKind.u64.wrap ((y : Int) * 2 ^ s) = ((y * 2 ^ s : Nat) : Int) := by
      rw [← wrap_fits (y * 2 ^ s) s3, Int.natCast_mul, Int.natCast_pow]
      rfl
    have hU := long_below (s := s) (by omega) hlo hhi
    have hA := long_all (hi := hi) (lo := lo) (y := y) (s := s) (by omega)
    have hO := long_or (hi := hi) (lo := lo) (s := s) (by omega) hlo
    obtain ⟨U, hUd⟩ : ∃ U, U = hi * 2 ^ s + lo / 2 ^ (64 - s) := ⟨_, rfl⟩
    obtain ⟨L, hLd⟩ : ∃ L, L = lo * 2 ^ s % 18446744073709551616 := ⟨_, rfl⟩
    have eO : bits .or .u64 (IntKind.u64.wrap ((hi : Int) * 2 ^ s)) ((lo : Int) / 2 ^ (64 - s)) = (U : Int) := by
      have h1 : hi * 2 ^ s < 18446744073709551616 := Nat.lt_of_le_of_lt (Nat.le_add_right _ _) (Nat.lt_trans hU s3)
      have h2 : lo / 2 ^ (64 - s) < 18446744073709551616 := Nat.lt_of_le_of_lt (Nat.div_le_self _ _) hlo
      have h3 : IntKind.u64.wrap ((hi : Int) * 2 ^ s) = ((hi * 2 ^ s : Nat) : Int) := by
        rw [← wrap_fits (hi * 2 ^ s) h1, Int.natCast_mul, Int.natCast_pow]
        rfl
      have h4 : (lo : Int) / 2 ^ (64 - s) = ((lo / 2 ^ (64 - s) : Nat) : Int) := by
        rw [Int.natCast_ediv, Int.natCast_pow]
        rfl
      rw [h3, h4, bits_or_u64_nat _ _ h1 h2, hO, hUd]
    have eL : IntKind.u64.wrap ((lo : Int) * 2 ^ s) = (L : Int) := by
      rw [hLd, ← wrap_left, Int.natCast_mul, Int.natCast_pow]
      rfl
    have hLb : L < 18446744073709551616 := by rw [hLd]; exact Nat.mod_lt _ (by decide)
    rw [← hUd, ← hLd] at hA
    rw [← hUd] at hU
    clear hUd hLd hO
    generalize y * 2 ^ s = Y at *
    clear s2 s3
    obtain ⟨Y1, hY1⟩ : ∃ Y1, Y1 = Y / 4294967296 := ⟨_, rfl⟩
    obtain ⟨Y0, hY0⟩ : ∃ Y0, Y0 = Y % 4294967296 := ⟨_, rfl⟩
    have eY1 : (Y : Int) / 4294967296 = (Y1 : Int) := by rw [nat_quo32, hY1]
    have eY0 : bits .and .u64 (Y : Int) 4294967295 = (Y0 : Int) := by rw [bits_low32 Y HYb.out.1, hY0]
    have HYn : Hid (2147483648 ≤ Y1 ∧ 0 < Y1 ∧ Y1 < 4294967296 ∧ Y0 < 4294967296) := by
      show _ ∧ _
      have := HYb.out
      omega
    have hYs : Y = Y1 * 4294967296 + Y0 := by omega
    clear hY1 hY0
    obtain ⟨u1, hu1⟩ : ∃ u1, u1 = L / 4294967296 := ⟨_, rfl⟩
    obtain ⟨u0, hu0⟩ : ∃ u0, u0 = L % 4294967296 := ⟨_, rfl⟩
    have eu1 : (L : Int) / 4294967296 = (u1 : Int) := by rw [nat_quo32, hu1]
    have eu0 : bits .and .u64 (L : Int) 4294967295 = (u0 : Int) := by rw [bits_low32 L hLb, hu0]
    have HL : Hid (L = u1 * 4294967296 + u0) := by
      show L = _
      omega
    have HU1 : Hid (u1 < 4294967296) := by
      show u1 < _
      omega
    have HU0 : Hid (u0 < 4294967296) := by
      show u0 < _
      omega
    clear hu1 hu0
    have HU := Lib.hid hU
    have HA := Lib.hid hA
    have HYs := Lib.hid hYs
    clear hU hA hYs hLb
    obtain ⟨T, hT⟩ : ∃ T, T = (U * 4294967296 + u1) / (Y1 * 4294967296 + Y0) := ⟨_, rfl⟩
    have HTd := Lib.hid hT
    have HTs : Hid (T < 4294967296) := by
      show T < _
      rw [hT, ← HYs.out]
      exact long_small HU.out HU1.out
    clear hT
    have hy0 : (0 : Int) < (Y1 : Int) := by have := HYn.out; omega
    have hy1 : ¬ (Y1 : Int) = 0 := by omega
    have hstart : Hid (U / Y1 * Y1 + U % Y1 = U ∧ T ≤ U / Y1 ∧ U / Y1 ≤ 4294967297 ∧ U % Y1 < 4294967296) := by
      refine ⟨?_, ?_, ?_, ?_⟩
      · rw [Nat.mul_comm, Nat.div_add_mod]
      · rw [HTd.out]; exact long_least HYn.out.2.1 HU1.out
      · exact long_most HYn.out.1 HYn.out.2.2.2 (by rw [← HYs.out]; exact HU.out)
      · exact Nat.lt_trans (Nat.mod_lt _ HYn.out.2.1) HYn.out.2.2.1
    have hUb : U < 18446744073709551616 := Nat.lt_trans HU.out HYb.out.1
    have eq : IntKind.u64.wrap ((U : Int) / (Y1 : Int)) = ((U / Y1 : Nat) : Int) := wrap_quo hUb
    have er : IntKind.u64.wrap ((U : Int) - IntKind.u64.wrap (((U / Y1 : Nat) : Int) * (Y1 : Int))) = ((U % Y1 : Nat) : Int) := by
      have h := hstart.out.1
      rw [nat_mul, wrap_fits _ (by omega), wrap_u64']
      generalize U / Y1 * Y1 = p at *
      omega
    clear hUb
    generalize U / Y1 = Q at *
    generalize U % Y1 = R0 at *
    go_upto_block 0 with fail
    clear eO eL eY eY1 eY0 eu1 eu0 eq er
    go_cut [15, 16] (fun s15 s16 wx => s15 = .int .u64 T ∧ w = wx)
    case first =>
      go_wp2_with fail
      go_loop [15, 16] (fun a b => ∃ q r : Nat, a = .int .u64 q ∧ b = .int .u64 r ∧ q * Y1 + r = U ∧ T ≤ q ∧ q ≤ 4294967297 ∧ r < 4294967296) (fun a _ => (intOf a).toNat)
      case atStart => exact ⟨_, _, rfl, rfl, hstart.out⟩
      case round =>
        obtain ⟨q, r, rfl, rfl, hq1, hq2, hq3, hr⟩ := hrel
        have HT := long_test (u := u1) (Y0 := Y0) HYn.out.2.1 hq1
        by_cases hbig : 4294967296 ≤ q
        · have hbig' : (4294967296 : Int) ≤ (q : Int) := by omega
          have hlt : T < q := Nat.lt_of_lt_of_le HTs.out hbig
          obtain ⟨n1, n2, n3⟩ := long_step HYn.out.1 HYn.out.2.2.2 HTd.out hq1 hq3 hlt
          obtain ⟨q', hq'⟩ : ∃ q', q' = q - 1 := ⟨_, rfl⟩
          obtain ⟨r', hr2⟩ : ∃ r', r' = r + Y1 := ⟨_, rfl⟩
          have eq1 : IntKind.u64.wrap ((q : Int) - 1) = (q' : Int) := by rw [wrap_u64']; omega
          have er1 : IntKind.u64.wrap ((r : Int) + (Y1 : Int)) = (r' : Int) := by have := HYn.out; rw [wrap_u64']; omega
          rw [← hq', ← hr2] at n1
          rw [← hq'] at n2 n3
          rw [← hr2] at n3
          have N1 := Lib.hid n1
          have N2 := Lib.hid n2
          have N3 := Lib.hid n3
          have N4 : Hid (q' ≤ 4294967297 ∧ q' < q) := ⟨by omega, by omega⟩
          clear n1 n2 n3 HT hq1 hq2 hq3 hlt hq' hr2 hbig
          by_cases hs : (4294967296 : Int) ≤ (r' : Int)
          · have hdone : Hid (T = q') := N3.out (by omega)
            clear hr
            go_wp2
            go_meet
            exact ⟨by rw [hdone.out], rfl⟩
          · have hs' : decide ((4294967296 : Int) ≤ (r' : Int)) = false := decide_eq_false hs
            have hrn : Hid (r' < 4294967296) := by
              show r' < 4294967296
              omega
            clear hs hr
            go_wp2
            go_round
            case rel => exact ⟨q', r', rfl, rfl, N1.out, N2.out, N4.out.1, hrn.out⟩
            case measure => have := N4.out; simp [intOf]; omega
        · have hbig' : decide ((4294967296 : Int) ≤ (q : Int)) = false := decide_eq_false (by omega)
          have hprod := long_prod (q := q) (by omega) HYn.out.2.2.2
          obtain ⟨P, hP⟩ : ∃ P, P = q * Y0 := ⟨_, rfl⟩
          obtain ⟨A0, hA0⟩ : ∃ A0, A0 = 4294967296 * r := ⟨_, rfl⟩
          obtain ⟨A, hA⟩ : ∃ A, A = A0 + u1 := ⟨_, rfl⟩
          have e1 : IntKind.u64.wrap ((q : Int) * (Y0 : Int)) = (P : Int) := by rw [nat_mul, hP]; exact wrap_fits _ hprod
          have e2 : IntKind.u64.wrap (4294967296 * (r : Int)) = (A0 : Int) := by rw [wrap_u64']; omega
          have e3 : IntKind.u64.wrap ((A0 : Int) + (u1 : Int)) = (A : Int) := by have := HU1.out; rw [wrap_u64']; omega
          rw [← hP, ← hA0, ← hA] at HT
          clear hprod hP hA hA0 hbig
          by_cases hc : A < P
          · have hlt : T < q := by rw [HTd.out]; exact HT.2 hc
            have hc' : (A : Int) < (P : Int) := by omega
            obtain ⟨n1, n2, n3⟩ := long_step HYn.out.1 HYn.out.2.2.2 HTd.out hq1 hq3 hlt
            obtain ⟨q', hq'⟩ : ∃ q', q' = q - 1 := ⟨_, rfl⟩
            obtain ⟨r', hr2⟩ : ∃ r', r' = r + Y1 := ⟨_, rfl⟩
            have eq1 : IntKind.u64.wrap ((q : Int) - 1) = (q' : Int) := by rw [wrap_u64']; omega
            have er1 : IntKind.u64.wrap ((r : Int) + (Y1 : Int)) = (r' : Int) := by have := HYn.out; rw [wrap_u64']; omega
            rw [← hq', ← hr2] at n1
            rw [← hq'] at n2 n3
            rw [← hr2] at n3
            have N1 := Lib.hid n1
            have N2 := Lib.hid n2
            have N3 := Lib.hid n3
            have N4 : Hid (q' ≤ 4294967297 ∧ q' < q) := ⟨by omega, by omega⟩
            clear n1 n2 n3 HT hq1 hq2 hq3 hlt hq' hr2 hc
            by_cases hs : (4294967296 : Int) ≤ (r' : Int)
            · have hdone : Hid (T = q') := N3.out (by omega)
              clear hr
              go_wp2
              go_meet
              exact ⟨by rw [hdone.out], rfl⟩
            · have hs' : decide ((4294967296 : Int) ≤ (r' : Int)) = false := decide_eq_false hs
              have hrn : Hid (r' < 4294967296) := by
                show r' < 4294967296
                omega
              clear hs hr
              go_wp2
              go_round
              case rel => exact ⟨q', r', rfl, rfl, N1.out, N2.out, N4.out.1, hrn.out⟩
              case measure => have := N4.out; simp [intOf]; omega
          · have hc' : (P : Int) ≤ (A : Int) := by omega
            have hend : Hid (q = T) := by
              show q = T
              have : ¬ T < q := by rw [HTd.out]; exact fun h => hc (HT.1 h)
              omega
            clear hc HT hq1 hq2 hq3 hr
            go_wp2
            go_meet
            exact ⟨by rw [hend.out], rfl⟩
    case rest =>
      obtain ⟨rfl, rfl⟩ := hcut
      clear hy1
      have hy1 : ¬ (Y1 : Int) = 0 := by omega
      obtain ⟨R, hRd⟩ : ∃ R, R = (U * 4294967296 + u1) % Y := ⟨_, rfl⟩
      have hRY : R < Y := by
        rw [hRd]
        have := HYb.out
        exact Nat.mod_lt _ (by omega)
      have hR : T * Y + R = U * 4294967296 + u1 := by
        rw [hRd]
        exact long_left (by rw [HTd.out, HYs.out])
      have eR : IntKind.u64.wrap (IntKind.u64.wrap (IntKind.u64.wrap ((U : Int) * 4294967296) + (u1 : Int)) - IntKind.u64.wrap ((T : Int) * (Y : Int))) = (R : Int) := by
        have hb := HYb.out
        rw [nat_mul T Y]
        generalize T * Y = P at *
        rw [wrap_u64', wrap_u64', wrap_u64', wrap_u64']
        omega
      have HR := Lib.hid hR
      have HRY := Lib.hid hRY
      have HRd := Lib.hid hRd
      clear hR hRY hRd
      obtain ⟨T2, hT2⟩ : ∃ T2, T2 = (R * 4294967296 + u0) / (Y1 * 4294967296 + Y0) := ⟨_, rfl⟩
      have HT2d := Lib.hid hT2
      have HT2s : Hid (T2 < 4294967296) := by
        show T2 < _
        rw [hT2, ← HYs.out]
        exact long_small HRY.out HU0.out
      clear hT2
      have hstart2 : Hid (R / Y1 * Y1 + R % Y1 = R ∧ T2 ≤ R / Y1 ∧ R / Y1 ≤ 4294967297 ∧ R % Y1 < 4294967296) := by
        refine ⟨?_, ?_, ?_, ?_⟩
        · rw [Nat.mul_comm, Nat.div_add_mod]
        · rw [HT2d.out]; exact long_least HYn.out.2.1 HU0.out
        · exact long_most HYn.out.1 HYn.out.2.2.2 (by rw [← HYs.out]; exact HRY.out)
        · exact Nat.lt_trans (Nat.mod_lt _ HYn.out.2.1) HYn.out.2.2.1
      have hRb : R < 18446744073709551616 := Nat.lt_trans HRY.out HYb.out.1
      have eq2 : IntKind.u64.wrap ((R : Int) / (Y1 : Int)) = ((R / Y1 : Nat) : Int) := wrap_quo hRb
      have er2 : IntKind.u64.wrap ((R : Int) - IntKind.u64.wrap (((R / Y1 : Nat) : Int) * (Y1 : Int))) = ((R % Y1 : Nat) : Int) := by
        have h := hstart2.out.1
        rw [nat_mul, wrap_fits _ (by omega), wrap_u64']
        generalize R / Y1 * Y1 = p at *
        omega
      clear hRb
      generalize R / Y1 = Q2 at *
      generalize R % Y1 = R2 at *
      have eF : IntKind.u64.wrap (IntKind.u64.wrap ((T : Int) * 4294967296) + (T2 : Int)) = (((hi * 18446744073709551616 + lo) / y : Nat) : Int) := by
        have h1 := HTs.out
        have h2 := HT2s.out
        have h3 : T * 4294967296 + T2 = (hi * 18446744073709551616 + lo) / y := by
          rw [← HA.out, HTd.out, HT2d.out, ← HYs.out, HRd.out, HL.out]
          exact long_two (by have := HYb.out; omega)
        rw [← h3, wrap_u64', wrap_u64']
        omega
      go_upto_block 2 with fail
      go_cut [18, 16] (fun s18 s16 wx => s18 = .int .u64 T2 ∧ w = wx)
      case first =>
        go_wp2_with fail
        go_loop [18, 16] (fun a b => ∃ q r : Nat, a = .int .u64 q ∧ b = .int .u64 r ∧ q * Y1 + r = R ∧ T2 ≤ q ∧ q ≤ 4294967297 ∧ r < 4294967296) (fun a _ => (intOf a).toNat)
        case atStart => exact ⟨_, _, rfl, rfl, hstart2.out⟩
        case round =>
          obtain ⟨q, r, rfl, rfl, hq1, hq2, hq3, hr⟩ := hrel
          have HT := long_test (u := u0) (Y0 := Y0) HYn.out.2.1 hq1
          by_cases hbig : 4294967296 ≤ q
          · have hbig' : (4294967296 : Int) ≤ (q : Int) := by omega
            have hlt : T2 < q := Nat.lt_of_lt_of_le HT2s.out hbig
            obtain ⟨n1, n2, n3⟩ := long_step HYn.out.1 HYn.out.2.2.2 HT2d.out hq1 hq3 hlt
            obtain ⟨q', hq'⟩ : ∃ q', q' = q - 1 := ⟨_, rfl⟩
            obtain ⟨r', hr2⟩ : ∃ r', r' = r + Y1 := ⟨_, rfl⟩
            have eq1 : IntKind.u64.wrap ((q : Int) - 1) = (q' : Int) := by rw [wrap_u64']; omega
            have er1 : IntKind.u64.wrap ((r : Int) + (Y1 : Int)) = (r' : Int) := by have := HYn.out; rw [wrap_u64']; omega
            rw [← hq', ← hr2] at n1
            rw [← hq'] at n2 n3
            rw [← hr2] at n3
            have N1 := Lib.hid n1
            have N2 := Lib.hid n2
            have N3 := Lib.hid n3
            have N4 : Hid (q' ≤ 4294967297 ∧ q' < q) := ⟨by omega, by omega⟩
            clear n1 n2 n3 HT hq1 hq2 hq3 hlt hq' hr2 hbig
            by_cases hs : (4294967296 : Int) ≤ (r' : Int)
            · have hdone : Hid (T2 = q') := N3.out (by omega)
              clear hr
              go_wp2
              go_meet
              exact ⟨by rw [hdone.out], rfl⟩
            · have hs' : decide ((4294967296 : Int) ≤ (r' : Int)) = false := decide_eq_false hs
              have hrn : Hid (r' < 4294967296) := by
                show r' < 4294967296
                omega
              clear hs hr
              go_wp2
              go_round
              case rel => exact ⟨q', r', rfl, rfl, N1.out, N2.out, N4.out.1, hrn.out⟩
              case measure => have := N4.out; simp [intOf]; omega
          · have hbig' : decide ((4294967296 : Int) ≤ (q : Int)) = false := decide_eq_false (by omega)
            have hprod := long_prod (q := q) (by omega) HYn.out.2.2.2
            obtain ⟨P, hP⟩ : ∃ P, P = q * Y0 := ⟨_, rfl⟩
            obtain ⟨A0, hA0⟩ : ∃ A0, A0 = 4294967296 * r := ⟨_, rfl⟩
            obtain ⟨A, hA⟩ : ∃ A, A = A0 + u0 := ⟨_, rfl⟩
            have e1 : IntKind.u64.wrap ((q : Int) * (Y0 : Int)) = (P : Int) := by rw [nat_mul, hP]; exact wrap_fits _ hprod
            have e2 : IntKind.u64.wrap (4294967296 * (r : Int)) = (A0 : Int) := by rw [wrap_u64']; omega
            have e3 : IntKind.u64.wrap ((A0 : Int) + (u0 : Int)) = (A : Int) := by have := HU0.out; rw [wrap_u64']; omega
            rw [← hP, ← hA0, ← hA] at HT
            clear hprod hP hA hA0 hbig
            by_cases hc : A < P
            · have hlt : T2 < q := by rw [HT2d.out]; exact HT.2 hc
              have hc' : (A : Int) < (P : Int) := by omega
              obtain ⟨n1, n2, n3⟩ := long_step HYn.out.1 HYn.out.2.2.2 HT2d.out hq1 hq3 hlt
              obtain ⟨q', hq'⟩ : ∃ q', q' = q - 1 := ⟨_, rfl⟩
              obtain ⟨r', hr2⟩ : ∃ r', r' = r + Y1 := ⟨_, rfl⟩
              have eq1 : IntKind.u64.wrap ((q : Int) - 1) = (q' : Int) := by rw [wrap_u64']; omega
              have er1 : IntKind.u64.wrap ((r : Int) + (Y1 : Int)) = (r' : Int) := by have := HYn.out; rw [wrap_u64']; omega
              rw [← hq', ← hr2] at n1
              rw [← hq'] at n2 n3
              rw [← hr2] at n3
              have N1 := Lib.hid n1
              have N2 := Lib.hid n2
              have N3 := Lib.hid n3
              have N4 : Hid (q' ≤ 4294967297 ∧ q' < q) := ⟨by omega, by omega⟩
              clear n1 n2 n3 HT hq1 hq2 hq3 hlt hq' hr2 hc
              by_cases hs : (4294967296 : Int) ≤ (r' : Int)
              · have hdone : Hid (T2 = q') := N3.out (by omega)
                clear hr
                go_wp2
                go_meet
                exact ⟨by rw [hdone.out], rfl⟩
              · have hs' : decide ((4294967296 : Int) ≤ (r' : Int)) = false := decide_eq_false hs
                have hrn : Hid (r' < 4294967296) := by
                  show r' < 4294967296
                  omega
                clear hs hr
                go_wp2
                go_round
                case rel => exact ⟨q', r', rfl, rfl, N1.out, N2.out, N4.out.1, hrn.out⟩
                case measure => have := N4.out; simp [intOf]; omega
            · have hc' : (P : Int) ≤ (A : Int) := by omega
              have hend : Hid (q = T2) := by
                show q = T2
                have : ¬ T2 < q := by rw [HT2d.out]; exact fun h => hc (HT.1 h)
                omega
              clear hc HT hq1 hq2 hq3 hr
              go_wp2
              go_meet
              exact ⟨by rw [hend.out], rfl⟩
      case rest =>
        obtain ⟨rfl, rfl⟩ := hcut
        go_wp2
        go_ret2
        exact ⟨⟨_, rfl⟩, Below.refl _ _⟩
end Go.Proofs.Ytjlgjdmnjjfhnaa
