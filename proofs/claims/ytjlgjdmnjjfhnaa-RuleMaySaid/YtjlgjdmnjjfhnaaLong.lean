/-
  The long quotient of 128 bits by 64, by halves: over naturals alone. Program-independent. No conditions but those of each theorem.
-/
import Derived.Test.YtjlgjdmnjjfhnaaRows
namespace Go.Proofs.Ytjlgjdmnjjfhnaa
theorem long_test {Y1 Y0 U u q r : Nat} (hY : 0 < Y1) (h : q * Y1 + r = U) :
    (U * 4294967296 + u) / (Y1 * 4294967296 + Y0) < q ↔ 4294967296 * r + u < q * Y0 := by
  rw [Nat.div_lt_iff_lt_mul (by omega), Nat.mul_add, ← Nat.mul_assoc]
  generalize q * Y1 = p at *
  generalize q * Y0 = s at *
  omega
theorem long_most {Y1 Y0 U : Nat} (h1 : 2147483648 ≤ Y1) (h0 : Y0 < 4294967296) (hU : U < Y1 * 4294967296 + Y0) : U / Y1 ≤ 4294967297 := by
  have h : U < 4294967298 * Y1 := by omega
  have := Nat.div_lt_of_lt_mul (by rw [Nat.mul_comm]; exact h : U < Y1 * 4294967298)
  omega
theorem long_least {Y1 Y0 U u : Nat} (h1 : 0 < Y1) (hu : u < 4294967296) : (U * 4294967296 + u) / (Y1 * 4294967296 + Y0) ≤ U / Y1 := by
  apply Nat.le_of_lt_succ
  rw [Nat.div_lt_iff_lt_mul (by omega)]
  have h := Nat.div_add_mod U Y1
  have hm := Nat.mod_lt U h1
  generalize U / Y1 = q at *
  generalize U % Y1 = r at *
  have e : (q + 1) * (Y1 * 4294967296 + Y0) = (Y1 * q) * 4294967296 + Y1 * 4294967296 + (q + 1) * Y0 := by
    rw [Nat.mul_add, Nat.add_mul q 1, Nat.mul_comm q, Nat.one_mul]
    rw [Nat.mul_right_comm]
  rw [e]
  generalize Y1 * q = p at *
  generalize (q + 1) * Y0 = s at *
  omega
theorem long_two {Y U u1 u0 : Nat} (hY : 0 < Y) : (U * 4294967296 + u1) / Y * 4294967296 + ((U * 4294967296 + u1) % Y * 4294967296 + u0) / Y = (U * 18446744073709551616 + (u1 * 4294967296 + u0)) / Y := by
  have h := Nat.div_add_mod (U * 4294967296 + u1) Y
  obtain ⟨q, hq⟩ : ∃ q, q = (U * 4294967296 + u1) / Y := ⟨_, rfl⟩
  obtain ⟨R, hR⟩ : ∃ R, R = (U * 4294967296 + u1) % Y := ⟨_, rfl⟩
  rw [← hq, ← hR] at h
  rw [← hq, ← hR]
  clear hq hR
  have e1 : q * 4294967296 * Y = Y * q * 4294967296 := by rw [Nat.mul_right_comm, Nat.mul_comm q Y]
  have e : U * 18446744073709551616 + (u1 * 4294967296 + u0) = (R * 4294967296 + u0) + q * 4294967296 * Y := by
    rw [e1]
    clear e1
    obtain ⟨p, hp⟩ : ∃ p, p = Y * q := ⟨_, rfl⟩
    rw [← hp] at h ⊢
    clear hp
    omega
  rw [e, Nat.add_mul_div_right _ _ hY, Nat.add_comm]
theorem long_shift {hi lo s : Nat} (hs : s ≤ 64) : (hi * 2 ^ s + lo / 2 ^ (64 - s)) * 18446744073709551616 + lo * 2 ^ s % 18446744073709551616 = (hi * 18446744073709551616 + lo) * 2 ^ s := by
  have e : (18446744073709551616 : Nat) = 2 ^ (64 - s) * 2 ^ s := by rw [← Nat.pow_add, Nat.sub_add_cancel hs]
  have h1 : lo / 2 ^ (64 - s) = lo * 2 ^ s / 18446744073709551616 := by
    rw [e, Nat.mul_div_mul_right _ _ (Nat.pow_pos (by decide))]
  rw [h1]
  have h := Nat.div_add_mod (lo * 2 ^ s) 18446744073709551616
  rw [Nat.add_mul (hi * 18446744073709551616), Nat.mul_right_comm hi]
  generalize lo * 2 ^ s = p at *
  generalize hi * 2 ^ s = k at *
  omega
theorem long_or {hi lo s : Nat} (hs : s ≤ 64) (hl : lo < 18446744073709551616) : (hi * 2 ^ s) ||| (lo / 2 ^ (64 - s)) = hi * 2 ^ s + lo / 2 ^ (64 - s) := by
  have h : lo / 2 ^ (64 - s) < 2 ^ s := by
    rw [Nat.div_lt_iff_lt_mul (Nat.pow_pos (by decide)), ← Nat.pow_add, Nat.add_sub_cancel' hs]
    exact hl
  have := Nat.shiftLeft_add_eq_or_of_lt h hi
  rw [Nat.shiftLeft_eq] at this
  exact this.symm
theorem long_below {hi lo y s : Nat} (hs : s ≤ 64) (hl : lo < 18446744073709551616) (h : hi < y) : hi * 2 ^ s + lo / 2 ^ (64 - s) < y * 2 ^ s := by
  have h1 : lo / 2 ^ (64 - s) < 2 ^ s := by
    rw [Nat.div_lt_iff_lt_mul (Nat.pow_pos (by decide)), ← Nat.pow_add, Nat.add_sub_cancel' hs]
    exact hl
  have h2 : (hi + 1) * 2 ^ s ≤ y * 2 ^ s := Nat.mul_le_mul_right _ h
  rw [Nat.add_mul, Nat.one_mul] at h2
  omega
theorem long_all {hi lo y s : Nat} (hs : s ≤ 64) :
    ((hi * 2 ^ s + lo / 2 ^ (64 - s)) * 18446744073709551616 + lo * 2 ^ s % 18446744073709551616) / (y * 2 ^ s) = (hi * 18446744073709551616 + lo) / y := by
  rw [long_shift hs, Nat.mul_div_mul_right _ _ (Nat.pow_pos (by decide))]
theorem long_step {Y1 Y0 U u q r T : Nat} (hY : 2147483648 ≤ Y1) (h0 : Y0 < 4294967296) (hT : T = (U * 4294967296 + u) / (Y1 * 4294967296 + Y0)) (h : q * Y1 + r = U) (hq : q ≤ 4294967297) (ht : T < q) :
    (q - 1) * Y1 + (r + Y1) = U ∧ T ≤ q - 1 ∧ (4294967296 ≤ r + Y1 → T = q - 1) := by
  obtain ⟨k, rfl⟩ : ∃ k, q = k + 1 := ⟨q - 1, by omega⟩
  rw [Nat.add_sub_cancel]
  have h1 : k * Y1 + (r + Y1) = U := by
    rw [Nat.add_mul, Nat.one_mul] at h
    omega
  refine ⟨h1, by omega, fun hr => ?_⟩
  have h2 := long_test (u := u) (Y0 := Y0) (by omega) h1
  have h3 : k * Y0 ≤ 4294967296 * 4294967295 := Nat.mul_le_mul (by omega) (by omega)
  have h4 : ¬ T < k := by
    rw [hT, h2]
    generalize k * Y0 = s at *
    omega
  omega
theorem long_small {Y U u : Nat} (hU : U < Y) (hu : u < 4294967296) : (U * 4294967296 + u) / Y < 4294967296 := by
  rw [Nat.div_lt_iff_lt_mul (by omega)]
  omega
theorem long_left {Y U u T : Nat} (hT : T = (U * 4294967296 + u) / Y) : T * Y + (U * 4294967296 + u) % Y = U * 4294967296 + u := by
  rw [hT, Nat.mul_comm, Nat.div_add_mod]
theorem long_prod {q Y0 : Nat} (hq : q < 4294967296) (h0 : Y0 < 4294967296) : q * Y0 < 18446744073709551616 := by
  have : q * Y0 ≤ 4294967295 * 4294967295 := Nat.mul_le_mul (by omega) (by omega)
  omega
end Go.Proofs.Ytjlgjdmnjjfhnaa
