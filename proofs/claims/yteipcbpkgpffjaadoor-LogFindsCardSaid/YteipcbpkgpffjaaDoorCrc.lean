/-
  The sum of bytes (CRC-32), plainly: a step, its linearity, that it forgets nothing; bit by bit, byte by byte; one changed byte changes the sum. No program. No conditions but those of each theorem.
-/
import Derived.Test.YteipcbpkgpffjaaDoorRd
namespace Go.Proofs.YteipcbpkgpffjaaDoor

/-- The polynomial, the other way round. -/
def poly : Nat := 0xedb88320
/-- A step: one bit. -/
def crcStep (s : Nat) : Nat := if s % 2 = 1 then (s / 2) ^^^ poly else s / 2
def crcIter : Nat → Nat → Nat
  | 0, s => s
  | k + 1, s => crcIter k (crcStep s)
/-- A byte. -/
def crcByte (s b : Nat) : Nat := crcIter 8 (s ^^^ b)
/-- Bytes, one behind the other. -/
def crcList (s : Nat) (l : List UInt8) : Nat := l.foldl (fun s b => crcByte s b.toNat) s
def crcSum (l : List UInt8) : Nat := crcList 0xffffffff l ^^^ 0xffffffff

theorem poly_lo : 2 ^ 31 ≤ poly := by decide
theorem poly_hi : poly < 2 ^ 32 := by decide

theorem crcStep_lt {s : Nat} (h : s < 2 ^ 32) : crcStep s < 2 ^ 32 := by
  unfold crcStep
  split
  · exact Nat.xor_lt_two_pow (by omega) poly_hi
  · omega
theorem crcIter_lt {s : Nat} (k : Nat) (h : s < 2 ^ 32) : crcIter k s < 2 ^ 32 := by
  induction k generalizing s with
  | zero => exact h
  | succ k ih => exact ih (crcStep_lt h)
theorem crcByte_lt {s b : Nat} (h : s < 2 ^ 32) (hb : b < 256) : crcByte s b < 2 ^ 32 := crcIter_lt 8 (Nat.xor_lt_two_pow h (by omega))
theorem crcList_lt {s : Nat} (l : List UInt8) (h : s < 2 ^ 32) : crcList s l < 2 ^ 32 := by
  induction l generalizing s with
  | nil => exact h
  | cons b l ih => exact ih (crcByte_lt h b.toNat_lt)
theorem crcSum_lt (l : List UInt8) : crcSum l < 2 ^ 32 := Nat.xor_lt_two_pow (crcList_lt l (by decide)) (by decide)

theorem xor_half (a b : Nat) : (a ^^^ b) / 2 = (a / 2) ^^^ (b / 2) := by
  apply Nat.eq_of_testBit_eq
  intro i
  simp [Nat.testBit_div_two, Nat.testBit_xor]
theorem xor_mod2 (a b : Nat) : (a ^^^ b) % 2 = (a % 2 + b % 2) % 2 := by
  have h := Nat.testBit_xor a b 0
  simp only [Nat.testBit_zero] at h
  have h1 : (a ^^^ b) % 2 < 2 := Nat.mod_lt _ (by decide)
  have h2 : a % 2 < 2 := Nat.mod_lt _ (by decide)
  have h3 : b % 2 < 2 := Nat.mod_lt _ (by decide)
  rcases (by omega : a % 2 = 0 ∨ a % 2 = 1) with ha | ha <;> rcases (by omega : b % 2 = 0 ∨ b % 2 = 1) with hb | hb <;>
    rcases (by omega : (a ^^^ b) % 2 = 0 ∨ (a ^^^ b) % 2 = 1) with hc | hc <;> simp [ha, hb, hc] at h ⊢
theorem crcStep_lin (a b : Nat) : crcStep (a ^^^ b) = crcStep a ^^^ crcStep b := by
  have hm := xor_mod2 a b
  unfold crcStep
  rw [xor_half]
  rcases (by omega : a % 2 = 0 ∨ a % 2 = 1) with ha | ha <;> rcases (by omega : b % 2 = 0 ∨ b % 2 = 1) with hb | hb
  · rw [ha, hb] at hm; simp [ha, hb, hm]
  · rw [ha, hb] at hm; simp [ha, hb, hm, Nat.xor_assoc]
  · rw [ha, hb] at hm; simp [ha, hb, hm]; rw [Nat.xor_assoc, Nat.xor_comm (b / 2) poly, ← Nat.xor_assoc]
  · rw [ha, hb] at hm
    simp [ha, hb, hm]
    rw [Nat.xor_assoc, ← Nat.xor_assoc poly (b / 2) poly, Nat.xor_comm poly (b / 2), Nat.xor_assoc (b / 2), Nat.xor_self, Nat.xor_zero]
theorem crcStep_even (c : Nat) : crcStep (2 * c) = c := by
  unfold crcStep
  rw [if_neg (by omega)]
  omega
theorem crcStep_zero {c : Nat} (h : c < 2 ^ 32) (e : crcStep c = 0) : c = 0 := by
  unfold crcStep at e
  split at e
  · have h1 : c / 2 = poly := by
      have h2 : (c / 2 ^^^ poly) ^^^ poly = 0 ^^^ poly := by rw [e]
      rwa [Nat.xor_assoc, Nat.xor_self, Nat.xor_zero, Nat.zero_xor] at h2
    have := poly_lo
    omega
  · omega
theorem xor_zero_eq {a b : Nat} (h : a ^^^ b = 0) : a = b := by
  have h2 : (a ^^^ b) ^^^ b = 0 ^^^ b := by rw [h]
  rwa [Nat.xor_assoc, Nat.xor_self, Nat.xor_zero, Nat.zero_xor] at h2
theorem crcStep_inj {a b : Nat} (ha : a < 2 ^ 32) (hb : b < 2 ^ 32) (e : crcStep a = crcStep b) : a = b := by
  apply xor_zero_eq
  apply crcStep_zero (Nat.xor_lt_two_pow ha hb)
  rw [crcStep_lin, e, Nat.xor_self]
theorem crcIter_inj (k : Nat) {a b : Nat} (ha : a < 2 ^ 32) (hb : b < 2 ^ 32) (e : crcIter k a = crcIter k b) : a = b := by
  induction k generalizing a b with
  | zero => exact e
  | succ k ih => exact crcStep_inj ha hb (ih (crcStep_lt ha) (crcStep_lt hb) e)
theorem crcIter_lin (k a b : Nat) : crcIter k (a ^^^ b) = crcIter k a ^^^ crcIter k b := by
  induction k generalizing a b with
  | zero => rfl
  | succ k ih => simp only [crcIter]; rw [crcStep_lin, ih]
theorem xor_cancel_right {a b c : Nat} (h : a ^^^ c = b ^^^ c) : a = b := by
  have h2 : (a ^^^ c) ^^^ c = (b ^^^ c) ^^^ c := by rw [h]
  rwa [Nat.xor_assoc, Nat.xor_self, Nat.xor_zero, Nat.xor_assoc, Nat.xor_self, Nat.xor_zero] at h2
theorem xor_cancel_left {a b c : Nat} (h : c ^^^ a = c ^^^ b) : a = b := by
  rw [Nat.xor_comm c a, Nat.xor_comm c b] at h
  exact xor_cancel_right h
theorem crcByte_inj {s t b : Nat} (hs : s < 2 ^ 32) (ht : t < 2 ^ 32) (hb : b < 256) (e : crcByte s b = crcByte t b) : s = t :=
  xor_cancel_right (crcIter_inj 8 (Nat.xor_lt_two_pow hs (by omega)) (Nat.xor_lt_two_pow ht (by omega)) e)
theorem crcByte_inj_byte {s b c : Nat} (hs : s < 2 ^ 32) (hb : b < 256) (hc : c < 256) (e : crcByte s b = crcByte s c) : b = c :=
  xor_cancel_left (crcIter_inj 8 (Nat.xor_lt_two_pow hs (by omega)) (Nat.xor_lt_two_pow hs (by omega)) e)
theorem crcList_inj {s t : Nat} (l : List UInt8) (hs : s < 2 ^ 32) (ht : t < 2 ^ 32) (e : crcList s l = crcList t l) : s = t := by
  induction l generalizing s t with
  | nil => exact e
  | cons b l ih => exact crcByte_inj hs ht b.toNat_lt (ih (crcByte_lt hs b.toNat_lt) (crcByte_lt ht b.toNat_lt) e)
theorem crcList_append (s : Nat) (l m : List UInt8) : crcList s (l ++ m) = crcList (crcList s l) m := by simp [crcList]
theorem crcList_snoc (s : Nat) (l : List UInt8) (b : UInt8) : crcList s (l ++ [b]) = crcByte (crcList s l) b.toNat := by rw [crcList_append]; rfl
/-- One changed byte changes the sum. -/
theorem crcSum_one (l m : List UInt8) (b c : UInt8) (e : crcSum (l ++ b :: m) = crcSum (l ++ c :: m)) : b = c := by
  have e := xor_cancel_right e
  rw [crcList_append, crcList_append] at e
  have hl := crcList_lt (s := 0xffffffff) l (by decide)
  have h := crcList_inj (s := crcByte (crcList 0xffffffff l) b.toNat) (t := crcByte (crcList 0xffffffff l) c.toNat) m (crcByte_lt hl b.toNat_lt) (crcByte_lt hl c.toNat_lt) e
  exact UInt8.toNat_inj.1 (crcByte_inj_byte hl b.toNat_lt c.toNat_lt h)

/-- Bit by bit: k bits of m, the least first. -/
def crcBits : Nat → Nat → Nat → Nat
  | 0, s, _ => s
  | k + 1, s, m => crcBits k (crcStep (s ^^^ (m % 2))) (m / 2)
theorem mod_split (m k : Nat) : m % 2 ^ (k + 1) = (m % 2) ^^^ (2 * ((m / 2) % 2 ^ k)) := by
  have e : m % 2 ^ (k + 1) = m % 2 + 2 * ((m / 2) % 2 ^ k) := by
    rw [Nat.pow_succ, Nat.mul_comm, Nat.mod_mul]
  rw [e]
  apply Nat.eq_of_testBit_eq
  intro i
  rw [Nat.testBit_xor]
  have hlt : m % 2 < 2 := Nat.mod_lt _ (by decide)
  cases i with
  | zero =>
    simp only [Nat.testBit_zero]
    rcases (by omega : m % 2 = 0 ∨ m % 2 = 1) with h | h <;> simp [h] <;> omega
  | succ i =>
    rw [Nat.testBit_succ, Nat.testBit_succ, Nat.testBit_succ]
    have h1 : (m % 2 + 2 * (m / 2 % 2 ^ k)) / 2 = m / 2 % 2 ^ k := by omega
    have h2 : m % 2 / 2 = 0 := by omega
    have h3 : 2 * (m / 2 % 2 ^ k) / 2 = m / 2 % 2 ^ k := by omega
    rw [h1, h2, h3]; simp
theorem crcBits_is (k s m : Nat) : crcBits k s m = crcIter k (s ^^^ (m % 2 ^ k)) := by
  induction k generalizing s m with
  | zero => simp [crcBits, crcIter, Nat.mod_one]
  | succ k ih =>
    simp only [crcBits, crcIter]
    rw [ih, mod_split, ← Nat.xor_assoc, crcStep_lin (s ^^^ (m % 2)), crcStep_even]
theorem crcBits_byte (s : Nat) (b : UInt8) : crcBits 8 s b.toNat = crcByte s b.toNat := by
  rw [crcBits_is, Nat.mod_eq_of_lt b.toNat_lt]; rfl
/-- The last bit apart. -/
theorem crcBits_snoc (k s m : Nat) : crcBits (k + 1) s m = crcStep (crcBits k s m ^^^ (m / 2 ^ k % 2)) := by
  induction k generalizing s m with
  | zero => simp [crcBits]
  | succ k ih =>
    rw [crcBits, ih]
    simp only [crcBits]
    rw [Nat.div_div_eq_div_mul, Nat.pow_succ, Nat.mul_comm 2 (2 ^ k)]
/-- A step as the document's sum takes it. -/
theorem crcStep_test (s x : Nat) : crcStep (s ^^^ (x % 2)) = if s % 2 ≠ x % 2 then (s / 2) ^^^ poly else s / 2 := by
  have hm := xor_mod2 s (x % 2)
  have hh := xor_half s (x % 2)
  have h0 : x % 2 / 2 = 0 := by omega
  rw [h0, Nat.xor_zero] at hh
  unfold crcStep
  rw [hh, hm]
  by_cases h : s % 2 = x % 2
  · rw [if_neg (by omega), if_neg (by omega)]
  · rw [if_pos (by omega), if_pos h]
/-- By a table: the low byte alone, and the rest. -/
theorem crcIter_high (k c : Nat) : crcIter k (2 ^ k * c) = c := by
  induction k generalizing c with
  | zero => simp [crcIter]
  | succ k ih =>
    simp only [crcIter]
    rw [Nat.pow_succ, Nat.mul_comm (2 ^ k) 2, Nat.mul_assoc, crcStep_even, ih]
theorem low_high (k s : Nat) : s = (s % 2 ^ k) ^^^ (2 ^ k * (s / 2 ^ k)) := by
  have e : s = 2 ^ k * (s / 2 ^ k) + s % 2 ^ k := (Nat.div_add_mod s (2 ^ k)).symm
  rw [Nat.xor_comm]
  have h : s % 2 ^ k < 2 ^ k := Nat.mod_lt _ (Nat.pow_pos (by decide))
  generalize s % 2 ^ k = r at *
  generalize s / 2 ^ k = q at *
  rw [e]
  apply Nat.eq_of_testBit_eq
  intro i
  rw [Nat.testBit_xor, Nat.testBit_two_pow_mul_add _ h, Nat.testBit_two_pow_mul]
  by_cases hi : i < k
  · have : ¬ k ≤ i := by omega
    simp [hi, this]
  · have hk : k ≤ i := by omega
    have : r.testBit i = false := Nat.testBit_lt_two_pow (Nat.lt_of_lt_of_le h (Nat.pow_le_pow_right (by decide) hk))
    simp [hi, hk, this]
theorem crcIter_table (k s : Nat) : crcIter k s = crcIter k (s % 2 ^ k) ^^^ (s / 2 ^ k) := by
  conv => lhs; rw [low_high k s]
  rw [crcIter_lin, crcIter_high]
end Go.Proofs.YteipcbpkgpffjaaDoor
