/-
  Reading what was put: the plain facts, of lists and numbers. No conditions but those of each theorem.
-/
import Derived.Test.YtljoalihioflmaaCodecWrites
namespace Go.Proofs.Ytljoalihioflmaa
open Go.RowKit
set_option maxRecDepth 100000

theorem le_snoc (v : Int) (n : Nat) : le v (n + 1) = le v n ++ [byteAt v n] := by simp [le, List.range_succ]
theorem byteAt_nat (v k : Nat) : (byteAt (v : Int) k).toNat = v / 2 ^ (8 * k) % 256 := by
  have h := byteAt_int (v : Int) k
  have e : ((v : Int) / 2 ^ (8 * k) % 256) = ((v / 2 ^ (8 * k) % 256 : Nat) : Int) := by
    rw [Int.natCast_emod, Int.natCast_ediv, Int.natCast_pow]; rfl
  rw [e] at h
  exact Int.ofNat_inj.1 h
theorem numLe_le (v n : Nat) : numLe (le (v : Int) n) = v % 2 ^ (8 * n) := by
  induction n with
  | zero => simp [le, numLe, Nat.mod_one]
  | succ n ih =>
    rw [le_snoc, numLe_snoc, ih, le_length, byteAt_nat, show (256 : Nat) ^ n = 2 ^ (8 * n) by rw [Nat.pow_mul], show 8 * (n + 1) = 8 * n + 8 by omega, Nat.pow_add, Nat.mod_mul]
theorem numLe_fits {v : Int} {n : Nat} (h : fits v n = true) : ((numLe (le v n) : Nat) : Int) = v := by
  have h0 := fits_pos h
  obtain ⟨m, rfl⟩ := Int.eq_ofNat_of_zero_le h0
  have h1 : (m : Int) < 2 ^ (8 * n) := by simp [fits] at h; exact h
  have h2 : m < 2 ^ (8 * n) := by
    have : ((2 ^ (8 * n) : Nat) : Int) = (2 : Int) ^ (8 * n) := by rw [Int.natCast_pow]; rfl
    rw [← this] at h1
    exact Int.ofNat_lt.1 h1
  rw [numLe_le, Nat.mod_eq_of_lt h2]
theorem took_le (v : Int) (n : Nat) (r : List UInt8) : took (le v n ++ r) false n = (le v n, r, false) := by
  have hc : canTake (le v n ++ r) n = true := by simp [canTake, le_length]; omega
  unfold took
  rw [hc, if_pos rfl]
  have e := le_length v n
  simp only [Int.toNat_natCast]
  rw [List.take_append_of_le_length (by omega), List.take_of_length_le (by omega), List.drop_append_of_le_length (by omega), List.drop_of_length_le (by omega)]
  rfl
theorem took_all (B r : List UInt8) : took (B ++ r) false (B.length : Nat) = (B, r, false) := by
  have hc : canTake (B ++ r) (B.length : Nat) = true := by simp [canTake]; omega
  unfold took
  rw [hc, if_pos rfl]
  simp only [Int.toNat_natCast]
  rw [List.take_append_of_le_length (Nat.le_refl _), List.take_of_length_le (Nat.le_refl _), List.drop_append_of_le_length (Nat.le_refl _), List.drop_of_length_le (Nat.le_refl _)]
  rfl
theorem i64_back {L : Int} (h : I64 L) : wrap64 ((numLe (le (IntKind.u64.wrap L) 8) : Nat) : Int) = L := by
  obtain ⟨h0, h1⟩ := u64_lo L
  obtain ⟨m, hm⟩ := Int.eq_ofNat_of_zero_le h0
  have e : IntKind.u64.wrap L = L % 18446744073709551616 := by simp [IntKind.wrap, IntKind.signed, IntKind.bits]
  rw [hm, numLe_le, Nat.mod_eq_of_lt (by omega)]
  unfold wrap64
  unfold I64 at h
  omega
theorem flag_back (F : Bool) (r : List UInt8) : flagged ([if F then 1 else 0] ++ r) false = (F, r, false) := by
  have ht : took ([if F then 1 else 0] ++ r) false 1 = ([if F then 1 else 0], r, false) := took_all [if F then 1 else 0] r
  unfold flagged
  rw [ht]
  cases F <;> rfl
theorem bytes_back (B r : List UInt8) (h : B.length < 65536) : bytesOf (le B.length 2 ++ B ++ r) false = (B, r, false) := by
  unfold bytesOf
  have e : took (le (B.length : Int) 2 ++ B ++ r) false 2 = (le B.length 2, B ++ r, false) := by
    rw [List.append_assoc]
    exact took_le _ 2 _
  rw [e]
  simp only
  have e2 : numLe (le ((B.length : Nat) : Int) 2) = B.length := by rw [numLe_le]; omega
  rw [e2]
  exact took_all B r

/-- All items' bytes. -/
def docs : List Item → List UInt8
  | [] => []
  | x :: l => docB x ++ docs l
theorem docs_append (l m : List Item) : docs (l ++ m) = docs l ++ docs m := by
  induction l with
  | nil => rfl
  | cons x l ih => simp only [List.cons_append, docs, ih, List.append_assoc]
theorem docs_take (xs : List Item) (k : Nat) (h : k < xs.length) : docs (xs.take (k + 1)) = docs (xs.take k) ++ docB xs[k] := by
  rw [List.take_succ_eq_append_getElem h, docs_append]; simp [docs]
theorem docs_drop (xs : List Item) (k : Nat) (h : k < xs.length) : docs (xs.drop k) = docB xs[k] ++ docs (xs.drop (k + 1)) := by
  rw [List.drop_eq_getElem_cons h, docs]
theorem docs_len (xs : List Item) (k : Nat) : (docs (xs.take k)).length ≤ sumB (xs.take k) + 8 * k := by
  induction k with
  | zero => simp [docs]
  | succ k ih =>
    by_cases h : k < xs.length
    · rw [docs_take xs k h, sumB_take xs k h, List.length_append]
      have := docB_len xs[k]
      omega
    · rw [List.take_of_length_le (by omega)] at ih ⊢
      omega

/-- What a round of putting keeps. -/
def Put (xs : List Item) (k : Nat) (ys : List UInt8) (bad : Bool) : Prop :=
  bad = false → ys = docs (xs.take k) ∧ ∀ i (h : i < xs.length), i < k → okB xs[i] = true
theorem Put.next {xs : List Item} {k : Nat} {ys : List UInt8} {bad : Bool} (h : Put xs k ys bad) (hk : k < xs.length) (hV : I64 xs[k].V) : Put xs (k + 1) (putItem ys bad xs[k]).1 (putItem ys bad xs[k]).2 := by
  rw [putItem_is ys bad _ hV]
  intro hb
  cases hbad : bad
  · cases hok : okB xs[k]
    · rw [hbad, hok] at hb; simp at hb
    · obtain ⟨h1, h2⟩ := h hbad
      simp only [Bool.not_true, Bool.or_false, Bool.false_eq_true, if_false]
      refine ⟨by rw [h1, docs_take xs k hk], fun i hi hlt => ?_⟩
      by_cases e : i = k
      · subst e; exact hok
      · exact h2 i hi (by omega)
  · rw [hbad] at hb; simp at hb
end Go.Proofs.Ytljoalihioflmaa
