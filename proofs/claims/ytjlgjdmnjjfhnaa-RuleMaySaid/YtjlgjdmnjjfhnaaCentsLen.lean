/-
  The long quotient: math/bits.Len64 and LeadingZeros64, for the long quotient. Conditions: those of each theorem.
-/
import Derived.Test.YtjlgjdmnjjfhnaaMoney
import Derived.Lib.Strings
import Derived.Lib.Slices
import Derived.Lib.Small
import Derived.Lib.Walk
import Derived.Lib.BitFns
import Derived.Lib.ItoaNum
import Derived.Lib.Hide
import Derived.Deep.DeepCutAuto
import Derived.Deep.CutBlock
namespace Go.Proofs.Ytjlgjdmnjjfhnaa
open Go.RowKit
set_option maxRecDepth 100000

theorem len8tab_many : Lib.len8tab.size = 256 := by decide +kernel
theorem len_part (x q : Int) (k D : Nat) (h : q.toNat < Lib.len8tab.size) (hD : 2 ^ k = D) (hk : k ≤ 56) (hq0 : 0 ≤ q) (hq : q.toNat = x.toNat / D) (h0 : D ≤ x.toNat) (hx : x.toNat < 18446744073709551616) : wrap64 ((k : Int) + wrap64 (((Lib.len8tab[q.toNat]'h).toNat : Nat) : Int)) = (Lib.bitLen x.toNat : Int) := by
  have h2 := h
  rw [len8tab_many] at h2
  have e1 : (((Lib.len8tab[q.toNat]'h).toNat : Nat) : Int) = Lib.len8 q := by
    unfold Lib.len8
    rw [getElem?_pos Lib.len8tab q.toNat h]
    rfl
  have e2 := Lib.len8_of q hq0 (by omega)
  have l := Lib.bitLen_le8' q hq0 (by omega)
  have sft := Lib.bitLen_shift k x.toNat (by rw [hD]; exact h0) hx
  rw [hD, ← hq] at sft
  rw [e1, e2, sft]
  generalize Lib.bitLen q.toNat = b at *
  clear sft e1 e2 hq h2 h hD h0 hx
  unfold wrap64
  omega
theorem len_whole (x q : Int) (h : q.toNat < Lib.len8tab.size) (hq0 : 0 ≤ q) (hq : q.toNat = x.toNat) : wrap64 (wrap64 (((Lib.len8tab[q.toNat]'h).toNat : Nat) : Int)) = (Lib.bitLen x.toNat : Int) := by
  have h2 := h
  rw [len8tab_many] at h2
  have e1 : (((Lib.len8tab[q.toNat]'h).toNat : Nat) : Int) = Lib.len8 q := by
    unfold Lib.len8
    rw [getElem?_pos Lib.len8tab q.toNat h]
    rfl
  have e2 := Lib.len8_of q hq0 (by omega)
  have l := Lib.bitLen_le8' q hq0 (by omega)
  rw [e1, e2, ← hq]
  generalize Lib.bitLen q.toNat = b at *
  clear e1 e2 hq h2 h
  unfold wrap64
  omega

set_option maxHeartbeats 4000000 in
theorem bits_len64 (x : Int) (w : World) (h0 : 0 ≤ x) (h1 : x ≤ 18446744073709551615) :
    Calls Try.prog 41 #[.int .u64 x] w fun e w' => e = .returned (.int .i64 (Lib.bitLen x.toNat)) ∧ w = w' := by
  go_enter Try.func41, Try.ntmps41
  go_wp2
  all_goals first
    | (go_ret; refine ⟨congrArg Ending.returned (congrArg (Value.int IntKind.i64) ?_), rfl⟩)
    | (exfalso; have hs := len8tab_many; omega)
  all_goals first
    | exact len_part x (x / 4294967296 / 65536 / 256) 56 72057594037927936 _ (by decide) (by decide) (by omega) (by omega) (by omega) (by omega)
    | exact len_part x (x / 4294967296 / 65536) 48 281474976710656 _ (by decide) (by decide) (by omega) (by omega) (by omega) (by omega)
    | exact len_part x (x / 4294967296 / 256) 40 1099511627776 _ (by decide) (by decide) (by omega) (by omega) (by omega) (by omega)
    | exact len_part x (x / 4294967296) 32 4294967296 _ (by decide) (by decide) (by omega) (by omega) (by omega) (by omega)
    | exact len_part x (x / 65536 / 256) 24 16777216 _ (by decide) (by decide) (by omega) (by omega) (by omega) (by omega)
    | exact len_part x (x / 65536) 16 65536 _ (by decide) (by decide) (by omega) (by omega) (by omega) (by omega)
    | exact len_part x (x / 256) 8 256 _ (by decide) (by decide) (by omega) (by omega) (by omega) (by omega)
    | exact len_whole x x _ (by omega) rfl

/-- How many noughts lead: so many that a number that isn't nought, moved up by them, has its uppermost bit. -/
theorem bits_leading64 (y : Nat) (h0 : 0 < y) (h1 : y < 18446744073709551616) (w : World) :
    Calls Try.prog 38 #[.int .u64 y] w fun e w' => (∃ s : Nat, e = .returned (.int .i64 s) ∧ s ≤ 63 ∧ 9223372036854775808 ≤ y * 2 ^ s ∧ y * 2 ^ s < 18446744073709551616) ∧ w = w' := by
  obtain ⟨a, b, c⟩ := Lib.bitLenAux_bounds 64 y h1 (by omega)
  have hL : Lib.bitLen y ≤ 64 := Lib.bitLen_le y 64 (Nat.le_refl _) h1
  have hd : Lib.bitLenAux 64 y = Lib.bitLen y := rfl
  rw [hd] at a b c
  have hy := bits_len64 (y : Int) w (by omega) (by omega)
  rw [Int.toNat_natCast] at hy
  generalize Lib.bitLen y = L at *
  clear hd
  have p1 : 9223372036854775808 ≤ y * 2 ^ (64 - L) := by
    have := Nat.mul_le_mul_right (2 ^ (64 - L)) b
    rw [← Nat.pow_add, show L - 1 + (64 - L) = 63 from by omega] at this
    exact this
  have p2 : y * 2 ^ (64 - L) < 18446744073709551616 := by
    have := Nat.mul_lt_mul_of_pos_right c (Nat.pow_pos (n := 64 - L) (show 0 < 2 from by decide))
    rw [← Nat.pow_add, show L + (64 - L) = 64 from by omega] at this
    exact this
  have hlz : (64 : Int) - (L : Int) = ((64 - L : Nat) : Int) := by omega
  have hs : 64 - L ≤ 63 := by omega
  have P1 := Lib.hid p1
  have P2 := Lib.hid p2
  have HS := Lib.hid hs
  clear p1 p2 b c hs
  go_enter Try.func38, Try.ntmps38
  go_wp2_with fail
  refine hy.mono ?_
  rintro e w1 ⟨rfl, rfl⟩
  go_wp2
  go_ret
  exact ⟨⟨64 - L, rfl, HS.out, P1.out, P2.out⟩, rfl⟩

end Go.Proofs.Ytjlgjdmnjjfhnaa
