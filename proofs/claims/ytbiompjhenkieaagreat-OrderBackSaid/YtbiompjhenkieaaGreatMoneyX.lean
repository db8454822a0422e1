/-
  Package cents, its core: Right, checked, Add. Conditions: those of each theorem. Package cents: the long product, the long quotient where its upper half is nought. Conditions: those of each theorem. Lists of sums, and what they come to. Conditions: those of each theorem. The long quotient: math/bits.Len64 and LeadingZeros64, for the long quotient. Conditions: those of each theorem. The long quotient of 128 bits by 64, by halves: over naturals alone. Program-independent. No conditions but those of each theorem. The long quotient: math/bits.Div64. Conditions: those of each theorem. A part of a sum: what the code's Part and the document's Part answer: the same. Conditions: those of each theorem.
-/
import Derived.Test.YtbiompjhenkieaaGreatBase
import Derived.Deep.QuietTactic
import Derived.BigQuiet
import Derived.Lib.Mul64
import Derived.Laws.Bits64b
import Derived.Lib.Hide
import Derived.Lib.Strings
import Derived.Lib.Slices
import Derived.Lib.Small
import Derived.Lib.Walk
import Derived.Lib.BitFns
import Derived.Lib.ItoaNum
import Derived.Deep.DeepCutAuto
import Derived.Deep.CutBlock
import Derived.Test.YtbiompjhenkieaaGreatRows
namespace Go.Proofs.YtbiompjhenkieaaGreat
open Go.RowKit
set_option maxRecDepth 100000

/-- Is a sum right? -/
def Rt (a : Int) : Bool := decide (-1125899906842624 ≤ a ∧ a ≤ 1125899906842624)

theorem rt_iff {a : Int} : Rt a = true ↔ -1125899906842624 ≤ a ∧ a ≤ 1125899906842624 := by simp [Rt]

theorem rt_not {a : Int} : Rt a = false ↔ a < -1125899906842624 ∨ 1125899906842624 < a := by
  simp only [Rt, decide_eq_false_iff_not]
  omega

/-- What a sum is told as: value and error; 'ok': was all that it was made of right? -/
def tv (ok : Bool) (a : Int) : Int := if ok && Rt a then a else 0

def te (ok : Bool) (a : Int) : Int := if ok && Rt a then 0 else 9

def toldOf (ok : Bool) (a : Int) : Value := .tuple #[.int .i64 (tv ok a), .int .i64 (te ok a)]

theorem told_yes {ok : Bool} {a : Int} (h : (ok && Rt a) = true) : toldOf ok a = .tuple #[.int .i64 a, .int .i64 0] := by simp only [toldOf, tv, te, h, if_true]

theorem told_no {ok : Bool} {a : Int} (h : (ok && Rt a) = false) : toldOf ok a = .tuple #[.int .i64 0, .int .i64 9] := by simp [toldOf, tv, te, h]

theorem cents_right (a : Int) (w : World) : Calls Tryz.prog 97 #[.int .i64 a] w fun e w' => e = .returned (.bool (Rt a)) ∧ w = w' := by
  by_cases h1 : (-1125899906842624 : Int) ≤ a
  · by_cases h2 : a ≤ (1125899906842624 : Int)
    · have hr : Rt a = true := rt_iff.2 ⟨h1, h2⟩
      rw [hr]
      clear hr
      go_enter Tryz.func97, Tryz.ntmps97
      go_wp2
      go_ret
      exact ⟨rfl, rfl⟩
    · have hr : Rt a = false := rt_not.2 (by omega)
      rw [hr]
      clear hr
      go_enter Tryz.func97, Tryz.ntmps97
      go_wp2
      go_ret
      exact ⟨rfl, rfl⟩
  · have hr : Rt a = false := rt_not.2 (by omega)
    rw [hr]
    clear hr
    go_enter Tryz.func97, Tryz.ntmps97
    go_wp2
    go_ret
    exact ⟨rfl, rfl⟩

theorem cents_checked (a : Int) (w : World) : Calls Tryz.prog 108 #[.int .i64 a] w fun e w' => e = .returned (toldOf true a) ∧ w = w' := by
  by_cases h : Rt a = true
  · rw [told_yes (by simp [h])]
    go_enter Tryz.func108, Tryz.ntmps108
    go_wp2_with fail
    refine (cents_right a w).mono ?_
    rintro e w1 ⟨rfl, rfl⟩
    rw [h]
    go_wp2
    go_ret2
    exact ⟨rfl, rfl⟩
  · have h : Rt a = false := by simpa using h
    rw [told_no (by simp [h])]
    go_enter Tryz.func108, Tryz.ntmps108
    go_wp2_with fail
    refine (cents_right a w).mono ?_
    rintro e w1 ⟨rfl, rfl⟩
    rw [h]
    go_wp2
    go_ret2
    exact ⟨rfl, rfl⟩

theorem cents_add (a b : Int) (w : World) : Calls Tryz.prog 100 #[.int .i64 a, .int .i64 b] w fun e w' => e = .returned (toldOf (Rt a && Rt b) (a + b)) ∧ w = w' := by
  by_cases ha : Rt a = true
  · by_cases hb : Rt b = true
    · rw [ha, hb, Bool.and_self]
      have a1 := (rt_iff.1 ha).1
      have a2 := (rt_iff.1 ha).2
      have b1 := (rt_iff.1 hb).1
      have b2 := (rt_iff.1 hb).2
      go_enter Tryz.func100, Tryz.ntmps100
      go_wp2_with fail
      refine (cents_right a w).mono ?_
      rintro e w1 ⟨rfl, rfl⟩
      rw [ha]
      go_wp2_with fail
      refine (cents_right b w).mono ?_
      rintro e w1 ⟨rfl, rfl⟩
      rw [hb]
      go_wp2_with fail
      refine (cents_checked (a + b) w).mono ?_
      rintro e w1 ⟨rfl, rfl⟩
      unfold toldOf
      go_wp2
      go_ret2
      exact ⟨rfl, rfl⟩
    · have hb : Rt b = false := by simpa using hb
      rw [told_no (by simp [hb])]
      go_enter Tryz.func100, Tryz.ntmps100
      go_wp2_with fail
      refine (cents_right a w).mono ?_
      rintro e w1 ⟨rfl, rfl⟩
      rw [ha]
      go_wp2_with fail
      refine (cents_right b w).mono ?_
      rintro e w1 ⟨rfl, rfl⟩
      rw [hb]
      go_wp2
      go_ret2
      exact ⟨rfl, rfl⟩
  · have ha : Rt a = false := by simpa using ha
    rw [told_no (by simp [ha])]
    go_enter Tryz.func100, Tryz.ntmps100
    go_wp2_with fail
    refine (cents_right a w).mono ?_
    rintro e w1 ⟨rfl, rfl⟩
    rw [ha]
    go_wp2
    go_ret2
    exact ⟨rfl, rfl⟩

theorem below_drawn {w w1 : World} (h : Below w.heap.size w w1) (n : Nat) : Below w.heap.size w (w1.drewN n) := ⟨h.os, h.tape, h.output, h.size, h.block⟩

end Go.Proofs.YtbiompjhenkieaaGreat

namespace Go.Proofs.YtbiompjhenkieaaGreat
open Go.RowKit
set_option maxRecDepth 100000

theorem wrap_u64' (a : Int) : IntKind.u64.wrap a = a % 18446744073709551616 := by simp [IntKind.wrap, IntKind.bits, IntKind.signed]

theorem bits_low32 (a : Nat) (ha : a < 18446744073709551616) : bits .and .u64 (a : Int) 4294967295 = ((a % 4294967296 : Nat) : Int) := by
  have h := bits_and_u64_nat a 4294967295 ha (by omega)
  rw [show a &&& 4294967295 = a % 4294967296 from Nat.and_two_pow_sub_one_eq_mod a 32] at h
  exact h

theorem nat_quo32 (a : Nat) : (a : Int) / 4294967296 = ((a / 4294967296 : Nat) : Int) := by omega

theorem nat_mul (a b : Nat) : (a : Int) * (b : Int) = ((a * b : Nat) : Int) := (Int.natCast_mul a b).symm

theorem nat_add (a b : Nat) : (a : Int) + (b : Int) = ((a + b : Nat) : Int) := (Int.natCast_add a b).symm

theorem wrap_fits (a : Nat) (ha : a < 18446744073709551616) : IntKind.u64.wrap (a : Int) = (a : Int) := by rw [IntKind.wrap_u64]; omega

theorem wrap_left (a : Nat) : IntKind.u64.wrap (a : Int) = ((a % 18446744073709551616 : Nat) : Int) := by rw [IntKind.wrap_u64]; omega

set_option maxHeartbeats 1000000 in
/-- The long product, by halves. -/
theorem bits_mul64 (x y : Nat) (hx : x < 18446744073709551616) (hy : y < 18446744073709551616) (w : World) :
    Calls Tryz.prog 77 #[.int .u64 x, .int .u64 y] w fun e w' => e = .returned (.tuple #[.int .u64 ((x * y / 18446744073709551616 : Nat) : Int), .int .u64 ((x * y % 18446744073709551616 : Nat) : Int)]) ∧ w = w' := by
  obtain ⟨f1, f2, f3, hhi⟩ := Lib.mul64_hi x y hx hy
  have p1 := Lib.half_mul_le (a := x / 4294967296) (b := y / 4294967296) (by omega) (by omega)
  have p2 := Lib.half_mul_le (a := x / 4294967296) (b := y % 4294967296) (by omega) (by omega)
  have p3 := Lib.half_mul_le (a := x % 4294967296) (b := y / 4294967296) (by omega) (by omega)
  have q1 : x / 4294967296 * (y / 4294967296) < 18446744073709551616 := by omega
  have q2 : x / 4294967296 * (y % 4294967296) < 18446744073709551616 := by omega
  have q3 : x % 4294967296 * (y / 4294967296) < 18446744073709551616 := by omega
  have q4 : x / 4294967296 * (y / 4294967296) + (x / 4294967296 * (y % 4294967296) + x % 4294967296 * (y % 4294967296) / 4294967296) / 4294967296 < 18446744073709551616 := by omega
  have q5 : x / 4294967296 * (y / 4294967296) + (x / 4294967296 * (y % 4294967296) + x % 4294967296 * (y % 4294967296) / 4294967296) / 4294967296 + ((x / 4294967296 * (y % 4294967296) + x % 4294967296 * (y % 4294967296) / 4294967296) % 4294967296 + x % 4294967296 * (y / 4294967296)) / 4294967296 < 18446744073709551616 := by omega
  go_enter Tryz.func77, Tryz.ntmps77
  go_wp2
  simp only [bits_low32 x hx, bits_low32 y hy, nat_quo32, nat_mul, nat_add, wrap_fits _ f1, wrap_fits _ q2, wrap_fits _ f2, bits_low32 _ f2, wrap_fits _ q3, wrap_fits _ f3, wrap_fits _ q1, wrap_fits _ q4, wrap_fits _ q5, wrap_left (x * y)]
  rw [hhi]
  go_ret2
  exact ⟨rfl, rfl⟩

theorem wrap_quo {x y : Nat} (hx : x < 18446744073709551616) : IntKind.u64.wrap ((x : Int) / (y : Int)) = ((x / y : Nat) : Int) := by
  rw [← Int.natCast_ediv, wrap_fits]
  exact Nat.lt_of_le_of_lt (Nat.div_le_self _ _) hx

theorem pair_ret {k1 k2 : IntKind} {a b c d : Int} (h1 : a = c) (h2 : b = d) : Ending.returned (.tuple #[.int k1 a, .int k2 b]) = Ending.returned (.tuple #[.int k1 c, .int k2 d]) := by rw [h1, h2]

/-- The long quotient, where the upper half is nought. -/
theorem bits_div64_low (x y : Nat) (hx : x < 18446744073709551616) (h0 : 0 < y) (w : World) :
    Calls Tryz.prog 109 #[.int .u64 0, .int .u64 x, .int .u64 y] w fun e w' => (e = .returned (.tuple #[.int .u64 ((x / y : Nat) : Int), .int .u64 ((x % y : Nat) : Int)])) ∧ Below w.heap.size w w' := by
  have h1 : (0 : Int) < (y : Int) := by omega
  have h2 : ¬ (y : Int) = 0 := by omega
  have h3 : ¬ (y : Int) ≤ 0 := by omega
  go_enter Tryz.func109, Tryz.ntmps109
  go_wp2
  go_quiet (fail)
  go_wp2
  go_ret2
  exact ⟨pair_ret (wrap_quo hx) (Int.natCast_emod x y).symm, below_drawn (Below.refl _ _) _⟩

end Go.Proofs.YtbiompjhenkieaaGreat

namespace Go.Proofs.YtbiompjhenkieaaGreat
open Go.RowKit Go.WideShapes
set_option maxRecDepth 100000

/-- The sums of a slice, where it has any. -/
def IsInts (w : World) (a : Option Addr) (xs : List Int) : Prop :=
  xs = [] ∨ ∃ b off, a = some ⟨b, off, none⟩ ∧ b < w.heap.size ∧ ∀ i (h : i < xs.length), w.cell? ⟨b, off + i, none⟩ = some (.int .i64 xs[i])

theorem IsInts.below {w w' : World} {a : Option Addr} {xs : List Int} (h : IsInts w a xs) (hb : Below w.heap.size w w') : IsInts w' a xs := by
  rcases h with rfl | ⟨b, off, rfl, hlt, hc⟩
  · exact .inl rfl
  · exact .inr ⟨b, off, rfl, Nat.lt_of_lt_of_le hlt hb.size, fun i h => by rw [hb.cell hlt]; exact hc i h⟩

theorem Rd.ints {P : Program} {w : World} {t e : TypeId} {cs : List Value} (h : Rd P w t cs) (ht : P.underlying t = some (.slice e)) (he : P.underlying e = some (.int .i64)) (hs : P.cellsOf e = 1) :
    ∃ (a : Option Addr) (cap : Nat) (xs : List Int), cs = [.slice a xs.length cap] ∧ xs.length ≤ cap ∧ cap ≤ maxLen ∧ IsInts w a xs := by
  obtain ⟨a, len, cap, hcs, hl, hm, hc, _⟩ := h.slice_at ht hs (Nat.one_pos)
  rcases hc with h0 | ⟨b, off, rfl, hb, hi⟩
  · obtain rfl : len = 0 := by omega
    exact ⟨a, cap, [], hcs, hl, hm, .inl rfl⟩
  · have key : ∀ i, i < cap → ∃ x : Int, w.cell? ⟨b, off + i, none⟩ = some (.int .i64 x) := by
      intro i hlt
      obtain ⟨cs', _, h1, h2⟩ := hi i hlt
      obtain ⟨n, rfl, hn⟩ := h2.int he
      have := h1 0 Nat.one_pos
      simp only [Nat.mul_one, Nat.add_zero, List.getElem?_cons_zero] at this
      exact ⟨n, this⟩
    have hch : ∃ f : Nat → Int, ∀ i, i < cap → w.cell? ⟨b, off + i, none⟩ = some (.int .i64 (f i)) :=
      ⟨fun i => if h : i < cap then Classical.choose (key i h) else 0, fun i h => by simp only [dif_pos h]; exact Classical.choose_spec (key i h)⟩
    obtain ⟨f, hf⟩ := hch
    refine ⟨some ⟨b, off, none⟩, cap, (List.range len).map f, by simpa using hcs, by simpa using hl, hm, .inr ⟨b, off, rfl, hb, fun i h => ?_⟩⟩
    simp only [List.length_map, List.length_range] at h
    simp only [List.getElem_map, List.getElem_range]
    exact hf i (by omega)

/-- What a list comes to, behind what came so far; none: it is refused on the way. -/
def sumOf : Int → List Int → Option Int
  | s, [] => some s
  | s, a :: l => if Rt a && Rt (s + a) then sumOf (s + a) l else none

def sumV : Option Int → Int
  | some v => v
  | none => 0

def sumE : Option Int → Int
  | some _ => 0
  | none => 9

set_option maxHeartbeats 800000 in
theorem cents_sum (a : Option Addr) (xs : List Int) (n c : Nat) (w : World) (hn : xs.length = n) (hx : IsInts w a xs) (hl : n ≤ maxLen) :
    Calls Tryz.prog 75 #[.slice a n c] w fun e w' => e = .returned (.tuple #[.int .i64 (sumV (sumOf 0 xs)), .int .i64 (sumE (sumOf 0 xs))]) ∧ w = w' := by
  unfold maxLen at hl
  have HN := Lib.hid hn
  clear hn
  go_enter Tryz.func75, Tryz.ntmps75
  go_wp2
  go_loop [4, 6, 7, 8, 11] (fun s _ _ _ i => ∃ (k : Nat) (v : Int), k ≤ n ∧ i = .int .i64 k ∧ s = .int .i64 v ∧ Rt v = true ∧ sumOf 0 xs = sumOf v (xs.drop k)) (fun _ _ _ _ i => n - (intOf i).toNat)
  case atStart => exact ⟨0, 0, Nat.zero_le _, rfl, rfl, by decide, rfl⟩
  case round =>
    obtain ⟨k, v, hk, rfl, rfl, hv, hs⟩ := hrel
    have HS := Lib.hid hs
    clear hs
    by_cases hlt : k < n
    · rcases hx with rfl | ⟨b, off, rfl, hb, hcs⟩
      · have := HN.out; simp at this; omega
      have hlk : k < xs.length := by rw [HN.out]; exact hlt
      have hck := hcs k hlk
      clear hcs
      have hk0 : (0 : Int) ≤ (k : Int) := by omega
      have hkn : (k : Int) < (n : Int) := by omega
      have hd : Hid (xs.drop k = xs[k] :: xs.drop (k + 1)) := List.drop_eq_getElem_cons hlk
      generalize xs[k] = x at *
      have hA := cents_add v x w
      rw [hv, Bool.true_and] at hA
      go_wp2_with fail
      by_cases hc : (Rt x && Rt (v + x)) = true
      · have hcx : Rt x = true := by simp only [Bool.and_eq_true] at hc; exact hc.1
        have hcv : Rt (v + x) = true := by simp only [Bool.and_eq_true] at hc; exact hc.2
        rw [told_yes hc] at hA
        refine hA.mono ?_
        rintro e w1 ⟨rfl, rfl⟩
        have HC := Lib.hid hc
        clear hc
        go_wp2
        go_round
        case rel =>
          refine ⟨k + 1, v + x, by omega, by go_num, rfl, hcv, ?_⟩
          rw [HS.out, hd.out, sumOf, if_pos HC.out]
        case measure => simp [intOf]; omega
      · have hc : (Rt x && Rt (v + x)) = false := by simpa using hc
        rw [told_no hc] at hA
        refine hA.mono ?_
        rintro e w1 ⟨rfl, rfl⟩
        have hno : Hid (sumOf 0 xs = none) := by
          show sumOf 0 xs = none
          rw [HS.out, hd.out, sumOf, hc]
          rfl
        clear hc
        go_wp2
        go_ret2
        exact ⟨by rw [hno.out]; rfl, rfl⟩
    · obtain rfl : k = n := by omega
      have hno : Hid (sumOf 0 xs = some v) := by
        show sumOf 0 xs = some v
        rw [HS.out, List.drop_of_length_le (by have := HN.out; omega)]
        rfl
      go_wp2
      go_ret2
      exact ⟨by rw [hno.out]; rfl, rfl⟩

end Go.Proofs.YtbiompjhenkieaaGreat

namespace Go.Proofs.YtbiompjhenkieaaGreat
open Go.RowKit
set_option maxRecDepth 100000

theorem len8tab_many : Lib.len8tab.size = 256 := by decide +kernel
theorem len_part (x q : Int) (k D : Nat) (h : q.toNat < Lib.len8tab.size) (hD : 2 ^ k = D) (hk : k ≤ 56) (hq0 : 0 ≤ q) (hq : q.toNat = x.toNat / D) (h0 : D ≤ x.toNat) (hx : x.toNat < 18446744073709551616) : wrap64 ((k : Int) + wrap64 (((Lib.len8tab[q.toNat]'h).toNat : Nat) : Int)) = (Lib.bitLen x.toNat : Int) := by
  have h2 := h
  rw [len8tab_many] at h2
  have e1 : (((Lib.len8tab[q.toNat]'h).toNat : Nat) : Int) = Lib.len8 q := by
    unfold Lib.len8
    rw [getElem?_pos Lib.len8tab q.toNat h]
    rfl
  have e2 := Lib.len8_of q hq0 (by omega)
  have l := Lib.bitLen_le8' q hq0 (by omega)
  have sft := Lib.bitLen_shift k x.toNat (by rw [hD]; exact h0) hx
  rw [hD, ← hq] at sft
  rw [e1, e2, sft]
  generalize Lib.bitLen q.toNat = b at *
  clear sft e1 e2 hq h2 h hD h0 hx
  unfold wrap64
  omega
theorem len_whole (x q : Int) (h : q.toNat < Lib.len8tab.size) (hq0 : 0 ≤ q) (hq : q.toNat = x.toNat) : wrap64 (wrap64 (((Lib.len8tab[q.toNat]'h).toNat : Nat) : Int)) = (Lib.bitLen x.toNat : Int) := by
  have h2 := h
  rw [len8tab_many] at h2
  have e1 : (((Lib.len8tab[q.toNat]'h).toNat : Nat) : Int) = Lib.len8 q := by
    unfold Lib.len8
    rw [getElem?_pos Lib.len8tab q.toNat h]
    rfl
  have e2 := Lib.len8_of q hq0 (by omega)
  have l := Lib.bitLen_le8' q hq0 (by omega)
  rw [e1, e2, ← hq]
  generalize Lib.bitLen q.toNat = b at *
  clear e1 e2 hq h2 h
  unfold wrap64
  omega

set_option maxHeartbeats 4000000 in
theorem bits_len64 (x : Int) (w : World) (h0 : 0 ≤ x) (h1 : x ≤ 18446744073709551615) :
    Calls Tryz.prog 116 #[.int .u64 x] w fun e w' => e = .returned (.int .i64 (Lib.bitLen x.toNat)) ∧ w = w' := by
  go_enter Tryz.func116, Tryz.ntmps116
  go_wp2
  all_goals first
    | (go_ret; refine ⟨congrArg Ending.returned (congrArg (Value.int IntKind.i64) ?_), rfl⟩)
    | (exfalso; have hs := len8tab_many; omega)
  all_goals first
    | exact len_part x (x / 4294967296 / 65536 / 256) 56 72057594037927936 _ (by decide) (by decide) (by omega) (by omega) (by omega) (by omega)
    | exact len_part x (x / 4294967296 / 65536) 48 281474976710656 _ (by decide) (by decide) (by omega) (by omega) (by omega) (by omega)
    | exact len_part x (x / 4294967296 / 256) 40 1099511627776 _ (by decide) (by decide) (by omega) (by omega) (by omega) (by omega)
    | exact len_part x (x / 4294967296) 32 4294967296 _ (by decide) (by decide) (by omega) (by omega) (by omega) (by omega)
    | exact len_part x (x / 65536 / 256) 24 16777216 _ (by decide) (by decide) (by omega) (by omega) (by omega) (by omega)
    | exact len_part x (x / 65536) 16 65536 _ (by decide) (by decide) (by omega) (by omega) (by omega) (by omega)
    | exact len_part x (x / 256) 8 256 _ (by decide) (by decide) (by omega) (by omega) (by omega) (by omega)
    | exact len_whole x x _ (by omega) rfl

/-- How many noughts lead: so many that a number that isn't nought, moved up by them, has its uppermost bit. -/
theorem bits_leading64 (y : Nat) (h0 : 0 < y) (h1 : y < 18446744073709551616) (w : World) :
    Calls Tryz.prog 113 #[.int .u64 y] w fun e w' => (∃ s : Nat, e = .returned (.int .i64 s) ∧ s ≤ 63 ∧ 9223372036854775808 ≤ y * 2 ^ s ∧ y * 2 ^ s < 18446744073709551616) ∧ w = w' := by
  obtain ⟨a, b, c⟩ := Lib.bitLenAux_bounds 64 y h1 (by omega)
  have hL : Lib.bitLen y ≤ 64 := Lib.bitLen_le y 64 (Nat.le_refl _) h1
  have hd : Lib.bitLenAux 64 y = Lib.bitLen y := rfl
  rw [hd] at a b c
  have hy := bits_len64 (y : Int) w (by omega) (by omega)
  rw [Int.toNat_natCast] at hy
  generalize Lib.bitLen y = L at *
  clear hd
  have p1 : 9223372036854775808 ≤ y * 2 ^ (64 - L) := by
    have := Nat.mul_le_mul_right (2 ^ (64 - L)) b
    rw [← Nat.pow_add, show L - 1 + (64 - L) = 63 from by omega] at this
    exact this
  have p2 : y * 2 ^ (64 - L) < 18446744073709551616 := by
    have := Nat.mul_lt_mul_of_pos_right c (Nat.pow_pos (n := 64 - L) (show 0 < 2 from by decide))
    rw [← Nat.pow_add, show L + (64 - L) = 64 from by omega] at this
    exact this
  have hlz : (64 : Int) - (L : Int) = ((64 - L : Nat) : Int) := by omega
  have hs : 64 - L ≤ 63 := by omega
  have P1 := Lib.hid p1
  have P2 := Lib.hid p2
  have HS := Lib.hid hs
  clear p1 p2 b c hs
  go_enter Tryz.func113, Tryz.ntmps113
  go_wp2_with fail
  refine hy.mono ?_
  rintro e w1 ⟨rfl, rfl⟩
  go_wp2
  go_ret
  exact ⟨⟨64 - L, rfl, HS.out, P1.out, P2.out⟩, rfl⟩

end Go.Proofs.YtbiompjhenkieaaGreat

namespace Go.Proofs.YtbiompjhenkieaaGreat
theorem long_test {Y1 Y0 U u q r : Nat} (hY : 0 < Y1) (h : q * Y1 + r = U) :
    (U * 4294967296 + u) / (Y1 * 4294967296 + Y0) < q ↔ 4294967296 * r + u < q * Y0 := by
  rw [Nat.div_lt_iff_lt_mul (by omega), Nat.mul_add, ← Nat.mul_assoc]
  generalize q * Y1 = p at *
  generalize q * Y0 = s at *
  omega
theorem long_most {Y1 Y0 U : Nat} (h1 : 2147483648 ≤ Y1) (h0 : Y0 < 4294967296) (hU : U < Y1 * 4294967296 + Y0) : U / Y1 ≤ 4294967297 := by
  have h : U < 4294967298 * Y1 := by omega
  have := Nat.div_lt_of_lt_mul (by rw [Nat.mul_comm]; exact h : U < Y1 * 4294967298)
  omega
theorem long_least {Y1 Y0 U u : Nat} (h1 : 0 < Y1) (hu : u < 4294967296) : (U * 4294967296 + u) / (Y1 * 4294967296 + Y0) ≤ U / Y1 := by
  apply Nat.le_of_lt_succ
  rw [Nat.div_lt_iff_lt_mul (by omega)]
  have h := Nat.div_add_mod U Y1
  have hm := Nat.mod_lt U h1
  generalize U / Y1 = q at *
  generalize U % Y1 = r at *
  have e : (q + 1) * (Y1 * 4294967296 + Y0) = (Y1 * q) * 4294967296 + Y1 * 4294967296 + (q + 1) * Y0 := by
    rw [Nat.mul_add, Nat.add_mul q 1, Nat.mul_comm q, Nat.one_mul]
    rw [Nat.mul_right_comm]
  rw [e]
  generalize Y1 * q = p at *
  generalize (q + 1) * Y0 = s at *
  omega
theorem long_two {Y U u1 u0 : Nat} (hY : 0 < Y) : (U * 4294967296 + u1) / Y * 4294967296 + ((U * 4294967296 + u1) % Y * 4294967296 + u0) / Y = (U * 18446744073709551616 + (u1 * 4294967296 + u0)) / Y := by
  have h := Nat.div_add_mod (U * 4294967296 + u1) Y
  obtain ⟨q, hq⟩ : ∃ q, q = (U * 4294967296 + u1) / Y := ⟨_, rfl⟩
  obtain ⟨R, hR⟩ : ∃ R, R = (U * 4294967296 + u1) % Y := ⟨_, rfl⟩
  rw [← hq, ← hR] at h
  rw [← hq, ← hR]
  clear hq hR
  have e1 : q * 4294967296 * Y = Y * q * 4294967296 := by rw [Nat.mul_right_comm, Nat.mul_comm q Y]
  have e : U * 18446744073709551616 + (u1 * 4294967296 + u0) = (R * 4294967296 + u0) + q * 4294967296 * Y := by
    rw [e1]
    clear e1
    obtain ⟨p, hp⟩ : ∃ p, p = Y * q := ⟨_, rfl⟩
    rw [← hp] at h ⊢
    clear hp
    omega
  rw [e, Nat.add_mul_div_right _ _ hY, Nat.add_comm]
theorem long_shift {hi lo s : Nat} (hs : s ≤ 64) : (hi * 2 ^ s + lo / 2 ^ (64 - s)) * 18446744073709551616 + lo * 2 ^ s % 18446744073709551616 = (hi * 18446744073709551616 + lo) * 2 ^ s := by
  have e : (18446744073709551616 : Nat) = 2 ^ (64 - s) * 2 ^ s := by rw [← Nat.pow_add, Nat.sub_add_cancel hs]
  have h1 : lo / 2 ^ (64 - s) = lo * 2 ^ s / 18446744073709551616 := by
    rw [e, Nat.mul_div_mul_right _ _ (Nat.pow_pos (by decide))]
  rw [h1]
  have h := Nat.div_add_mod (lo * 2 ^ s) 18446744073709551616
  rw [Nat.add_mul (hi * 18446744073709551616), Nat.mul_right_comm hi]
  generalize lo * 2 ^ s = p at *
  generalize hi * 2 ^ s = k at *
  omega
theorem long_or {hi lo s : Nat} (hs : s ≤ 64) (hl : lo < 18446744073709551616) : (hi * 2 ^ s) ||| (lo / 2 ^ (64 - s)) = hi * 2 ^ s + lo / 2 ^ (64 - s) := by
  have h : lo / 2 ^ (64 - s) < 2 ^ s := by
    rw [Nat.div_lt_iff_lt_mul (Nat.pow_pos (by decide)), ← Nat.pow_add, Nat.add_sub_cancel' hs]
    exact hl
  have := Nat.shiftLeft_add_eq_or_of_lt h hi
  rw [Nat.shiftLeft_eq] at this
  exact this.symm
theorem long_below {hi lo y s : Nat} (hs : s ≤ 64) (hl : lo < 18446744073709551616) (h : hi < y) : hi * 2 ^ s + lo / 2 ^ (64 - s) < y * 2 ^ s := by
  have h1 : lo / 2 ^ (64 - s) < 2 ^ s := by
    rw [Nat.div_lt_iff_lt_mul (Nat.pow_pos (by decide)), ← Nat.pow_add, Nat.add_sub_cancel' hs]
    exact hl
  have h2 : (hi + 1) * 2 ^ s ≤ y * 2 ^ s := Nat.mul_le_mul_right _ h
  rw [Nat.add_mul, Nat.one_mul] at h2
  omega
theorem long_all {hi lo y s : Nat} (hs : s ≤ 64) :
    ((hi * 2 ^ s + lo / 2 ^ (64 - s)) * 18446744073709551616 + lo * 2 ^ s % 18446744073709551616) / (y * 2 ^ s) = (hi * 18446744073709551616 + lo) / y := by
  rw [long_shift hs, Nat.mul_div_mul_right _ _ (Nat.pow_pos (by decide))]
theorem long_step {Y1 Y0 U u q r T : Nat} (hY : 2147483648 ≤ Y1) (h0 : Y0 < 4294967296) (hT : T = (U * 4294967296 + u) / (Y1 * 4294967296 + Y0)) (h : q * Y1 + r = U) (hq : q ≤ 4294967297) (ht : T < q) :
    (q - 1) * Y1 + (r + Y1) = U ∧ T ≤ q - 1 ∧ (4294967296 ≤ r + Y1 → T = q - 1) := by
  obtain ⟨k, rfl⟩ : ∃ k, q = k + 1 := ⟨q - 1, by omega⟩
  rw [Nat.add_sub_cancel]
  have h1 : k * Y1 + (r + Y1) = U := by
    rw [Nat.add_mul, Nat.one_mul] at h
    omega
  refine ⟨h1, by omega, fun hr => ?_⟩
  have h2 := long_test (u := u) (Y0 := Y0) (by omega) h1
  have h3 : k * Y0 ≤ 4294967296 * 4294967295 := Nat.mul_le_mul (by omega) (by omega)
  have h4 : ¬ T < k := by
    rw [hT, h2]
    generalize k * Y0 = s at *
    omega
  omega
theorem long_small {Y U u : Nat} (hU : U < Y) (hu : u < 4294967296) : (U * 4294967296 + u) / Y < 4294967296 := by
  rw [Nat.div_lt_iff_lt_mul (by omega)]
  omega
theorem long_left {Y U u T : Nat} (hT : T = (U * 4294967296 + u) / Y) : T * Y + (U * 4294967296 + u) % Y = U * 4294967296 + u := by
  rw [hT, Nat.mul_comm, Nat.div_add_mod]
theorem long_prod {q Y0 : Nat} (hq : q < 4294967296) (h0 : Y0 < 4294967296) : q * Y0 < 18446744073709551616 := by
  have : q * Y0 ≤ 4294967295 * 4294967295 := Nat.mul_le_mul (by omega) (by omega)
  omega
end Go.Proofs.YtbiompjhenkieaaGreat

namespace Go.Proofs.YtbiompjhenkieaaGreat
open Go.RowKit
set_option maxRecDepth 100000

set_option maxHeartbeats 4000000 in
theorem bits_div64 (hi lo y : Nat) (hhi : hi < y) (hlo : lo < 18446744073709551616) (hy : y < 18446744073709551616) (w : World) :
    Calls Tryz.prog 109 #[.int .u64 hi, .int .u64 lo, .int .u64 y] w fun e w' => (∃ r : Int, e = .returned (.tuple #[.int .u64 (((hi * 18446744073709551616 + lo) / y : Nat) : Int), .int .u64 r])) ∧ Below w.heap.size w w' := by
  by_cases h0 : hi = 0
  · subst h0
    have e : (0 * 18446744073709551616 + lo) / y = lo / y := by rw [Nat.zero_mul, Nat.zero_add]
    rw [e]
    exact (bits_div64_low lo y hlo hhi w).mono fun e w' ⟨h1, h2⟩ => ⟨⟨_, h1⟩, h2⟩
  · have y1 : (0 : Int) < (y : Int) := by omega
    have y2 : ¬ (y : Int) = 0 := by omega
    have y3 : ¬ (y : Int) ≤ (hi : Int) := by omega
    have y4 : ¬ (hi : Int) = 0 := by omega
    go_enter Tryz.func109, Tryz.ntmps109
    go_wp2_with fail
    refine (bits_leading64 y (by omega) hy w).mono ?_
    rintro e w1 ⟨⟨s, rfl, s1, s2, s3⟩, rfl⟩
    have s0 : (0 : Int) ≤ (s : Int) := by omega
    have s1' : (s : Int) ≤ 63 := by omega
    have HYb := Lib.hid (show y * 2 ^ s < 18446744073709551616 ∧ 9223372036854775808 ≤ y * 2 ^ s from ⟨s3, s2⟩)
    have eY : IntKind.u64.wrap ((y : Int) * 2 ^ s) = ((y * 2 ^ s : Nat) : Int) := by
      rw [← wrap_fits (y * 2 ^ s) s3, Int.natCast_mul, Int.natCast_pow]
      rfl
    have hU := long_below (s := s) (by omega) hlo hhi
    have hA := long_all (hi := hi) (lo := lo) (y := y) (s := s) (by omega)
    have hO := long_or (hi := hi) (lo := lo) (s := s) (by omega) hlo
    obtain ⟨U, hUd⟩ : ∃ U, U = hi * 2 ^ s + lo / 2 ^ (64 - s) := ⟨_, rfl⟩
    obtain ⟨L, hLd⟩ : ∃ L, L = lo * 2 ^ s % 18446744073709551616 := ⟨_, rfl⟩
    have eO : bits .or .u64 (IntKind.u64.wrap ((hi : Int) * 2 ^ s)) ((lo : Int) / 2 ^ (64 - s)) = (U : Int) := by
      have h1 : hi * 2 ^ s < 18446744073709551616 := Nat.lt_of_le_of_lt (Nat.le_add_right _ _) (Nat.lt_trans hU s3)
      have h2 : lo / 2 ^ (64 - s) < 18446744073709551616 := Nat.lt_of_le_of_lt (Nat.div_le_self _ _) hlo
      have h3 : IntKind.u64.wrap ((hi : Int) * 2 ^ s) = ((hi * 2 ^ s : Nat) : Int) := by
        rw [← wrap_fits (hi * 2 ^ s) h1, Int.natCast_mul, Int.natCast_pow]
        rfl
      have h4 : (lo : Int) / 2 ^ (64 - s) = ((lo / 2 ^ (64 - s) : Nat) : Int) := by
        rw [Int.natCast_ediv, Int.natCast_pow]
        rfl
      rw [h3, h4, bits_or_u64_nat _ _ h1 h2, hO, hUd]
    have eL : IntKind.u64.wrap ((lo : Int) * 2 ^ s) = (L : Int) := by
      rw [hLd, ← wrap_left, Int.natCast_mul, Int.natCast_pow]
      rfl
    have hLb : L < 18446744073709551616 := by rw [hLd]; exact Nat.mod_lt _ (by decide)
    rw [← hUd, ← hLd] at hA
    rw [← hUd] at hU
    clear hUd hLd hO
    generalize y * 2 ^ s = Y at *
    clear s2 s3
    obtain ⟨Y1, hY1⟩ : ∃ Y1, Y1 = Y / 4294967296 := ⟨_, rfl⟩
    obtain ⟨Y0, hY0⟩ : ∃ Y0, Y0 = Y % 4294967296 := ⟨_, rfl⟩
    have eY1 : (Y : Int) / 4294967296 = (Y1 : Int) := by rw [nat_quo32, hY1]
    have eY0 : bits .and .u64 (Y : Int) 4294967295 = (Y0 : Int) := by rw [bits_low32 Y HYb.out.1, hY0]
    have HYn : Hid (2147483648 ≤ Y1 ∧ 0 < Y1 ∧ Y1 < 4294967296 ∧ Y0 < 4294967296) := by
      show _ ∧ _
      have := HYb.out
      omega
    have hYs : Y = Y1 * 4294967296 + Y0 := by omega
    clear hY1 hY0
    obtain ⟨u1, hu1⟩ : ∃ u1, u1 = L / 4294967296 := ⟨_, rfl⟩
    obtain ⟨u0, hu0⟩ : ∃ u0, u0 = L % 4294967296 := ⟨_, rfl⟩
    have eu1 : (L : Int) / 4294967296 = (u1 : Int) := by rw [nat_quo32, hu1]
    have eu0 : bits .and .u64 (L : Int) 4294967295 = (u0 : Int) := by rw [bits_low32 L hLb, hu0]
    have HL : Hid (L = u1 * 4294967296 + u0) := by
      show L = _
      omega
    have HU1 : Hid (u1 < 4294967296) := by
      show u1 < _
      omega
    have HU0 : Hid (u0 < 4294967296) := by
      show u0 < _
      omega
    clear hu1 hu0
    have HU := Lib.hid hU
    have HA := Lib.hid hA
    have HYs := Lib.hid hYs
    clear hU hA hYs hLb
    obtain ⟨T, hT⟩ : ∃ T, T = (U * 4294967296 + u1) / (Y1 * 4294967296 + Y0) := ⟨_, rfl⟩
    have HTd := Lib.hid hT
    have HTs : Hid (T < 4294967296) := by
      show T < _
      rw [hT, ← HYs.out]
      exact long_small HU.out HU1.out
    clear hT
    have hy0 : (0 : Int) < (Y1 : Int) := by have := HYn.out; omega
    have hy1 : ¬ (Y1 : Int) = 0 := by omega
    have hstart : Hid (U / Y1 * Y1 + U % Y1 = U ∧ T ≤ U / Y1 ∧ U / Y1 ≤ 4294967297 ∧ U % Y1 < 4294967296) := by
      refine ⟨?_, ?_, ?_, ?_⟩
      · rw [Nat.mul_comm, Nat.div_add_mod]
      · rw [HTd.out]; exact long_least HYn.out.2.1 HU1.out
      · exact long_most HYn.out.1 HYn.out.2.2.2 (by rw [← HYs.out]; exact HU.out)
      · exact Nat.lt_trans (Nat.mod_lt _ HYn.out.2.1) HYn.out.2.2.1
    have hUb : U < 18446744073709551616 := Nat.lt_trans HU.out HYb.out.1
    have eq : IntKind.u64.wrap ((U : Int) / (Y1 : Int)) = ((U / Y1 : Nat) : Int) := wrap_quo hUb
    have er : IntKind.u64.wrap ((U : Int) - IntKind.u64.wrap (((U / Y1 : Nat) : Int) * (Y1 : Int))) = ((U % Y1 : Nat) : Int) := by
      have h := hstart.out.1
      rw [nat_mul, wrap_fits _ (by omega), wrap_u64']
      generalize U / Y1 * Y1 = p at *
      omega
    clear hUb
    generalize U / Y1 = Q at *
    generalize U % Y1 = R0 at *
    go_upto_block 0 with fail
    clear eO eL eY eY1 eY0 eu1 eu0 eq er
    go_cut [15, 16] (fun s15 s16 wx => s15 = .int .u64 T ∧ w = wx)
    case first =>
      go_wp2_with fail
      go_loop [15, 16] (fun a b => ∃ q r : Nat, a = .int .u64 q ∧ b = .int .u64 r ∧ q * Y1 + r = U ∧ T ≤ q ∧ q ≤ 4294967297 ∧ r < 4294967296) (fun a _ => (intOf a).toNat)
      case atStart => exact ⟨_, _, rfl, rfl, hstart.out⟩
      case round =>
        obtain ⟨q, r, rfl, rfl, hq1, hq2, hq3, hr⟩ := hrel
        have HT := long_test (u := u1) (Y0 := Y0) HYn.out.2.1 hq1
        by_cases hbig : 4294967296 ≤ q
        · have hbig' : (4294967296 : Int) ≤ (q : Int) := by omega
          have hlt : T < q := Nat.lt_of_lt_of_le HTs.out hbig
          obtain ⟨n1, n2, n3⟩ := long_step HYn.out.1 HYn.out.2.2.2 HTd.out hq1 hq3 hlt
          obtain ⟨q', hq'⟩ : ∃ q', q' = q - 1 := ⟨_, rfl⟩
          obtain ⟨r', hr2⟩ : ∃ r', r' = r + Y1 := ⟨_, rfl⟩
          have eq1 : IntKind.u64.wrap ((q : Int) - 1) = (q' : Int) := by rw [wrap_u64']; omega
          have er1 : IntKind.u64.wrap ((r : Int) + (Y1 : Int)) = (r' : Int) := by have := HYn.out; rw [wrap_u64']; omega
          rw [← hq', ← hr2] at n1
          rw [← hq'] at n2 n3
          rw [← hr2] at n3
          have N1 := Lib.hid n1
          have N2 := Lib.hid n2
          have N3 := Lib.hid n3
          have N4 : Hid (q' ≤ 4294967297 ∧ q' < q) := ⟨by omega, by omega⟩
          clear n1 n2 n3 HT hq1 hq2 hq3 hlt hq' hr2 hbig
          by_cases hs : (4294967296 : Int) ≤ (r' : Int)
          · have hdone : Hid (T = q') := N3.out (by omega)
            clear hr
            go_wp2
            go_meet
            exact ⟨by rw [hdone.out], rfl⟩
          · have hs' : decide ((4294967296 : Int) ≤ (r' : Int)) = false := decide_eq_false hs
            have hrn : Hid (r' < 4294967296) := by
              show r' < 4294967296
              omega
            clear hs hr
            go_wp2
            go_round
            case rel => exact ⟨q', r', rfl, rfl, N1.out, N2.out, N4.out.1, hrn.out⟩
            case measure => have := N4.out; simp [intOf]; omega
        · have hbig' : decide ((4294967296 : Int) ≤ (q : Int)) = false := decide_eq_false (by omega)
          have hprod := long_prod (q := q) (by omega) HYn.out.2.2.2
          obtain ⟨P, hP⟩ : ∃ P, P = q * Y0 := ⟨_, rfl⟩
          obtain ⟨A0, hA0⟩ : ∃ A0, A0 = 4294967296 * r := ⟨_, rfl⟩
          obtain ⟨A, hA⟩ : ∃ A, A = A0 + u1 := ⟨_, rfl⟩
          have e1 : IntKind.u64.wrap ((q : Int) * (Y0 : Int)) = (P : Int) := by rw [nat_mul, hP]; exact wrap_fits _ hprod
          have e2 : IntKind.u64.wrap (4294967296 * (r : Int)) = (A0 : Int) := by rw [wrap_u64']; omega
          have e3 : IntKind.u64.wrap ((A0 : Int) + (u1 : Int)) = (A : Int) := by have := HU1.out; rw [wrap_u64']; omega
          rw [← hP, ← hA0, ← hA] at HT
          clear hprod hP hA hA0 hbig
          by_cases hc : A < P
          · have hlt : T < q := by rw [HTd.out]; exact HT.2 hc
            have hc' : (A : Int) < (P : Int) := by omega
            obtain ⟨n1, n2, n3⟩ := long_step HYn.out.1 HYn.out.2.2.2 HTd.out hq1 hq3 hlt
            obtain ⟨q', hq'⟩ : ∃ q', q' = q - 1 := ⟨_, rfl⟩
            obtain ⟨r', hr2⟩ : ∃ r', r' = r + Y1 := ⟨_, rfl⟩
            have eq1 : IntKind.u64.wrap ((q : Int) - 1) = (q' : Int) := by rw [wrap_u64']; omega
            have er1 : IntKind.u64.wrap ((r : Int) + (Y1 : Int)) = (r' : Int) := by have := HYn.out; rw [wrap_u64']; omega
            rw [← hq', ← hr2] at n1
            rw [← hq'] at n2 n3
            rw [← hr2] at n3
            have N1 := Lib.hid n1
            have N2 := Lib.hid n2
            have N3 := Lib.hid n3
            have N4 : Hid (q' ≤ 4294967297 ∧ q' < q) := ⟨by omega, by omega⟩
            clear n1 n2 n3 HT hq1 hq2 hq3 hlt hq' hr2 hc
            by_cases hs : (4294967296 : Int) ≤ (r' : Int)
            · have hdone : Hid (T = q') := N3.out (by omega)
              clear hr
              go_wp2
              go_meet
              exact ⟨by rw [hdone.out], rfl⟩
            · have hs' : decide ((4294967296 : Int) ≤ (r' : Int)) = false := decide_eq_false hs
              have hrn : Hid (r' < 4294967296) := by
                show r' < 4294967296
                omega
              clear hs hr
              go_wp2
              go_round
              case rel => exact ⟨q', r', rfl, rfl, N1.out, N2.out, N4.out.1, hrn.out⟩
              case measure => have := N4.out; simp [intOf]; omega
          · have hc' : (P : Int) ≤ (A : Int) := by omega
            have hend : Hid (q = T) := by
              show q = T
              have : ¬ T < q := by rw [HTd.out]; exact fun h => hc (HT.1 h)
              omega
            clear hc HT hq1 hq2 hq3 hr
            go_wp2
            go_meet
            exact ⟨by rw [hend.out], rfl⟩
    case rest =>
      obtain ⟨rfl, rfl⟩ := hcut
      clear hy1
      have hy1 : ¬ (Y1 : Int) = 0 := by omega
      obtain ⟨R, hRd⟩ : ∃ R, R = (U * 4294967296 + u1) % Y := ⟨_, rfl⟩
      have hRY : R < Y := by
        rw [hRd]
        have := HYb.out
        exact Nat.mod_lt _ (by omega)
      have hR : T * Y + R = U * 4294967296 + u1 := by
        rw [hRd]
        exact long_left (by rw [HTd.out, HYs.out])
      have eR : IntKind.u64.wrap (IntKind.u64.wrap (IntKind.u64.wrap ((U : Int) * 4294967296) + (u1 : Int)) - IntKind.u64.wrap ((T : Int) * (Y : Int))) = (R : Int) := by
        have hb := HYb.out
        rw [nat_mul T Y]
        generalize T * Y = P at *
        rw [wrap_u64', wrap_u64', wrap_u64', wrap_u64']
        omega
      have HR := Lib.hid hR
      have HRY := Lib.hid hRY
      have HRd := Lib.hid hRd
      clear hR hRY hRd
      obtain ⟨T2, hT2⟩ : ∃ T2, T2 = (R * 4294967296 + u0) / (Y1 * 4294967296 + Y0) := ⟨_, rfl⟩
      have HT2d := Lib.hid hT2
      have HT2s : Hid (T2 < 4294967296) := by
        show T2 < _
        rw [hT2, ← HYs.out]
        exact long_small HRY.out HU0.out
      clear hT2
      have hstart2 : Hid (R / Y1 * Y1 + R % Y1 = R ∧ T2 ≤ R / Y1 ∧ R / Y1 ≤ 4294967297 ∧ R % Y1 < 4294967296) := by
        refine ⟨?_, ?_, ?_, ?_⟩
        · rw [Nat.mul_comm, Nat.div_add_mod]
        · rw [HT2d.out]; exact long_least HYn.out.2.1 HU0.out
        · exact long_most HYn.out.1 HYn.out.2.2.2 (by rw [← HYs.out]; exact HRY.out)
        · exact Nat.lt_trans (Nat.mod_lt _ HYn.out.2.1) HYn.out.2.2.1
      have hRb : R < 18446744073709551616 := Nat.lt_trans HRY.out HYb.out.1
      have eq2 : IntKind.u64.wrap ((R : Int) / (Y1 : Int)) = ((R / Y1 : Nat) : Int) := wrap_quo hRb
      have er2 : IntKind.u64.wrap ((R : Int) - IntKind.u64.wrap (((R / Y1 : Nat) : Int) * (Y1 : Int))) = ((R % Y1 : Nat) : Int) := by
        have h := hstart2.out.1
        rw [nat_mul, wrap_fits _ (by omega), wrap_u64']
        generalize R / Y1 * Y1 = p at *
        omega
      clear hRb
      generalize R / Y1 = Q2 at *
      generalize R % Y1 = R2 at *
      have eF : IntKind.u64.wrap (IntKind.u64.wrap ((T : Int) * 4294967296) + (T2 : Int)) = (((hi * 18446744073709551616 + lo) / y : Nat) : Int) := by
        have h1 := HTs.out
        have h2 := HT2s.out
        have h3 : T * 4294967296 + T2 = (hi * 18446744073709551616 + lo) / y := by
          rw [← HA.out, HTd.out, HT2d.out, ← HYs.out, HRd.out, HL.out]
          exact long_two (by have := HYb.out; omega)
        rw [← h3, wrap_u64', wrap_u64']
        omega
      go_upto_block 2 with fail
      go_cut [18, 16] (fun s18 s16 wx => s18 = .int .u64 T2 ∧ w = wx)
      case first =>
        go_wp2_with fail
        go_loop [18, 16] (fun a b => ∃ q r : Nat, a = .int .u64 q ∧ b = .int .u64 r ∧ q * Y1 + r = R ∧ T2 ≤ q ∧ q ≤ 4294967297 ∧ r < 4294967296) (fun a _ => (intOf a).toNat)
        case atStart => exact ⟨_, _, rfl, rfl, hstart2.out⟩
        case round =>
          obtain ⟨q, r, rfl, rfl, hq1, hq2, hq3, hr⟩ := hrel
          have HT := long_test (u := u0) (Y0 := Y0) HYn.out.2.1 hq1
          by_cases hbig : 4294967296 ≤ q
          · have hbig' : (4294967296 : Int) ≤ (q : Int) := by omega
            have hlt : T2 < q := Nat.lt_of_lt_of_le HT2s.out hbig
            obtain ⟨n1, n2, n3⟩ := long_step HYn.out.1 HYn.out.2.2.2 HT2d.out hq1 hq3 hlt
            obtain ⟨q', hq'⟩ : ∃ q', q' = q - 1 := ⟨_, rfl⟩
            obtain ⟨r', hr2⟩ : ∃ r', r' = r + Y1 := ⟨_, rfl⟩
            have eq1 : IntKind.u64.wrap ((q : Int) - 1) = (q' : Int) := by rw [wrap_u64']; omega
            have er1 : IntKind.u64.wrap ((r : Int) + (Y1 : Int)) = (r' : Int) := by have := HYn.out; rw [wrap_u64']; omega
            rw [← hq', ← hr2] at n1
            rw [← hq'] at n2 n3
            rw [← hr2] at n3
            have N1 := Lib.hid n1
            have N2 := Lib.hid n2
            have N3 := Lib.hid n3
            have N4 : Hid (q' ≤ 4294967297 ∧ q' < q) := ⟨by omega, by omega⟩
            clear n1 n2 n3 HT hq1 hq2 hq3 hlt hq' hr2 hbig
            by_cases hs : (4294967296 : Int) ≤ (r' : Int)
            · have hdone : Hid (T2 = q') := N3.out (by omega)
              clear hr
              go_wp2
              go_meet
              exact ⟨by rw [hdone.out], rfl⟩
            · have hs' : decide ((4294967296 : Int) ≤ (r' : Int)) = false := decide_eq_false hs
              have hrn : Hid (r' < 4294967296) := by
                show r' < 4294967296
                omega
              clear hs hr
              go_wp2
              go_round
              case rel => exact ⟨q', r', rfl, rfl, N1.out, N2.out, N4.out.1, hrn.out⟩
              case measure => have := N4.out; simp [intOf]; omega
          · have hbig' : decide ((4294967296 : Int) ≤ (q : Int)) = false := decide_eq_false (by omega)
            have hprod := long_prod (q := q) (by omega) HYn.out.2.2.2
            obtain ⟨P, hP⟩ : ∃ P, P = q * Y0 := ⟨_, rfl⟩
            obtain ⟨A0, hA0⟩ : ∃ A0, A0 = 4294967296 * r := ⟨_, rfl⟩
            obtain ⟨A, hA⟩ : ∃ A, A = A0 + u0 := ⟨_, rfl⟩
            have e1 : IntKind.u64.wrap ((q : Int) * (Y0 : Int)) = (P : Int) := by rw [nat_mul, hP]; exact wrap_fits _ hprod
            have e2 : IntKind.u64.wrap (4294967296 * (r : Int)) = (A0 : Int) := by rw [wrap_u64']; omega
            have e3 : IntKind.u64.wrap ((A0 : Int) + (u0 : Int)) = (A : Int) := by have := HU0.out; rw [wrap_u64']; omega
            rw [← hP, ← hA0, ← hA] at HT
            clear hprod hP hA hA0 hbig
            by_cases hc : A < P
            · have hlt : T2 < q := by rw [HT2d.out]; exact HT.2 hc
              have hc' : (A : Int) < (P : Int) := by omega
              obtain ⟨n1, n2, n3⟩ := long_step HYn.out.1 HYn.out.2.2.2 HT2d.out hq1 hq3 hlt
              obtain ⟨q', hq'⟩ : ∃ q', q' = q - 1 := ⟨_, rfl⟩
              obtain ⟨r', hr2⟩ : ∃ r', r' = r + Y1 := ⟨_, rfl⟩
              have eq1 : IntKind.u64.wrap ((q : Int) - 1) = (q' : Int) := by rw [wrap_u64']; omega
              have er1 : IntKind.u64.wrap ((r : Int) + (Y1 : Int)) = (r' : Int) := by have := HYn.out; rw [wrap_u64']; omega
              rw [← hq', ← hr2] at n1
              rw [← hq'] at n2 n3
              rw [← hr2] at n3
              have N1 := Lib.hid n1
              have N2 := Lib.hid n2
              have N3 := Lib.hid n3
              have N4 : Hid (q' ≤ 4294967297 ∧ q' < q) := ⟨by omega, by omega⟩
              clear n1 n2 n3 HT hq1 hq2 hq3 hlt hq' hr2 hc
              by_cases hs : (4294967296 : Int) ≤ (r' : Int)
              · have hdone : Hid (T2 = q') := N3.out (by omega)
                clear hr
                go_wp2
                go_meet
                exact ⟨by rw [hdone.out], rfl⟩
              · have hs' : decide ((4294967296 : Int) ≤ (r' : Int)) = false := decide_eq_false hs
                have hrn : Hid (r' < 4294967296) := by
                  show r' < 4294967296
                  omega
                clear hs hr
                go_wp2
                go_round
                case rel => exact ⟨q', r', rfl, rfl, N1.out, N2.out, N4.out.1, hrn.out⟩
                case measure => have := N4.out; simp [intOf]; omega
            · have hc' : (P : Int) ≤ (A : Int) := by omega
              have hend : Hid (q = T2) := by
                show q = T2
                have : ¬ T2 < q := by rw [HT2d.out]; exact fun h => hc (HT.1 h)
                omega
              clear hc HT hq1 hq2 hq3 hr
              go_wp2
              go_meet
              exact ⟨by rw [hend.out], rfl⟩
      case rest =>
        obtain ⟨rfl, rfl⟩ := hcut
        go_wp2
        go_ret2
        exact ⟨⟨_, rfl⟩, Below.refl _ _⟩
end Go.Proofs.YtbiompjhenkieaaGreat

namespace Go.Proofs.YtbiompjhenkieaaGreat
open Go.RowKit Go.WideShapes
set_option maxRecDepth 100000

def partV (a n o : Int) : Int := if 0 ≤ a ∧ a ≤ 1125899906842624 ∧ 1 ≤ o ∧ 0 ≤ n ∧ n ≤ o then a * n / o else 0

def partE (a n o : Int) : Int := if 0 ≤ a ∧ a ≤ 1125899906842624 then (if 1 ≤ o ∧ 0 ≤ n ∧ n ≤ o then 0 else 1) else 9

theorem part_money {a n o : Int} (h : ¬ (0 ≤ a ∧ a ≤ 1125899906842624)) : partV a n o = 0 ∧ partE a n o = 9 := by
  unfold partV partE
  rw [if_neg (by omega), if_neg h]
  exact ⟨rfl, rfl⟩

theorem part_arg {a n o : Int} (h1 : 0 ≤ a ∧ a ≤ 1125899906842624) (h : ¬ (1 ≤ o ∧ 0 ≤ n ∧ n ≤ o)) : partV a n o = 0 ∧ partE a n o = 1 := by
  unfold partV partE
  rw [if_neg (by omega), if_pos h1, if_neg h]
  exact ⟨rfl, rfl⟩

theorem part_good {a n o : Int} (h1 : 0 ≤ a ∧ a ≤ 1125899906842624) (h : 1 ≤ o ∧ 0 ≤ n ∧ n ≤ o) : partV a n o = a * n / o ∧ partE a n o = 0 := by
  unfold partV partE
  rw [if_pos (by omega), if_pos h1, if_pos h]
  exact ⟨rfl, rfl⟩

theorem part_most {A N O : Nat} (h0 : 0 < O) (h : N ≤ O) : A * N / O ≤ A := by
  rw [Nat.div_le_iff_le_mul_add_pred h0]
  have := Nat.mul_le_mul_left A h
  rw [Nat.mul_comm O A]
  omega

set_option maxHeartbeats 1600000 in
theorem cents_part (a n o : Int) (hn : I64 n) (ho : I64 o) (w : World) :
    Calls Tryz.prog 106 #[.int .i64 a, .int .i64 n, .int .i64 o] w fun e w' => e = .returned (.tuple #[.int .i64 (partV a n o), .int .i64 (partE a n o)]) ∧ Below w.heap.size w w' := by
  obtain ⟨n1, n2⟩ := hn
  obtain ⟨o1, o2⟩ := ho
  by_cases ha : 0 ≤ a ∧ a ≤ 1125899906842624
  · have hr : Rt a = true := rt_iff.2 ⟨by omega, ha.2⟩
    have a0 : ¬ a < 0 := by omega
    by_cases hg : 1 ≤ o ∧ 0 ≤ n ∧ n ≤ o
    · rw [(part_good ha hg).1, (part_good ha hg).2]
      obtain ⟨g1, g2, g3⟩ := hg
      obtain ⟨A, rfl⟩ := Int.eq_ofNat_of_zero_le ha.1
      obtain ⟨N, rfl⟩ := Int.eq_ofNat_of_zero_le g2
      obtain ⟨O, rfl⟩ := Int.eq_ofNat_of_zero_le (show 0 ≤ o by omega)
      have hm : A * N / 18446744073709551616 < O := by
        rw [Nat.div_lt_iff_lt_mul (by decide)]
        have h1 : A * N ≤ A * O := Nat.mul_le_mul_left A (by omega)
        have h2 : A * O < 18446744073709551616 * O := Nat.mul_lt_mul_of_pos_right (by omega) (by omega)
        rw [Nat.mul_comm O]
        omega
      have hM := fun w => bits_mul64 A N (by omega) (by omega) w
      have hD := fun w => bits_div64 (A * N / 18446744073709551616) (A * N % 18446744073709551616) O hm (Nat.mod_lt _ (by decide)) (by omega) w
      have hmost := part_most (A := A) (N := N) (O := O) (by omega) (by omega)
      rw [show A * N / 18446744073709551616 * 18446744073709551616 + A * N % 18446744073709551616 = A * N from by rw [Nat.mul_comm, Nat.div_add_mod]] at hD
      have hq : (A : Int) * (N : Int) / (O : Int) = ((A * N / O : Nat) : Int) := by rw [Int.natCast_ediv, Int.natCast_mul]
      rw [hq]
      clear hq hm
      generalize A * N / 18446744073709551616 = hi at *
      generalize A * N % 18446744073709551616 = lo at *
      generalize A * N / O = q at *
      have hq2 : (q : Int) ≤ 1125899906842624 := by omega
      have o0 : ¬ (O : Int) ≤ 0 := by omega
      have n0 : ¬ (N : Int) < 0 := by omega
      have c0 : ¬ (O : Int) < (N : Int) := by omega
      go_enter Tryz.func106, Tryz.ntmps106
      go_wp2_with fail
      refine (cents_right (A : Int) w).mono ?_
      rintro e w1 ⟨rfl, rfl⟩
      rw [hr]
      go_wp2_with fail
      refine (hM w).mono ?_
      rintro e w1 ⟨rfl, rfl⟩
      go_wp2_with fail
      refine (hD w).mono ?_
      rintro e w1 ⟨⟨r, rfl⟩, b1⟩
      go_wp2
      go_ret2
      exact ⟨rfl, b1⟩
    · rw [(part_arg ha hg).1, (part_arg ha hg).2]
      by_cases g1 : o ≤ 0
      · clear hg
        go_enter Tryz.func106, Tryz.ntmps106
        go_wp2_with fail
        refine (cents_right a w).mono ?_
        rintro e w1 ⟨rfl, rfl⟩
        rw [hr]
        go_wp2
        go_ret2
        exact ⟨rfl, Below.refl _ _⟩
      · by_cases g2 : n < 0
        · clear hg
          go_enter Tryz.func106, Tryz.ntmps106
          go_wp2_with fail
          refine (cents_right a w).mono ?_
          rintro e w1 ⟨rfl, rfl⟩
          rw [hr]
          go_wp2
          go_ret2
          exact ⟨rfl, Below.refl _ _⟩
        · have g3 : o < n := by omega
          clear hg
          go_enter Tryz.func106, Tryz.ntmps106
          go_wp2_with fail
          refine (cents_right a w).mono ?_
          rintro e w1 ⟨rfl, rfl⟩
          rw [hr]
          go_wp2
          go_ret2
          exact ⟨rfl, Below.refl _ _⟩
  · rw [(part_money ha).1, (part_money ha).2]
    by_cases a0 : a < 0
    · clear ha
      go_enter Tryz.func106, Tryz.ntmps106
      go_wp2
      go_ret2
      exact ⟨rfl, Below.refl _ _⟩
    · have hr : Rt a = false := rt_not.2 (by omega)
      clear ha
      go_enter Tryz.func106, Tryz.ntmps106
      go_wp2_with fail
      refine (cents_right a w).mono ?_
      rintro e w1 ⟨rfl, rfl⟩
      rw [hr]
      go_wp2
      go_ret2
      exact ⟨rfl, Below.refl _ _⟩

end Go.Proofs.YtbiompjhenkieaaGreat
