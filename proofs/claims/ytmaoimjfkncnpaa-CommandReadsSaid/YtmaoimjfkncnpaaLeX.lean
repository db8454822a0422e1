/-
  Numbers as bytes, plainly: le, numLe, and what the machine's sums make of them; and small facts on worlds and rows. No program. No conditions but those of each theorem. The document's numbers: recoupref01.Number and Bytes. Conditions: those of each theorem. An append of bytes onto a row of the call's own, as its callers want it. Program-independent but for a type's number. No conditions but those of each theorem.
-/
import Derived.Test.YtmaoimjfkncnpaaBase
import Derived.Test.YtmaoimjfkncnpaaRowX
namespace Go.Proofs.Ytmaoimjfkncnpaa
open Go.RowKit
set_option maxRecDepth 100000

/-- A number's bytes, the least first. -/
def byteAt (v : Int) (k : Nat) : UInt8 := UInt8.ofNat (v / 2 ^ (8 * k) % 256).toNat
def le (v : Int) (n : Nat) : List UInt8 := (List.range n).map (byteAt v)
theorem byteAt_int (v : Int) (k : Nat) : (((byteAt v k).toNat : Nat) : Int) = v / 2 ^ (8 * k) % 256 := by
  unfold byteAt
  rw [UInt8.toNat_ofNat']
  have h0 : 0 ≤ v / 2 ^ (8 * k) % 256 := Int.emod_nonneg _ (by decide)
  have h1 : v / 2 ^ (8 * k) % 256 < 256 := Int.emod_lt_of_pos _ (by decide)
  generalize v / 2 ^ (8 * k) % 256 = z at *
  omega
theorem le_length (v : Int) (n : Nat) : (le v n).length = n := by simp [le]
theorem le_get (v : Int) (n : Nat) (i : Nat) (h : i < (le v n).length) : (le v n)[i] = byteAt v i := by simp [le]
/-- What goes into so many bytes. -/
def fits (v : Int) (n : Nat) : Bool := decide (0 ≤ v) && decide (v < 2 ^ (8 * n))
/-- What an Out holds behind a number of so many bytes. -/
theorem u64_pos {v : Int} (h : I64 v) (h0 : 0 ≤ v) : IntKind.u64.wrap v = v := by
  have : IntKind.u64.wrap v = v % 18446744073709551616 := by simp [IntKind.wrap, IntKind.signed, IntKind.bits]
  rw [this]
  unfold I64 at h
  omega
theorem u64_neg {v : Int} (h : I64 v) (h0 : v < 0) : 9223372036854775808 ≤ IntKind.u64.wrap v := by
  have : IntKind.u64.wrap v = v % 18446744073709551616 := by simp [IntKind.wrap, IntKind.signed, IntKind.bits]
  rw [this]
  unfold I64 at h
  omega
theorem fits_shr {v : Int} (h : I64 v) {n : Nat} {m : Int} (hm : m = 2 ^ (8 * n)) (h1 : 0 < m) (h2 : m ≤ 9223372036854775808) : (IntKind.u64.wrap v / m != 0) = !fits v n := by
  by_cases h0 : 0 ≤ v
  · rw [u64_pos h h0]
    by_cases hl : v < m
    · have : v / m = 0 := Int.ediv_eq_zero_of_lt h0 hl
      simp [this, fits, h0, ← hm, hl]
    · have : 1 ≤ v / m := by
        have := Int.ediv_le_ediv h1 (show m ≤ v by omega)
        rwa [Int.ediv_self (by omega)] at this
      have h3 : (v / m != 0) = true := by rw [bne_iff_ne]; omega
      rw [h3]
      simp [fits, ← hm, hl]
  · have h3 := u64_neg h (by omega)
    have : 1 ≤ IntKind.u64.wrap v / m := by
      have := Int.ediv_le_ediv h1 (show m ≤ IntKind.u64.wrap v by omega)
      rwa [Int.ediv_self (by omega)] at this
    have h3 : (IntKind.u64.wrap v / m != 0) = true := by rw [bne_iff_ne]; omega
    rw [h3]
    simp [fits, h0]
theorem fits_pos {v : Int} {n : Nat} (h : fits v n = true) : 0 ≤ v := by simp [fits] at h; exact h.1
/-- What some bytes come to, the least first. -/
def numLe : List UInt8 → Nat
  | [] => 0
  | b :: l => b.toNat + 256 * numLe l
theorem numLe_lt (l : List UInt8) : numLe l < 256 ^ l.length := by
  induction l with
  | nil => simp [numLe]
  | cons b l ih =>
    have := b.toNat_lt
    simp only [numLe, List.length_cons, Nat.pow_succ]
    omega
theorem numLe_snoc (l : List UInt8) (b : UInt8) : numLe (l ++ [b]) = numLe l + 256 ^ l.length * b.toNat := by
  induction l with
  | nil => simp [numLe]
  | cons c l ih =>
    simp only [List.cons_append, numLe, ih, List.length_cons, Nat.pow_succ, Nat.mul_add]
    rw [Nat.mul_comm (256 ^ l.length) 256, Nat.mul_assoc]
    omega
theorem wrap_u64 {a : Nat} (h : a < 2 ^ 64) : IntKind.u64.wrap (a : Int) = a := by
  have : IntKind.u64.wrap (a : Int) = (a : Int) % 18446744073709551616 := by simp [IntKind.wrap, IntKind.signed, IntKind.bits]
  rw [this]
  omega
theorem bits_or_u64 {a b : Nat} (ha : a < 2 ^ 64) (hb : b < 2 ^ 64) : bits .or .u64 (a : Int) (b : Int) = ((a ||| b : Nat) : Int) := by
  have hk : IntKind.bits .u64 = 64 := rfl
  unfold bits
  rw [hk]
  simp only [BitVec.ofInt_natCast, BitVec.toNat_or, BitVec.toNat_ofNat]
  rw [Nat.mod_eq_of_lt ha, Nat.mod_eq_of_lt hb]
  exact wrap_u64 (Nat.or_lt_two_pow ha hb)
/-- A round of reading a number. -/
theorem or_round {v k : Nat} (b : UInt8) (hv : v < 256 ^ k) (hk : k < 8) :
    bits .or .u64 (v : Int) (IntKind.u64.wrap (IntKind.u64.wrap (b.toNat : Int) * 2 ^ (8 * k))) = ((v + 256 ^ k * b.toNat : Nat) : Int) := by
  have hb := b.toNat_lt
  have e256 : (256 : Nat) ^ k = 2 ^ (8 * k) := by rw [Nat.pow_mul]
  have hle : (256 : Nat) ^ k * 256 ≤ 2 ^ 64 := by
    have : (256 : Nat) ^ k * 256 = 256 ^ (k + 1) := by rw [Nat.pow_succ]
    rw [this, show (2 : Nat) ^ 64 = 256 ^ 8 by decide]
    exact Nat.pow_le_pow_right (by decide) (by omega)
  have hmul : 256 ^ k * b.toNat < 2 ^ 64 := Nat.lt_of_lt_of_le (Nat.mul_lt_mul_of_pos_left hb (Nat.pow_pos (by decide))) hle
  have hv64 : v < 2 ^ 64 := by
    have h1 : 0 < (256 : Nat) ^ k := Nat.pow_pos (by decide)
    omega
  rw [wrap_u64 (a := b.toNat) (by omega)]
  have e2 : ((b.toNat : Nat) : Int) * 2 ^ (8 * k) = ((256 ^ k * b.toNat : Nat) : Int) := by
    rw [e256, Int.natCast_mul, Int.mul_comm, Int.natCast_pow]; rfl
  rw [e2, wrap_u64 hmul, bits_or_u64 hv64 hmul]
  congr 1
  rw [e256] at hv ⊢
  rw [Nat.or_comm, ← Nat.two_pow_add_eq_or_of_lt hv]
  omega
theorem wrap_i64 {a : Nat} (h : a < 2 ^ 63) : wrap64 (a : Int) = a := by
  have h0 : (a : Int) < 9223372036854775808 := by omega
  unfold wrap64
  omega
theorem numLe_drop (xs : List UInt8) (k : Nat) (h : k < xs.length) : numLe (xs.drop k) = xs[k].toNat + 256 * numLe (xs.drop (k + 1)) := by
  rw [List.drop_eq_getElem_cons h, numLe]

/-- What goes round at 2^64. -/
def u64r (n : Nat) : Nat := n % 2 ^ 64
theorem u64r_small {n : Nat} (h : n < 2 ^ 64) : u64r n = n := Nat.mod_eq_of_lt h
theorem number_step (n : Nat) (b : UInt8) : IntKind.u64.wrap (IntKind.u64.wrap (((u64r n : Nat) : Int) * 256) + IntKind.u64.wrap (b.toNat : Int)) = ((u64r (b.toNat + 256 * n) : Nat) : Int) := by
  unfold u64r
  have hb := b.toNat_lt
  have e : ∀ z : Int, IntKind.u64.wrap z = z % 18446744073709551616 := fun z => by simp [IntKind.wrap, IntKind.signed, IntKind.bits]
  rw [e, e, e]
  omega
theorem div_step (v : Int) (k : Nat) (h0 : 0 ≤ v) (h1 : v ≤ 18446744073709551615) : IntKind.u64.wrap ((v / 2 ^ (8 * k)).tdiv 256) = v / 2 ^ (8 * (k + 1)) := by
  have hp : (0 : Int) < 2 ^ (8 * k) := Int.pow_pos (by decide)
  have hq : 0 ≤ v / 2 ^ (8 * k) := Int.ediv_nonneg h0 (by omega)
  have hle : v / 2 ^ (8 * k) ≤ v := Int.ediv_le_self _ h0
  have e1 : (v / 2 ^ (8 * k)).tdiv 256 = v / 2 ^ (8 * (k + 1)) := by
    rw [Int.tdiv_eq_ediv_of_nonneg hq, Int.ediv_ediv_of_nonneg (by omega), show (256 : Int) = 2 ^ 8 from rfl, ← Int.pow_add, show 8 * (k + 1) = 8 * k + 8 by omega]
  have e : ∀ z : Int, IntKind.u64.wrap z = z % 18446744073709551616 := fun z => by simp [IntKind.wrap, IntKind.signed, IntKind.bits]
  have e2 : (v / 2 ^ (8 * k)).tdiv 256 = v / 2 ^ (8 * k) / 256 := Int.tdiv_eq_ediv_of_nonneg hq
  rw [← e1, e, e2]
  generalize v / 2 ^ (8 * k) = z at *
  omega
theorem own_ge {w : World} {base : Nat} {e : TypeId} {size : Nat} {v : Value} {n : Nat} {xs : List Value} (h : w.ownsRow base e size v n xs) {g : Nat} (hg : v.ownBlock = some g) : base ≤ g := by
  rcases h.2 with ⟨hv, _⟩ | ⟨g', cap, cur, hv, hb, _⟩
  · subst hv; cases hg
  · subst hv
    obtain rfl : g' = g := by simpa [Value.ownBlock] using hg
    exact hb
theorem u64_lo (v : Int) : 0 ≤ IntKind.u64.wrap v ∧ IntKind.u64.wrap v ≤ 18446744073709551615 := by
  have : IntKind.u64.wrap v = v % 18446744073709551616 := by simp [IntKind.wrap, IntKind.signed, IntKind.bits]
  rw [this]
  omega
theorem le_snoc (v : Int) (n : Nat) : le v (n + 1) = le v n ++ [byteAt v n] := by simp [le, List.range_succ]
theorem byteAt_nat (v k : Nat) : (byteAt (v : Int) k).toNat = v / 2 ^ (8 * k) % 256 := by
  have h := byteAt_int (v : Int) k
  have e : ((v : Int) / 2 ^ (8 * k) % 256) = ((v / 2 ^ (8 * k) % 256 : Nat) : Int) := by
    rw [Int.natCast_emod, Int.natCast_ediv, Int.natCast_pow]; rfl
  rw [e] at h
  exact Int.ofNat_inj.1 h
theorem numLe_le (v n : Nat) : numLe (le (v : Int) n) = v % 2 ^ (8 * n) := by
  induction n with
  | zero => simp [le, numLe, Nat.mod_one]
  | succ n ih =>
    rw [le_snoc, numLe_snoc, ih, le_length, byteAt_nat, show (256 : Nat) ^ n = 2 ^ (8 * n) by rw [Nat.pow_mul], show 8 * (n + 1) = 8 * n + 8 by omega, Nat.pow_add, Nat.mod_mul]
theorem numLe_fits {v : Int} {n : Nat} (h : fits v n = true) : ((numLe (le v n) : Nat) : Int) = v := by
  have h0 := fits_pos h
  obtain ⟨m, rfl⟩ := Int.eq_ofNat_of_zero_le h0
  have h1 : (m : Int) < 2 ^ (8 * n) := by simp [fits] at h; exact h
  have h2 : m < 2 ^ (8 * n) := by
    have : ((2 ^ (8 * n) : Nat) : Int) = (2 : Int) ^ (8 * n) := by rw [Int.natCast_pow]; rfl
    rw [← this] at h1
    exact Int.ofNat_lt.1 h1
  rw [numLe_le, Nat.mod_eq_of_lt h2]
theorem row_mono {w : World} {base base' : Nat} {e : TypeId} {size : Nat} {v : Value} {n : Nat} {xs : List Value} (h : w.ownsRow base e size v n xs) (hb : base' ≤ base) : w.ownsRow base' e size v n xs := by
  refine ⟨h.1, ?_⟩
  rcases h.2 with h2 | ⟨g, cap, cur, hv, h3, r⟩
  · exact .inl h2
  · exact .inr ⟨g, cap, cur, hv, Nat.le_trans hb h3, r⟩
/-- Nothing below B has turned, where only blocks from B on have. -/
theorem upd_below {B : Nat} {S : Nat → Prop} {w w' : World} (h : Upd S w w') (hB : B ≤ w.heap.size) (hs : ∀ k, S k → B ≤ k) : Below B w w' :=
  h.toBelow hB (fun k hk hS => by have := hs k hS; omega)

theorem own_lt {w : World} {base : Nat} {e : TypeId} {size : Nat} {v : Value} {n : Nat} {xs : List Value} (h : w.ownsRow base e size v n xs) {g : Nat} (hg : v.ownBlock = some g) : g < w.heap.size := by
  rcases h.2 with ⟨hv, _⟩ | ⟨g', cap, cur, hv, _, hh, _⟩
  · subst hv; cases hg
  · subst hv
    obtain rfl : g' = g := by simpa [Value.ownBlock] using hg
    exact (Array.getElem?_eq_some_iff.1 hh).1
/-- A block that an append has not turned. -/
theorem grown_at {w w1 : World} {p o : Nat} {v u : Value} (hp : p < w.heap.size) (hg : w.grownBy w1 v.ownBlock) (hne : ∀ g, v.ownBlock = some g → g ≠ p) (hc : w.cell? ⟨p, o, none⟩ = some u) (hf : w.frozen? ⟨p, o, none⟩ = false) :
    w1.cell? ⟨p, o, none⟩ = some u ∧ w1.frozen? ⟨p, o, none⟩ = false ∧ Hid (w1.heap[p]? = w.heap[p]?) := by
  have hb := hg.block p hp (fun e => hne p e.symm rfl)
  exact ⟨(World.cell?_of_block (a := ⟨p, o, none⟩) hb).trans hc, (World.frozen?_of_block (a := ⟨p, o, none⟩) hb).trans hf, Lib.hid hb⟩
theorem IsBytes.below {w w' : World} {a : Option Addr} {xs : List UInt8} (h : IsBytes w a xs) (hb : Below w.heap.size w w') : IsBytes w' a xs :=
  h.upd (below_upd (fun _ => False) hb) (fun _ _ _ h => h)
theorem IsBytes.take' {w : World} {a : Option Addr} {xs : List UInt8} (h : IsBytes w a xs) (n : Nat) : IsBytes w a (xs.take n) := by
  rcases h with rfl | ⟨b, off, rfl, hb, hc⟩
  · exact .inl (by simp)
  · refine .inr ⟨b, off, rfl, hb, fun i hi => ?_⟩
    rw [List.getElem_take]
    exact hc i (by simp at hi; omega)
theorem addr_add (b o s : Nat) : (⟨b, o, none⟩ : Addr).add s = ⟨b, o + s, none⟩ := by unfold Addr.add; split <;> simp_all
/-- What lies behind the first s bytes of a slice. -/
theorem IsBytes.drewN {w : World} {a : Option Addr} {xs : List UInt8} (h : IsBytes w a xs) (n : Nat) : IsBytes (w.drewN n) a xs :=
  h.upd (S := fun _ => False) ((Upd.refl _ w).drewN n) (fun _ _ _ h => h)
theorem below_drewN {B : Nat} {w w' : World} (h : Below B w w') (n : Nat) : Below B w (w'.drewN n) := h.trans ⟨rfl, rfl, rfl, Nat.le_refl _, fun _ _ => rfl⟩
/-- The statement's own state ahead of a round. -/
theorem dropA_facts {W : World} {av AV : Option Addr} {cv s p : Nat} {rl : List UInt8} {f : Addr → Addr} (hf : ∀ b o, f ⟨b, o, none⟩ = ⟨b, o + s, none⟩) (hA : (if cv = s then av else Option.map f av) = AV)
    (hby : IsBytes W av rl) (hl : rl.length ≤ cv) (hnil : av = none → cv = 0) (hsp : ∀ x, av = some x → x.block ≠ p ∧ x.spot = none) :
    IsBytes W AV (rl.drop s) ∧ (AV = none → cv - s = 0) ∧ ∀ x, AV = some x → x.block ≠ p ∧ x.spot = none := by
  by_cases hc : cv = s
  · rw [if_pos hc] at hA
    subst hA
    exact ⟨.inl (by rw [List.drop_eq_nil_iff]; omega), fun _ => by omega, hsp⟩
  · rw [if_neg hc] at hA
    subst hA
    refine ⟨?_, fun h => ?_, fun x hx => ?_⟩
    · rcases hby with rfl | ⟨b, off, rfl, hb, hcs⟩
      · exact .inl (by simp)
      · refine .inr ⟨b, off + s, by simp [hf], hb, fun i hi => ?_⟩
        rw [List.getElem_drop, Nat.add_assoc]
        exact hcs (s + i) (by simp at hi; omega)
    · have : av = none := by cases av <;> simp_all
      have := hnil this
      omega
    · cases av with
      | none => cases hx
      | some y =>
        obtain ⟨g1, g2⟩ := hsp y rfl
        obtain ⟨yb, yo, ys⟩ := y
        simp only at g2
        subst g2
        simp only [Option.map_some, Option.some.injEq, hf] at hx
        subst hx
        exact ⟨g1, rfl⟩
end Go.Proofs.Ytmaoimjfkncnpaa

namespace Go.Proofs.Ytmaoimjfkncnpaa
open Go.RowKit
set_option maxRecDepth 100000

set_option maxHeartbeats 800000 in
theorem number_ref (a : Option Addr) (xs : List UInt8) (m c : Nat) (w : World) (hm : xs.length = m) (hx : IsBytes w a xs) (hl : m ≤ maxLen) :
    Calls Try.prog 21 #[.slice a m c] w fun e w' => e = .returned (.int .u64 ((u64r (numLe xs) : Nat) : Int)) ∧ w = w' := by
  unfold maxLen at hl
  have HM := Lib.hid hm
  clear hm
  go_enter Try.func21, Try.ntmps21
  go_wp2
  go_loop [3, 4] (fun v i => ∃ k : Nat, k ≤ m ∧ i = .int .i64 ((k : Int) - 1) ∧ v = .int .u64 ((u64r (numLe (xs.drop k)) : Nat) : Int)) (fun _ i => (intOf i + 1).toNat)
  case atStart => exact ⟨m, Nat.le_refl _, rfl, by rw [← HM.out, List.drop_length]; rfl⟩
  case round =>
    obtain ⟨k, hk, rfl, rfl⟩ := hrel
    by_cases hlt : 0 < k
    · obtain ⟨j, rfl⟩ : ∃ j, k = j + 1 := ⟨k - 1, by omega⟩
      have ej : (((j + 1 : Nat) : Int) - 1) = (j : Int) := by omega
      rw [ej]
      clear ej
      rcases hx with rfl | ⟨b, off, rfl, hb, hcs⟩
      · have := HM.out; simp at this; omega
      have hlj : j < xs.length := by rw [HM.out]; omega
      have hck := hcs j hlj
      clear hcs
      have hj0 : (0 : Int) ≤ (j : Int) := by omega
      have hjm : (j : Int) < (m : Int) := by omega
      have hst := Lib.hid (number_step (numLe (xs.drop (j + 1))) xs[j])
      have hdr := Lib.hid (numLe_drop xs j hlj)
      go_wp2
      go_round
      case rel => exact ⟨j, by omega, rfl, by rw [hdr.out, ← hst.out]⟩
      case measure => simp [intOf]
    · obtain rfl : k = 0 := by omega
      go_wp2
      go_ret
      exact ⟨by simp, rfl⟩

set_option maxHeartbeats 800000 in
theorem bytes_ref (v : Int) (size : Nat) (w : World) (hv : 0 ≤ v) (hv1 : v ≤ 18446744073709551615) (hs : size ≤ 1000) :
    Calls Try.prog 28 #[.int .u64 v, .int .i64 size] w fun e w' => (∃ a c, e = .returned (.slice a size c) ∧ w'.ownsRow w.heap.size 5 1 (.slice a size c) size ((le v size).map bval)) ∧ Below w.heap.size w w' := by
  have HV := Lib.hid hv1
  clear hv1
  go_enter Try.func28, Try.ntmps28
  go_wp2
  go_loopw [0, 5, 7] (fun x s i wr => ∃ k : Nat, k ≤ size ∧ i = .int .i64 k ∧ x = .int .u64 (v / 2 ^ (8 * k)) ∧ (∃ a c, s = .slice a k c ∧ wr.ownsRow w.heap.size 5 1 (.slice a k c) k ((le v k).map bval)) ∧ Below w.heap.size w wr) (fun _ _ i _ => size - (intOf i).toNat)
  case atStart => exact ⟨0, Nat.zero_le _, rfl, by simp, ⟨none, 0, rfl, World.ownsRow_nil _ _ _ _⟩, Below.refl _ _⟩
  case round =>
    obtain ⟨k, hk, rfl, rfl, ⟨a, c, rfl, hr⟩, hb⟩ := hrel
    by_cases hlt : k < size
    · have hk0 : (0 : Int) ≤ (k : Int) := by omega
      have hks : (k : Int) < (size : Int) := by omega
      have hq : 0 ≤ v / 2 ^ (8 * k) := Int.ediv_nonneg hv (Int.pow_nonneg (by decide))
      have hown : (wr.alloc (.cells #[.int .u8 (v / 2 ^ (8 * k) % 256)] 5)).ownsRow w.heap.size 5 1 (.slice a k c) k ((le v k).map bval) :=
        ownsRow_upd (S := fun _ => False) hr ((Upd.refl _ _).alloc _) (fun _ _ h => h)
      have hy : IsBytes (wr.alloc (.cells #[.int .u8 (v / 2 ^ (8 * k) % 256)] 5)) (some ⟨wr.heap.size, 0, none⟩) [byteAt v k] := by
        refine .inr ⟨_, _, rfl, by simp, fun i hi => ?_⟩
        obtain rfl : i = 0 := by simpa using hi
        rw [List.getElem_singleton, byteAt_int]
        simp
      have hbs := hb.size
      have hz : w.heap.size ≤ (wr.alloc (.cells #[.int .u8 (v / 2 ^ (8 * k) % 256)] 5)).heap.size := by simp; omega
      have hlb : k + 1 ≤ 140737488355328 := by omega
      have hsn : Hid (le v (k + 1) = le v k ++ [byteAt v k]) := by
        show le v (k + 1) = le v k ++ [byteAt v k]
        simp [le, List.range_succ]
      have hdv := Lib.hid (div_step v k hv HV.out)
      clear hr
      go_wp2_with (at_builtin; refine wpList_append_bytes rfl _ _ 26 rfl w.heap.size 5 Try.underlying26 u8_info (.slice a k c) k (le v k) rfl hown (some ⟨wr.heap.size, 0, none⟩) [byteAt v k] 1 rfl 1 rfl hy (fun x => by cases x) hlb hz ?_; intro a' c' w' h1 h2 h3)
      go_roundw
      case rel =>
        rw [← hsn.out] at h1
        refine ⟨k + 1, by omega, by go_num, by rw [hdv.out], ⟨a', c', rfl, h1⟩, ?_⟩
        exact (hb.alloc hbs _).grown h2 (by simp; omega) (fun j hj => own_ge hown hj)
      case measure => simp [intOf]; omega
    · obtain rfl : k = size := by omega
      go_wp2
      go_ret
      exact ⟨⟨a, c, rfl, hr⟩, hb⟩
end Go.Proofs.Ytmaoimjfkncnpaa

namespace Go.Proofs.Ytmaoimjfkncnpaa
open Go.RowKit
set_option maxRecDepth 100000

theorem own_empty (w : World) : (w.alloc (.cells #[] 5)).ownsRow w.heap.size 5 1 (.slice (some ⟨w.heap.size, 0, none⟩) 0 0) 0 (([] : List UInt8).map bval) :=
  World.ownsRow_made w #[] 0 (Nat.le_refl _) (Nat.zero_le _) rfl
theorem own_byte (w : World) (x : UInt8) : (w.alloc (.cells #[.int .u8 (x.toNat : Int)] 5)).ownsRow w.heap.size 5 1 (.slice (some ⟨w.heap.size, 0, none⟩) 1 1) 1 ([x].map bval) := by
  refine ⟨rfl, .inr ⟨w.heap.size, 1, #[.int .u8 (x.toNat : Int)], rfl, Nat.le_refl _, heap_alloc_new w _, Nat.le_refl _, by decide, rfl, rfl⟩⟩

theorem wpList_append_own1 {P : Program} {w : World} {ops : Array Oper} {rest : List Oper} {o : Oper} {a : Act} {Q : Exit → Act → World → Prop} (hgd : o.guard = none) (s x : Operand) (t : TypeId)
    (ho : o.op = .call { callee := .builtin .append, args := #[s, x], argTypes := #[t, t] })
    (base : Nat) (e : TypeId) (ht : P.underlying t = some (.slice e)) (hi : (P.info? e).map (fun i => (i.zero, i.size, i.bytes)) = some (some (.int .u8 0), 1, 1))
    (v : Value) (n : Nat) (xs : List UInt8) (hs : a.eval s = v) (hown : w.ownsRow base e 1 v n (xs.map bval))
    (ad : Option Addr) (ys : List UInt8) (m : Nat) (hm : ys.length = m) (c : Nat) (hx : a.eval x = .slice ad m c) (hy : IsBytes w ad ys) (hnc : ad = none → c = 0) (k : Nat) (hk : n + m = k) (hb : k ≤ 140737488355328) (hbase : base ≤ w.heap.size)
    (h : ∀ a' c' w', w'.ownsRow base e 1 (.slice a' k c') k ((xs ++ ys).map bval) → Below base w w' → (∀ g, (Value.slice a' k c').ownBlock = some g → v.ownBlock = some g ∨ w.heap.size ≤ g) → Upd (fun g => v.ownBlock = some g) w w' →
      wpList P ops Q rest (a.put o.dst (.slice a' k c')) w') :
    wpList P ops Q (o :: rest) a w := by
  subst hk
  refine wpList_append_bytes hgd s x t ho base e ht hi v n xs hs hown ad ys m hm c hx hy hnc hb hbase ?_
  intro a' c' w' h1 h2 h3
  exact h a' c' w' h1 ((Below.refl base w).grown h2 hbase (fun k hk => own_ge hown hk)) (fun g hg => (h3 g hg).imp id (fun e => by omega)) ((Upd.refl _ _).grown h2 (fun k hk => .inl hk))

end Go.Proofs.Ytmaoimjfkncnpaa
