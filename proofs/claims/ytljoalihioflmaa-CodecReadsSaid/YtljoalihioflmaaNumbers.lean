/-
  The document's numbers: recoupref01.Number and Bytes. Conditions: those of each theorem.
-/
import Derived.Test.YtljoalihioflmaaCodec
import Derived.Test.YtljoalihioflmaaCodecB
namespace Go.Proofs.Ytljoalihioflmaa
open Go.RowKit
set_option maxRecDepth 100000

theorem numLe_drop (xs : List UInt8) (k : Nat) (h : k < xs.length) : numLe (xs.drop k) = xs[k].toNat + 256 * numLe (xs.drop (k + 1)) := by
  rw [List.drop_eq_getElem_cons h, numLe]

/-- What goes round at 2^64. -/
def u64r (n : Nat) : Nat := n % 2 ^ 64
theorem u64r_small {n : Nat} (h : n < 2 ^ 64) : u64r n = n := Nat.mod_eq_of_lt h
theorem number_step (n : Nat) (b : UInt8) : IntKind.u64.wrap (IntKind.u64.wrap (((u64r n : Nat) : Int) * 256) + IntKind.u64.wrap (b.toNat : Int)) = ((u64r (b.toNat + 256 * n) : Nat) : Int) := by
  unfold u64r
  have hb := b.toNat_lt
  have e : ∀ z : Int, IntKind.u64.wrap z = z % 18446744073709551616 := fun z => by simp [IntKind.wrap, IntKind.signed, IntKind.bits]
  rw [e, e, e]
  omega

set_option maxHeartbeats 800000 in
theorem number_ref (a : Option Addr) (xs : List UInt8) (m c : Nat) (w : World) (hm : xs.length = m) (hx : IsBytes w a xs) (hl : m ≤ maxLen) :
    Calls Try.prog 47 #[.slice a m c] w fun e w' => e = .returned (.int .u64 ((u64r (numLe xs) : Nat) : Int)) ∧ w = w' := by
  unfold maxLen at hl
  have HM := Lib.hid hm
  clear hm
  go_enter Try.func47, Try.ntmps47
  go_wp2
  go_loop [3, 4] (fun v i => ∃ k : Nat, k ≤ m ∧ i = .int .i64 ((k : Int) - 1) ∧ v = .int .u64 ((u64r (numLe (xs.drop k)) : Nat) : Int)) (fun _ i => (intOf i + 1).toNat)
  case atStart => exact ⟨m, Nat.le_refl _, rfl, by rw [← HM.out, List.drop_length]; rfl⟩
  case round =>
    obtain ⟨k, hk, rfl, rfl⟩ := hrel
    by_cases hlt : 0 < k
    · obtain ⟨j, rfl⟩ : ∃ j, k = j + 1 := ⟨k - 1, by omega⟩
      have ej : (((j + 1 : Nat) : Int) - 1) = (j : Int) := by omega
      rw [ej]
      clear ej
      rcases hx with rfl | ⟨b, off, rfl, hb, hcs⟩
      · have := HM.out; simp at this; omega
      have hlj : j < xs.length := by rw [HM.out]; omega
      have hck := hcs j hlj
      clear hcs
      have hj0 : (0 : Int) ≤ (j : Int) := by omega
      have hjm : (j : Int) < (m : Int) := by omega
      have hst := Lib.hid (number_step (numLe (xs.drop (j + 1))) xs[j])
      have hdr := Lib.hid (numLe_drop xs j hlj)
      go_wp2
      go_round
      case rel => exact ⟨j, by omega, rfl, by rw [hdr.out, ← hst.out]⟩
      case measure => simp [intOf]
    · obtain rfl : k = 0 := by omega
      go_wp2
      go_ret
      exact ⟨by simp, rfl⟩

theorem div_step (v : Int) (k : Nat) (h0 : 0 ≤ v) (h1 : v ≤ 18446744073709551615) : IntKind.u64.wrap ((v / 2 ^ (8 * k)).tdiv 256) = v / 2 ^ (8 * (k + 1)) := by
  have hp : (0 : Int) < 2 ^ (8 * k) := Int.pow_pos (by decide)
  have hq : 0 ≤ v / 2 ^ (8 * k) := Int.ediv_nonneg h0 (by omega)
  have hle : v / 2 ^ (8 * k) ≤ v := Int.ediv_le_self _ h0
  have e1 : (v / 2 ^ (8 * k)).tdiv 256 = v / 2 ^ (8 * (k + 1)) := by
    rw [Int.tdiv_eq_ediv_of_nonneg hq, Int.ediv_ediv_of_nonneg (by omega), show (256 : Int) = 2 ^ 8 from rfl, ← Int.pow_add, show 8 * (k + 1) = 8 * k + 8 by omega]
  have e : ∀ z : Int, IntKind.u64.wrap z = z % 18446744073709551616 := fun z => by simp [IntKind.wrap, IntKind.signed, IntKind.bits]
  have e2 : (v / 2 ^ (8 * k)).tdiv 256 = v / 2 ^ (8 * k) / 256 := Int.tdiv_eq_ediv_of_nonneg hq
  rw [← e1, e, e2]
  generalize v / 2 ^ (8 * k) = z at *
  omega
theorem own_ge {w : World} {base : Nat} {e : TypeId} {size : Nat} {v : Value} {n : Nat} {xs : List Value} (h : w.ownsRow base e size v n xs) {g : Nat} (hg : v.ownBlock = some g) : base ≤ g := by
  rcases h.2 with ⟨hv, _⟩ | ⟨g', cap, cur, hv, hb, _⟩
  · subst hv; cases hg
  · subst hv
    obtain rfl : g' = g := by simpa [Value.ownBlock] using hg
    exact hb

set_option maxHeartbeats 800000 in
theorem bytes_ref (v : Int) (size : Nat) (w : World) (hv : 0 ≤ v) (hv1 : v ≤ 18446744073709551615) (hs : size ≤ 1000) :
    Calls Try.prog 68 #[.int .u64 v, .int .i64 size] w fun e w' => (∃ a c, e = .returned (.slice a size c) ∧ w'.ownsRow w.heap.size 5 1 (.slice a size c) size ((le v size).map bval)) ∧ Below w.heap.size w w' := by
  have HV := Lib.hid hv1
  clear hv1
  go_enter Try.func68, Try.ntmps68
  go_wp2
  go_loopw [0, 5, 7] (fun x s i wr => ∃ k : Nat, k ≤ size ∧ i = .int .i64 k ∧ x = .int .u64 (v / 2 ^ (8 * k)) ∧ (∃ a c, s = .slice a k c ∧ wr.ownsRow w.heap.size 5 1 (.slice a k c) k ((le v k).map bval)) ∧ Below w.heap.size w wr) (fun _ _ i _ => size - (intOf i).toNat)
  case atStart => exact ⟨0, Nat.zero_le _, rfl, by simp, ⟨none, 0, rfl, World.ownsRow_nil _ _ _ _⟩, Below.refl _ _⟩
  case round =>
    obtain ⟨k, hk, rfl, rfl, ⟨a, c, rfl, hr⟩, hb⟩ := hrel
    by_cases hlt : k < size
    · have hk0 : (0 : Int) ≤ (k : Int) := by omega
      have hks : (k : Int) < (size : Int) := by omega
      have hq : 0 ≤ v / 2 ^ (8 * k) := Int.ediv_nonneg hv (Int.pow_nonneg (by decide))
      have hown : (wr.alloc (.cells #[.int .u8 (v / 2 ^ (8 * k) % 256)] 5)).ownsRow w.heap.size 5 1 (.slice a k c) k ((le v k).map bval) :=
        ownsRow_upd (S := fun _ => False) hr ((Upd.refl _ _).alloc _) (fun _ _ h => h)
      have hy : IsBytes (wr.alloc (.cells #[.int .u8 (v / 2 ^ (8 * k) % 256)] 5)) (some ⟨wr.heap.size, 0, none⟩) [byteAt v k] := by
        refine .inr ⟨_, _, rfl, by simp, fun i hi => ?_⟩
        obtain rfl : i = 0 := by simpa using hi
        rw [List.getElem_singleton, byteAt_int]
        simp
      have hbs := hb.size
      have hz : w.heap.size ≤ (wr.alloc (.cells #[.int .u8 (v / 2 ^ (8 * k) % 256)] 5)).heap.size := by simp; omega
      have hlb : k + 1 ≤ 140737488355328 := by omega
      have hsn : Hid (le v (k + 1) = le v k ++ [byteAt v k]) := by
        show le v (k + 1) = le v k ++ [byteAt v k]
        simp [le, List.range_succ]
      have hdv := Lib.hid (div_step v k hv HV.out)
      clear hr
      go_wp2_with (at_builtin; refine wpList_append_bytes rfl _ _ 31 rfl w.heap.size 5 Try.underlying31 u8_info (.slice a k c) k (le v k) rfl hown (some ⟨wr.heap.size, 0, none⟩) [byteAt v k] 1 rfl 1 rfl hy (fun x => by cases x) hlb hz ?_; intro a' c' w' h1 h2 h3)
      go_roundw
      case rel =>
        rw [← hsn.out] at h1
        refine ⟨k + 1, by omega, by go_num, by rw [hdv.out], ⟨a', c', rfl, h1⟩, ?_⟩
        exact (hb.alloc hbs _).grown h2 (by simp; omega) (fun j hj => own_ge hown hj)
      case measure => simp [intOf]; omega
    · obtain rfl : k = size := by omega
      go_wp2
      go_ret
      exact ⟨⟨a, c, rfl, hr⟩, hb⟩
end Go.Proofs.Ytljoalihioflmaa
