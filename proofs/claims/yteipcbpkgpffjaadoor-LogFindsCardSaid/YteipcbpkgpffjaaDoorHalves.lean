/-
  The table of the sums of half bytes, as memory holds it, and the code's Sum. Conditions: those of each theorem ('HalvesAt': memory holds the table).
-/
import Derived.Test.YteipcbpkgpffjaaDoorSum
namespace Go.Proofs.YteipcbpkgpffjaaDoor
open Go.RowKit
set_option maxRecDepth 100000

/-- Memory holds the table. -/
structure HalvesAt (w : World) : Prop where
  lt : 0 < w.heap.size
  val : ∀ i, i < 16 → w.cell? ⟨0, i, none⟩ = some (.int .u32 (crcIter 4 i : Nat))
theorem HalvesAt.below {w w' : World} (h : HalvesAt w) (hb : Below w.heap.size w w') : HalvesAt w' :=
  ⟨Nat.lt_of_lt_of_le h.lt hb.size, fun i hi => (hb.cell (p := ⟨0, i, none⟩) h.lt).trans (h.val i hi)⟩
theorem bits_and15 {a : Nat} (ha : a < 2 ^ 32) : bits .and .u32 (a : Int) 15 = ((a % 16 : Nat) : Int) := by
  have h := bits_and_u32 (b := 15) ha (by decide)
  rw [show 15 = 2 ^ 4 - 1 by rfl, Nat.and_two_pow_sub_one_eq_mod] at h
  exact h
/-- Half a byte. -/
theorem crcIter_half (s : Nat) : crcIter 4 s = (s / 16) ^^^ crcIter 4 (s % 16) := by
  rw [crcIter_table 4 s, Nat.xor_comm]
theorem crcIter_add (a b s : Nat) : crcIter (a + b) s = crcIter b (crcIter a s) := by
  induction a generalizing s with
  | zero => simp [crcIter]
  | succ a ih => rw [Nat.succ_add]; simp only [crcIter]; exact ih _
theorem crcByte_halves (s b : Nat) : crcByte s b = crcIter 4 (crcIter 4 (s ^^^ b)) := crcIter_add 4 4 _

/-- Both halves of a byte. -/
theorem halves_round {w : World} (hH : HalvesAt w) {T0 : Nat} (h0 : T0 < 2 ^ 32) : ∃ T1 T2 a1 a2 : Nat, ∃ h1 h2 : Nat, w.cell? ⟨0, a1, none⟩ = some (.int .u32 (h1 : Int)) ∧ w.cell? ⟨0, a2, none⟩ = some (.int .u32 (h2 : Int)) ∧
    (a1 : Int) < 16 ∧ (a2 : Int) < 16 ∧ (bits .and .u32 (T0 : Int) 15 = (a1 : Int) ∧ bits .xor .u32 ((T0 : Int) / 16) (h1 : Int) = (T1 : Int)) ∧ (bits .and .u32 (T1 : Int) 15 = (a2 : Int) ∧ bits .xor .u32 ((T1 : Int) / 16) (h2 : Int) = (T2 : Int)) ∧ crcIter 4 (crcIter 4 T0) = T2 := by
  have step : ∀ T : Nat, T < 2 ^ 32 → bits .xor .u32 ((T : Int) / 16) ((crcIter 4 (T % 16) : Nat) : Int) = ((crcIter 4 T : Nat) : Int) := fun T hT => by
    have e : (T : Int) / 16 = ((T / 16 : Nat) : Int) := by omega
    have hh : crcIter 4 (T % 16) < 2 ^ 32 := crcIter_lt 4 (by omega)
    rw [e, bits_xor_u32 (by omega) hh, ← crcIter_half]
  have h1 := crcIter_lt 4 h0
  exact ⟨crcIter 4 T0, crcIter 4 (crcIter 4 T0), T0 % 16, crcIter 4 T0 % 16, _, _, hH.val _ (by omega), hH.val _ (by omega), by omega, by omega, ⟨bits_and15 h0, step _ h0⟩, ⟨bits_and15 h1, step _ h1⟩, rfl⟩

set_option maxHeartbeats 800000 in
theorem code_sum (a : Option Addr) (xs : List UInt8) (n c : Nat) (w : World) (hH : HalvesAt w) (hn : xs.length = n) (hx : IsBytes w a xs) (hl : n ≤ maxLen) :
    Calls Tryd.prog 77 #[.slice a n c] w fun e w' => e = .returned (.int .u32 (crcSum xs : Nat)) ∧ w = w' := by
  unfold maxLen at hl
  have HN := Lib.hid hn
  have HH := Lib.hid hH
  clear hn hH
  go_enter Tryd.func77, Tryd.ntmps77
  go_wp2
  go_loop [3, 5, 8] (fun s _ i => ∃ k : Nat, k ≤ n ∧ i = .int .i64 k ∧ s = .int .u32 (crcList 4294967295 (xs.take k) : Nat)) (fun _ _ i => n - (intOf i).toNat)
  case atStart => exact ⟨0, Nat.zero_le _, rfl, rfl⟩
  case round =>
    obtain ⟨k, hk, rfl, rfl⟩ := hrel
    by_cases hlt : k < n
    · rcases hx with rfl | ⟨b, off, rfl, hb, hcs⟩
      · have := HN.out; simp at this; omega
      have hlk : k < xs.length := by rw [HN.out]; exact hlt
      have hck := hcs k hlk
      clear hcs
      have hk0 : (0 : Int) ≤ (k : Int) := by omega
      have hkn : (k : Int) < (n : Int) := by omega
      have hsn : Hid (crcList 4294967295 (xs.take (k + 1)) = crcByte (crcList 4294967295 (xs.take k)) xs[k].toNat) := by
        show crcList 4294967295 (xs.take (k + 1)) = crcByte (crcList 4294967295 (xs.take k)) xs[k].toNat
        rw [List.take_succ_eq_append_getElem hlk, crcList_snoc]
      have hS := crcList_lt (s := 4294967295) (xs.take k) (by decide)
      have hb8 := xs[k].toNat_lt
      generalize crcList 4294967295 (xs.take k) = S at *
      generalize xs[k].toNat = B at *
      have hT0 : S ^^^ B < 2 ^ 32 := Nat.xor_lt_two_pow hS (by omega)
      have e0 : bits .xor .u32 (S : Int) (B : Int) = ((S ^^^ B : Nat) : Int) := bits_xor_u32 hS (by omega)
      rw [crcByte_halves] at hsn
      generalize S ^^^ B = T0 at *
      obtain ⟨T1, T2, a1, a2, h1, h2, c1, c2, l1, l2, ⟨x1, y1⟩, ⟨x2, y2⟩, r⟩ := halves_round HH.out hT0
      rw [r] at hsn
      clear r
      go_wp2
      go_round
      case rel => exact ⟨k + 1, by omega, by go_num, by rw [hsn.out]⟩
      case measure => simp [intOf]; omega
    · obtain rfl : k = n := by omega
      have hf : Hid (xs.take k = xs) := by
        show xs.take k = xs
        rw [← HN.out, List.take_length]
      have hxr : Hid (bits .xor .u32 IntKind.u32.max ((crcList 4294967295 (xs.take k) : Nat) : Int) = ((crcSum xs : Nat) : Int)) := by
        show bits .xor .u32 ((4294967295 : Nat) : Int) ((crcList 4294967295 (xs.take k) : Nat) : Int) = ((crcSum xs : Nat) : Int)
        rw [bits_xor_u32 (by decide) (crcList_lt _ (by decide)), hf.out, Nat.xor_comm]
        rfl
      go_wp2
      go_ret
      exact ⟨congrArg (fun z => Ending.returned (Value.int .u32 z)) hxr.out, rfl⟩
end Go.Proofs.YteipcbpkgpffjaaDoor
