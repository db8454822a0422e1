/-
  The codec statements' own answer for a number of 1 bytes. Conditions: those of the theorem.
-/
import Derived.Test.YtljoalihioflmaaItemsB
namespace Go.Proofs.Ytljoalihioflmaa
open Go.RowKit
set_option maxRecDepth 100000

set_option maxHeartbeats 1600000 in
theorem bytes_k0 (V L : Int) (F : Bool) (a : Option Addr) (B : List UInt8) (c : Nat) (w : World) :
    Calls Try.prog 34 #[.agg #[.int .u8 0, .int .i64 V, .int .i64 L, .bool F, .slice a B.length c]] w (BytesOut w (le (IntKind.u64.wrap V) 1) (fits V 1)) := by
  have A0 : Below w.heap.size w (w.alloc (.cells #[.int .u8 0, .int .i64 V, .int .i64 L, .bool F, .slice a B.length c] 60)) := upd_box _
  have hq : w.heap.size < (w.alloc (.cells #[.int .u8 0, .int .i64 V, .int .i64 L, .bool F, .slice a B.length c] 60)).heap.size := by simp
  have c0 : (w.alloc (.cells #[.int .u8 0, .int .i64 V, .int .i64 L, .bool F, .slice a B.length c] 60)).cell? ⟨w.heap.size, 0, none⟩ = some (.int .u8 0) := by simp
  have c1 : (w.alloc (.cells #[.int .u8 0, .int .i64 V, .int .i64 L, .bool F, .slice a B.length c] 60)).cell? ⟨w.heap.size, 1, none⟩ = some (.int .i64 V) := by simp
  go_enter Try.func34, Try.ntmps34
  go_wp2_with fail
  have b0 := Below.refl (w.alloc (.cells #[.int .u8 0, .int .i64 V, .int .i64 L, .bool F, .slice a B.length c] 60)).heap.size (w.alloc (.cells #[.int .u8 0, .int .i64 V, .int .i64 L, .bool F, .slice a B.length c] 60))
  generalize w.alloc (.cells #[.int .u8 0, .int .i64 V, .int .i64 L, .bool F, .slice a B.length c] 60) = W at *
  by_cases h0 : 0 ≤ V
  · have hfit : Hid (fits V 1 = decide (V < 256)) := by
      show fits V 1 = decide (V < 256)
      have : (2 : Int) ^ (8 * 1) = 256 := by decide
      simp [fits, h0, this]
    have w8 : IntKind.i64.wrap 8 = 8 := by decide
    have w9 : IntKind.i64.wrap 256 = 256 := by decide
    go_region_held3 (fun w' => Below W.heap.size W w' ∧ w'.cell? ⟨w.heap.size, 1, none⟩ = some (.int .i64 V))
      (refine ⟨?_, (Below.cell (p := ⟨w.heap.size, 1, none⟩) (B := W.heap.size) ?_ hq).trans c1⟩ <;> (first | assumption | exact Below.drew (by assumption)))
      ((go_at_call 68; refine Calls.mono (bytes_over (W := W) (B := W.heap.size) ?_ (Nat.le_refl _) V 1 (by decide)) ?_; (first | assumption | exact Below.drew (by assumption)); rintro e w2 ⟨a2, c2, rfl, hr2, b2, _⟩))
    all_goals
      go_wp2
      go_ret2
      exact bytesOut_mk A0 b2 (le_length _ _) hr2 hfit.out
  · have hd : decide (0 ≤ V) = false := by simpa using h0
    have hfit : Hid (fits V 1 = false) := by
      show fits V 1 = false
      simp [fits, h0]
    have h0' : V < 0 := by omega
    clear h0
    first
      | (go_region_with (go_at_call 68; refine Calls.mono (bytes_over (W := W) (B := W.heap.size) ?_ (Nat.le_refl _) V 1 (by decide)) ?_; (first | assumption | exact Below.drew (by assumption)); rintro e w2 ⟨a2, c2, rfl, hr2, b2, _⟩; have y1 := (Below.cell (p := ⟨w.heap.size, 1, none⟩) b2 hq).trans c1))
      | fail
    all_goals
      go_wp2
      go_ret2
      exact bytesOut_mk A0 b2 (le_length _ _) hr2 hfit.out
end Go.Proofs.Ytljoalihioflmaa
