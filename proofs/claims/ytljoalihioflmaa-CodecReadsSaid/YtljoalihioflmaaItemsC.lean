/-
  The codec statements' own answer, of any item. Conditions: those of each theorem.
-/
import Derived.Test.YtljoalihioflmaaItemsB0
import Derived.Test.YtljoalihioflmaaItemsB1
import Derived.Test.YtljoalihioflmaaItemsB2
namespace Go.Proofs.Ytljoalihioflmaa
open Go.RowKit
set_option maxRecDepth 100000

set_option maxHeartbeats 800000 in
theorem bytes_k3 (V L : Int) (F : Bool) (a : Option Addr) (B : List UInt8) (c : Nat) (w : World) :
    Calls Try.prog 34 #[.agg #[.int .u8 3, .int .i64 V, .int .i64 L, .bool F, .slice a B.length c]] w (BytesOut w (le (IntKind.u64.wrap L) 8) true) := by
  have A0 : Below w.heap.size w (w.alloc (.cells #[.int .u8 3, .int .i64 V, .int .i64 L, .bool F, .slice a B.length c] 60)) := upd_box _
  go_enter Try.func34, Try.ntmps34
  go_wp2_with fail
  refine (bytes_ref _ 8 _ (u64_lo L).1 (u64_lo L).2 (by decide)).mono ?_
  rintro e w2 ⟨⟨a2, c2, rfl, hr2⟩, b2⟩
  go_wp2
  go_ret2
  exact bytesOut_mk A0 b2 (le_length _ _) hr2 rfl

set_option maxHeartbeats 800000 in
theorem bytes_k4 (V L : Int) (F : Bool) (a : Option Addr) (B : List UInt8) (c : Nat) (w : World) :
    Calls Try.prog 34 #[.agg #[.int .u8 4, .int .i64 V, .int .i64 L, .bool F, .slice a B.length c]] w (BytesOut w [if F then 1 else 0] true) := by
  have A0 : Below w.heap.size w (w.alloc (.cells #[.int .u8 4, .int .i64 V, .int .i64 L, .bool F, .slice a B.length c] 60)) := upd_box _
  cases F
  · go_enter Try.func34, Try.ntmps34
    go_wp2
    go_ret2
    refine ⟨_, 1, rfl, .inr ⟨_, _, rfl, by simp, fun i hi => ?_⟩, (fun x => by cases x), A0.alloc A0.size _⟩
    obtain rfl : i = 0 := by simpa using hi
    simp
  · go_enter Try.func34, Try.ntmps34
    go_wp2
    go_ret2
    refine ⟨_, 1, rfl, .inr ⟨_, _, rfl, by simp, fun i hi => ?_⟩, (fun x => by cases x), A0.alloc A0.size _⟩
    obtain rfl : i = 0 := by simpa using hi
    simp

set_option maxHeartbeats 800000 in
theorem bytes_k6 (k V L : Int) (F : Bool) (a : Option Addr) (B : List UInt8) (c : Nat) (w : World) (hk : 5 < k) (hx : IsBytes w a B) (hnc : a = none → c = 0) :
    Calls Try.prog 34 #[.agg #[.int .u8 k, .int .i64 V, .int .i64 L, .bool F, .slice a B.length c]] w (BytesOut w B true) := by
  have A0 : Below w.heap.size w (w.alloc (.cells #[.int .u8 k, .int .i64 V, .int .i64 L, .bool F, .slice a B.length c] 60)) := upd_box _
  have b0 : (k == 0) = false := by simp; omega
  have b1 : (k == 1) = false := by simp; omega
  have b2 : (k == 2) = false := by simp; omega
  have b3 : (k == 3) = false := by simp; omega
  have b4 : (k == 4) = false := by simp; omega
  have b5 : (k == 5) = false := by simp; omega
  go_enter Try.func34, Try.ntmps34
  go_wp2
  go_ret2
  exact ⟨a, c, rfl, hx.upd (below_upd (fun _ => False) A0) (fun _ _ _ h => h), hnc, A0⟩

theorem bytes_over0 {W w : World} {B : Nat} (hb : Below B W w) (hB : B ≤ W.heap.size) (v : Int) (size : Nat) (h0 : 0 ≤ v) (h1 : v ≤ 18446744073709551615) (hs : size ≤ 1000) :
    Calls Try.prog 68 #[.int .u64 v, .int .i64 size] w fun e w' => ∃ a c, e = .returned (.slice a size c) ∧ w'.ownsRow B 5 1 (.slice a size c) size ((le v size).map bval) ∧ Below B W w' ∧ Below w.heap.size w w' :=
  (bytes_ref _ size w h0 h1 hs).mono fun _ _ ⟨⟨a, c, h1, h2⟩, h3⟩ => ⟨a, c, h1, row_mono h2 (Nat.le_trans hB hb.size), hb.trans (h3.mono (Nat.le_trans hB hb.size)), h3⟩

set_option maxHeartbeats 1600000 in
theorem bytes_k5 (V L : Int) (F : Bool) (a : Option Addr) (B : List UInt8) (c : Nat) (w : World) (hx : IsBytes w a B) (hnc : a = none → c = 0) (hl : B.length ≤ 1000000) :
    Calls Try.prog 34 #[.agg #[.int .u8 5, .int .i64 V, .int .i64 L, .bool F, .slice a B.length c]] w (BytesOut w (le B.length 2 ++ B) (decide (B.length < 65536))) := by
  have A0 : Below w.heap.size w (w.alloc (.cells #[.int .u8 5, .int .i64 V, .int .i64 L, .bool F, .slice a B.length c] 60)) := upd_box _
  have hq : w.heap.size < (w.alloc (.cells #[.int .u8 5, .int .i64 V, .int .i64 L, .bool F, .slice a B.length c] 60)).heap.size := by simp
  have c0 : (w.alloc (.cells #[.int .u8 5, .int .i64 V, .int .i64 L, .bool F, .slice a B.length c] 60)).cell? ⟨w.heap.size, 0, none⟩ = some (.int .u8 5) := by simp
  have c4 : (w.alloc (.cells #[.int .u8 5, .int .i64 V, .int .i64 L, .bool F, .slice a B.length c] 60)).cell? ⟨w.heap.size, 4, none⟩ = some (.slice a B.length c) := by simp
  have hxW : IsBytes (w.alloc (.cells #[.int .u8 5, .int .i64 V, .int .i64 L, .bool F, .slice a B.length c] 60)) a B := hx.upd (below_upd (fun _ => False) A0) (fun _ _ _ h => h)
  have HL := Lib.hid hl
  have hwl : IntKind.u64.wrap (B.length : Int) = B.length := u64_pos ⟨by omega, by omega⟩ (by omega)
  go_enter Try.func34, Try.ntmps34
  go_wp2_with fail
  have b0 := Below.refl (w.alloc (.cells #[.int .u8 5, .int .i64 V, .int .i64 L, .bool F, .slice a B.length c] 60)).heap.size (w.alloc (.cells #[.int .u8 5, .int .i64 V, .int .i64 L, .bool F, .slice a B.length c] 60))
  generalize w.alloc (.cells #[.int .u8 5, .int .i64 V, .int .i64 L, .bool F, .slice a B.length c] 60) = W at *
  go_region_held3 (fun w' => Below W.heap.size W w' ∧ w'.cell? ⟨w.heap.size, 4, none⟩ = some (.slice a B.length c))
    (refine ⟨?_, (Below.cell (p := ⟨w.heap.size, 4, none⟩) (B := W.heap.size) ?_ hq).trans c4⟩ <;> (first | assumption | exact Below.drew (by assumption)))
    (first
      | (refine step_append_bytes (by rfl) _ _ 31 (by rfl) W.heap.size 5 Try.underlying31 u8_info (.slice a2 2 c2) 2 (le B.length 2) (by kernel_rfl) hr2 a B B.length rfl c (by kernel_rfl) (hxW.upd (below_upd (fun _ => False) b2) (fun _ _ _ h => h)) hnc (by have := HL.out; omega) b2.size ?_; intro a3 c3 w3 hr3 hg3 hn3; have b3 := b2.grown hg3 b2.size (fun k hk => own_ge hr2 hk))
      | (go_at_call 68; refine Calls.mono (bytes_over0 (W := W) (B := W.heap.size) ?_ (Nat.le_refl _) B.length 2 (by omega) (by have := HL.out; omega) (by decide)) ?_; (first | assumption | exact Below.drew (by assumption)); rintro e w2 ⟨a2, c2, rfl, hr2, b2, _⟩))
  all_goals
    go_wp2
    go_ret2
    refine bytesOut_mk A0 b3 ?_ hr3 ?_
    · rw [List.length_append, le_length]
    · rw [Bool.eq_iff_iff]; simp; omega
end Go.Proofs.Ytljoalihioflmaa
