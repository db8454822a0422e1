/-
  The law OutboxNil of layer 13 returns true whatever its argument is, and leaves it as it was. No condition.
-/
import Derived.Test.YtcnheikckfhniaaOutLaw
import Derived.Test.YtcnheikckfhniaaOutDrop
import Derived.Test.YtcnheikckfhniaaOutAgn
namespace Go.Proofs.Ytcnheikckfhniaa
open Go.RowKit
set_option maxRecDepth 100000

theorem ostruct {P : Program} {w : World} {t : TypeId} {fs : Array Field} {v : Value} {r : Reach} {base : Nat} (hv : Value.okWide P w r base t v) (ht : P.underlying t = some (.struct fs)) : v = .agg v.cells := by
  simp only [Value.okWide, ht] at hv
  obtain ⟨cs, rfl, _⟩ := hv
  rfl
theorem val_oact {w : World} {v : Value} {r : Reach} {base : Nat} (hv : Value.okWide Try.prog w r base 28 v) (h : Rd Try.prog w 28 v.cells.toList) : ∃ x : OSct, v = .agg #[.int .u8 x.k, .int .i64 x.A, .int .i64 x.B, .int .i64 x.V, .int .i64 x.D] := by
  have e := ostruct hv Try.underlying28
  obtain ⟨x, h1, _⟩ := rd_act h
  refine ⟨x, ?_⟩
  rw [e]
  congr 1
  exact Array.toList_inj.1 h1
theorem out_next_nil (w : World) : Calls Try.prog 17 #[.pointer none] w fun e w' => e = .returned (.int .i64 0) ∧ w = w' := by
  go_enter Try.func17, Try.ntmps17
  go_wp2
  go_ret
  exact ⟨rfl, rfl⟩
theorem out_clone_nil (w : World) : Calls Try.prog 22 #[.pointer none] w fun e w' => e = .returned (.pointer none) ∧ w = w' := by
  go_enter Try.func22, Try.ntmps22
  go_wp2
  go_ret
  exact ⟨rfl, rfl⟩
set_option maxHeartbeats 2000000 in
theorem outboxNil_law (x : OSct) (w : World) : Calls Try.prog 7 #[.agg #[.int .u8 x.k, .int .i64 x.A, .int .i64 x.B, .int .i64 x.V, .int .i64 x.D]] w fun e w' => e = .returned (.bool true) ∧ Below w.heap.size w w' := by
  obtain ⟨k, A, B, V, D⟩ := x
  dsimp only
  have H0 : Aside (Below w.heap.size w (w.alloc (.cells #[.int .u8 k, .int .i64 A, .int .i64 B, .int .i64 V, .int .i64 D] 28))) := upd_box _
  have HA : Aside _ := out_awake (w.alloc (.cells #[.int .u8 k, .int .i64 A, .int .i64 B, .int .i64 V, .int .i64 D] 28))
  have A0 := arr_new w #[.int .u8 k, .int .i64 A, .int .i64 B, .int .i64 V, .int .i64 D] 28
  go_enter Try.func7, Try.ntmps7
  go_wp2_with fail
  refine Calls.mono HA.out ?_
  rintro e w1 ⟨rfl, b1⟩
  have HB : Aside (Below w.heap.size w w1) := H0.out.trans (b1.mono (by simp))
  have A1 := A0.grown b1
  have x1 := A1.cells 1 _ rfl
  clear b1 HA A0 H0
  go_wp2_with fail
  refine Calls.mono (out_heard_nil A w1) ?_
  rintro e w2 ⟨rfl, b2⟩
  have HB2 : Aside (Below w.heap.size w (w2.alloc (.cells #[.int .i64 msg0.key, .int .i64 msg0.kind, .int .i64 msg0.rma, .int .i64 msg0.value, .int .i64 msg0.tries, .int .i64 msg0.due] 31))) := (HB.out.trans (b2.mono HB.out.size)).alloc (Nat.le_trans HB.out.size b2.size) _
  have A2 := (A1.grown b2).grown (upd_box (.cells #[.int .i64 msg0.key, .int .i64 msg0.kind, .int .i64 msg0.rma, .int .i64 msg0.value, .int .i64 msg0.tries, .int .i64 msg0.due] 31))
  have y1 := A2.cells 1 _ rfl
  have y2 := A2.cells 2 _ rfl
  have y3 := A2.cells 3 _ rfl
  have y4 := A2.cells 4 _ rfl
  have HX : Hid (w.heap.size < (w2.alloc (.cells #[.int .i64 msg0.key, .int .i64 msg0.kind, .int .i64 msg0.rma, .int .i64 msg0.value, .int .i64 msg0.tries, .int .i64 msg0.due] 31)).heap.size) := A2.lt
  clear b2 A1 x1 HB A2
  unfold msg0 at *
  dsimp only at *
  go_wp2_with fail
  generalize w2.alloc (.cells #[.int .i64 0, .int .i64 0, .int .i64 0, .int .i64 0, .int .i64 0, .int .i64 0] 31) = w3 at *
  have hself := msg_self 9998 msg0
  unfold msg0 at hself
  dsimp only at hself
  refine Calls.mono (out_again_nil D w3) ?_
  rintro e w4 ⟨rfl, rfl⟩
  go_wp2_with fail
  refine Calls.mono (out_put_nil A B V D w3) ?_
  rintro e w4 ⟨rfl, b4⟩
  have HB4 : Aside (Below w.heap.size w w4) := HB2.out.trans (b4.mono HB2.out.size)
  have hl3 : w.heap.size < w3.heap.size := HX.out
  have z1 := (b4.cell (p := ⟨w.heap.size, 1, none⟩) hl3).trans y1
  have z2 := (b4.cell (p := ⟨w.heap.size, 2, none⟩) hl3).trans y2
  clear b4 y1 y2 y3 y4 HB2
  unfold msg0
  dsimp only
  go_wp2_with fail
  refine Calls.mono (out_drop_nil A B w4) ?_
  rintro e w5 ⟨rfl, rfl⟩
  go_wp2_with fail
  refine Calls.mono (out_waits_nil A w4) ?_
  rintro e w5 ⟨rfl, rfl⟩
  go_wp2_with fail
  refine Calls.mono (out_all_nil w4) ?_
  rintro e w5 ⟨rfl, rfl⟩
  go_wp2_with fail
  refine Calls.mono (out_next_nil w4) ?_
  rintro e w5 ⟨rfl, rfl⟩
  go_wp2_with fail
  refine Calls.mono (out_clone_nil w4) ?_
  rintro e w5 ⟨rfl, rfl⟩
  go_wp2
  go_ret
  exact ⟨rfl, HB4.out⟩

theorem outboxNil_contract (W : World) (args : Array Value) (h : Each Try.prog W Try.f7.params.toList args.toList) :
    Calls Try.prog 7 args W fun e W' => e = .returned (.bool true) ∧ Below W.heap.size W W' := by
  rw [Try.params7] at h
  obtain ⟨v0, r0, e0, ⟨_, o0⟩, d0, h⟩ := h.cons
  obtain rfl := h.nil
  obtain ⟨args⟩ := args
  obtain rfl : args = [v0] := e0
  obtain ⟨g0, rfl⟩ := val_oact o0 d0
  exact outboxNil_law g0 W

theorem outboxNil_lifted (os : Os) (started : os.Started) (H : Type) (enc : TypeId × Value → H) :
    ReturnsInHanded {} Try.checked os 7 .any (Rows.outboxNilSpec.pre6 enc Try.prog Try.f7 Rows.outboxNilRow.domain false) (Rows.outboxNilSpec.post enc Try.prog Try.f7 false true false false) :=
  law_lifted (C := Try.checked) seat_own seat_laid (by kernel_rfl) Try.func7 rfl (tb := 4) rfl Try.underlying4
    (by
      rw [Try.params7]; intro t ht; simp at ht
      obtain rfl := ht; exact ⟨by kernel_rfl, of_decide_eq_true (by kernel_rfl)⟩)
    (fun H ds hl => by
      rw [Try.params7] at hl
      match ds, hl with
      | [d1], _ => rfl)
    os started H enc
    (ChangeSpec.witness6 (enc := enc) (C := Try.checked) false ⟨#[], #[.agg #[.int .u8 0, .int .i64 0, .int .i64 0, .int .i64 0, .int .i64 0]], []⟩ 8 (by kernel_rfl) (by kernel_rfl) (by kernel_rfl) (by kernel_rfl))
    outboxNil_contract

theorem outboxNil_holds : Rows.OutboxNilSaid :=
  OpenClaim.holds_of_wide 7 Try.f7 rfl rfl rfl rfl rfl rfl rfl ⟨rfl, rfl, rfl, rfl, rfl⟩ rfl rfl rfl rfl rfl (by kernel_rfl) Try.func7 (by kernel_rfl)
    (of_decide_eq_true (by kernel_rfl)) (by unfold Func.isWrapper; first | (rw [if_pos (by decide +kernel)]; kernel_rfl) | (rw [if_neg (by decide +kernel)]; exact ⟨rfl, rfl⟩))
    (fun os started H enc _ => outboxNil_lifted os started H enc)
#print axioms outboxNil_holds
end Go.Proofs.Ytcnheikckfhniaa
