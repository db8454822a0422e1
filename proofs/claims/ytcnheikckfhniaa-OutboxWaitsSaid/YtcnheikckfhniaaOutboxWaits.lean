/-
  The law OutboxWaits of layer 13 returns true whatever its argument is, and leaves it as it was. No condition.
-/
import Derived.Test.YtcnheikckfhniaaOutLaw
namespace Go.Proofs.Ytcnheikckfhniaa
open Go.RowKit
set_option maxRecDepth 100000

theorem waitOf_mono {t : Int} (h : 2 ≤ t) : waitOf (t - 1) ≤ waitOf t := by
  by_cases h2 : t = 2
  · subst h2; decide
  · by_cases h3 : t = 3
    · subst h3; decide
    · have e : waitOf t = 8 := by unfold waitOf; rw [if_neg (by omega), if_pos (by omega)]
      rw [e]
      exact (waitOf_bounds _).2
theorem outboxWaits_law (t : Int) (ht : (Lit.int .i64 t).wf = true) (w : World) : Calls Try.prog 4 #[.int .i64 t] w fun e w' => e = .returned (.bool true) ∧ Below w.heap.size w w' := by
  have HA : Aside _ := out_awake w
  obtain ⟨ht1, ht2⟩ := wf_i64 ht
  clear ht
  have HW : Aside (∀ w, _) := fun w => out_wait t w
  have HR : Aside (∀ w, _) := fun w => ref_wait t w
  have HV : Aside (∀ w, _) := fun w => out_wait (t - 1) w
  have hb := (waitOf_bounds t).2
  have hm : 2 ≤ t → waitOf (t - 1) ≤ waitOf t := waitOf_mono
  generalize waitOf (t - 1) = y at *
  generalize waitOf t = x at *
  by_cases h2 : t < 2
  · clear hm
    go_enter Try.func4, Try.ntmps4
    go_wp2_with fail
    refine Calls.mono HA.out ?_
    rintro e w1 ⟨rfl, b1⟩
    have HB : Aside _ := b1
    clear b1 HA
    go_wp2_with fail
    refine Calls.mono (HW.out _) ?_
    rintro e w2 ⟨rfl, rfl⟩
    go_wp2_with fail
    refine Calls.mono (HR.out _) ?_
    rintro e w2 ⟨rfl, rfl⟩
    go_wp2
    go_ret
    exact ⟨rfl, HB.out⟩
  · have hm := hm (by omega)
    go_enter Try.func4, Try.ntmps4
    go_wp2_with fail
    refine Calls.mono HA.out ?_
    rintro e w1 ⟨rfl, b1⟩
    have HB : Aside _ := b1
    clear b1 HA
    go_wp2_with fail
    refine Calls.mono (HW.out _) ?_
    rintro e w2 ⟨rfl, rfl⟩
    go_wp2_with fail
    refine Calls.mono (HR.out _) ?_
    rintro e w2 ⟨rfl, rfl⟩
    go_wp2_with fail
    refine Calls.mono (HV.out _) ?_
    rintro e w2 ⟨rfl, rfl⟩
    go_wp2
    go_ret
    exact ⟨rfl, HB.out⟩

theorem outboxWaits_contract (W : World) (args : Array Value) (h : Each Try.prog W Try.f4.params.toList args.toList) :
    Calls Try.prog 4 args W fun e W' => e = .returned (.bool true) ∧ Below W.heap.size W W' := by
  rw [Try.params4] at h
  obtain ⟨v0, r0, e0, ⟨_, o0⟩, d0, h⟩ := h.cons
  obtain rfl := h.nil
  obtain ⟨args⟩ := args
  obtain rfl : args = [v0] := e0
  obtain ⟨x0, rfl, hx0⟩ := val_int o0 d0 Try.underlying3
  exact outboxWaits_law x0 hx0 W

theorem outboxWaits_lifted (os : Os) (started : os.Started) (H : Type) (enc : TypeId × Value → H) :
    ReturnsInHanded {} Try.checked os 4 .any (Rows.outboxWaitsSpec.pre6 enc Try.prog Try.f4 Rows.outboxWaitsRow.domain false) (Rows.outboxWaitsSpec.post enc Try.prog Try.f4 false true false false) :=
  law_lifted (C := Try.checked) seat_own seat_laid (by kernel_rfl) Try.func4 rfl (tb := 4) rfl Try.underlying4
    (by
      rw [Try.params4]; intro t ht; simp at ht
      obtain rfl := ht; exact ⟨by kernel_rfl, of_decide_eq_true (by kernel_rfl)⟩)
    (fun H ds hl => by
      rw [Try.params4] at hl
      match ds, hl with
      | [d1], _ => rfl)
    os started H enc
    (ChangeSpec.witness6 (enc := enc) (C := Try.checked) false ⟨#[], #[.int .i64 0], []⟩ 8 (by kernel_rfl) (by kernel_rfl) (by kernel_rfl) (by kernel_rfl))
    outboxWaits_contract

theorem outboxWaits_holds : Rows.OutboxWaitsSaid :=
  OpenClaim.holds_of_wide 4 Try.f4 rfl rfl rfl rfl rfl rfl rfl ⟨rfl, rfl, rfl, rfl, rfl⟩ rfl rfl rfl rfl rfl (by kernel_rfl) Try.func4 (by kernel_rfl)
    (of_decide_eq_true (by kernel_rfl)) (by unfold Func.isWrapper; first | (rw [if_pos (by decide +kernel)]; kernel_rfl) | (rw [if_neg (by decide +kernel)]; exact ⟨rfl, rfl⟩))
    (fun os started H enc _ => outboxWaits_lifted os started H enc)
#print axioms outboxWaits_holds
end Go.Proofs.Ytcnheikckfhniaa
