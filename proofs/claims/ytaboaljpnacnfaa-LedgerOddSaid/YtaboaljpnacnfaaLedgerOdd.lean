/-
  LedgerOdd: what no account is has nothing. No conditions: every input.
-/
import Derived.Test.YtaboaljpnacnfaaLedgerLaw
import Derived.Test.YtaboaljpnacnfaaOwn
namespace Go.Proofs.Ytaboaljpnacnfaa
open Go.RowKit Go.WideShapes
set_option maxRecDepth 100000

theorem odd_law (g : Nat → Int) (a : Int) (w : World) : Calls Try.prog 6 #[.agg (five g), .int .i64 a] w fun e w' => e = .returned (.bool true) ∧ Below w.heap.size w w' := by
  have hB := fun W => ledger_balance g a W
  have HB : Aside _ := hB
  clear hB
  by_cases h : 0 ≤ a ∧ a < 5
  · obtain ⟨n, rfl⟩ := Int.eq_ofNat_of_zero_le h.1
    have hn : n < 5 := by omega
    have n1 : (n : Int) < 5 := by omega
    have hb : balanceOf g n = g n := by unfold balanceOf; rw [if_pos h]; rfl
    rw [hb] at HB
    clear hb h
    go_enter Try.func6, Try.ntmps6
    go_wp2_with fail
    refine (ledger_awake _).mono ?_
    rintro e w1 ⟨rfl, b1⟩
    obtain ⟨hlt, _, c0, c1, c2, c3, c4⟩ := (five_new w g _).below b1 (by simp)
    go_wp2_with fail
    refine (HB.out _).mono ?_
    rintro e w2 ⟨rfl, b2⟩
    have hc := ((five_new w g _).below b1 (by simp)).below b2 hlt |>.get n hn
    clear c0 c1 c2 c3 c4
    go_wp2
    go_ret
    exact ⟨rfl, ((Below.refl _ _).alloc (Nat.le_refl _) _).trans ((b1.trans (b2.mono b1.size)).mono (by simp))⟩
  · have hb : balanceOf g a = 0 := by unfold balanceOf; rw [if_neg h]
    rw [hb] at HB
    have n1 : ¬ (0 ≤ a ∧ a < 5) := h
    clear hb h
    go_enter Try.func6, Try.ntmps6
    go_wp2_with fail
    refine (ledger_awake _).mono ?_
    rintro e w1 ⟨rfl, b1⟩
    obtain ⟨hlt, _, c0, c1, c2, c3, c4⟩ := (five_new w g _).below b1 (by simp)
    go_wp2_with fail
    refine (HB.out _).mono ?_
    rintro e w2 ⟨rfl, b2⟩
    clear c0 c1 c2 c3 c4
    have hE : Below w.heap.size w w2 := ((Below.refl _ _).alloc (Nat.le_refl _) _).trans ((b1.trans (b2.mono b1.size)).mono (by simp))
    by_cases h0 : a < 0
    · have n2 : ¬ 0 ≤ a := by omega
      clear n1
      go_wp2
      go_ret
      exact ⟨rfl, hE⟩
    · have n2 : 0 ≤ a := by omega
      have n3 : ¬ a < 5 := by omega
      have n4 : 4 < a := by omega
      clear n1
      go_wp2
      go_ret
      exact ⟨rfl, hE⟩

theorem odd_contract (W : World) (args : Array Value) (h : Each Try.prog W Try.f6.params.toList args.toList) :
    Calls Try.prog 6 args W fun e W' => e = .returned (.bool true) ∧ Below W.heap.size W W' := by
  rw [Try.params6] at h
  obtain ⟨v0, r0, e0, ⟨_, o0⟩, d0, h⟩ := h.cons
  obtain ⟨v1, r1, rfl, ⟨_, o1⟩, d1, h⟩ := h.cons
  obtain rfl := h.nil
  obtain ⟨args⟩ := args
  obtain rfl : args = [v0, v1] := e0
  obtain ⟨x1, rfl, hx1⟩ := val_int o1 d1 Try.underlying3
  obtain ⟨g0, rfl, hg0⟩ := val_five o0 d0
  exact odd_law g0 x1 W

theorem odd_lifted (os : Os) (started : os.Started) (H : Type) (enc : TypeId × Value → H) :
    ReturnsInHanded {} Try.checked os 6 .any (Rows.ledgerOddSpec.pre6 enc Try.prog Try.f6 Rows.ledgerOddRow.domain false) (Rows.ledgerOddSpec.post enc Try.prog Try.f6 false true false false) :=
  law_lifted (C := Try.checked) seat_own seat_laid (by kernel_rfl) Try.func6 rfl (tb := 4) rfl Try.underlying4
    (by
      rw [Try.params6]; intro t ht; simp at ht
      rcases ht with rfl | rfl <;> exact ⟨by kernel_rfl, of_decide_eq_true (by kernel_rfl)⟩)
    (fun H ds hl => by
      rw [Try.params6] at hl
      match ds, hl with
      | [d1, d2], _ => rfl)
    os started H enc
    (ChangeSpec.witness6 (enc := enc) (C := Try.checked) false ⟨#[], #[.agg #[.int .i64 0, .int .i64 0, .int .i64 0, .int .i64 0, .int .i64 0], .int .i64 0], []⟩ 8 (by kernel_rfl) (by kernel_rfl) (by kernel_rfl) (by kernel_rfl))
    odd_contract

theorem ledgerOdd_holds : Rows.LedgerOddSaid :=
  OpenClaim.holds_of_wide 6 Try.f6 rfl rfl rfl rfl rfl rfl rfl ⟨rfl, rfl, rfl, rfl, rfl⟩ rfl rfl rfl rfl rfl (by kernel_rfl) Try.func6 (by kernel_rfl)
    (of_decide_eq_true (by kernel_rfl)) (by unfold Func.isWrapper; first | (rw [if_pos (by decide +kernel)]; kernel_rfl) | (rw [if_neg (by decide +kernel)]; exact ⟨rfl, rfl⟩))
    (fun os started H enc _ => odd_lifted os started H enc)
#print axioms ledgerOdd_holds
end Go.Proofs.Ytaboaljpnacnfaa
