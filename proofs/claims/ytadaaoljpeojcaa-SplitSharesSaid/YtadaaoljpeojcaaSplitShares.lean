/-
  SplitShares: the shares of any sum by any weights are what the document says, or it is refused. No conditions: every input.
-/
import Derived.Test.YtadaaoljpeojcaaSplitLaw
import Derived.Test.YtadaaoljpeojcaaRefSplit
import Derived.Test.YtadaaoljpeojcaaOwn
namespace Go.Proofs.Ytadaaoljpeojcaa
open Go.RowKit Go.WideShapes
set_option maxRecDepth 100000

theorem errS_zero {s : Int} {ws : List Int} (h : errS s ws = 0) : rightW ws = true ∧ okW s = true ∧ ws.sum ≤ 1125899906842624 := by
  cases hr : rightW ws with
  | false => rw [errS_arg hr] at h; cases h
  | true =>
    cases hs : okW s with
    | false => rw [errS_sum hr hs] at h; cases h
    | true =>
      by_cases hm : ws.sum ≤ 1125899906842624
      · exact ⟨rfl, rfl, hm⟩
      · rw [errS_all hr hm] at h; cases h

set_option maxHeartbeats 1000000 in
theorem shares_law (s : Int) (a : Option Addr) (ws : List Int) (n c : Nat) (w : World) (hn : ws.length = n) (hx : IsInts w a ws) (hl : n ≤ maxLen) :
    Calls Try.prog 3 #[.int .i64 s, .slice a n c] w fun e w' => e = .returned (.bool true) ∧ Below w.heap.size w w' := by
  have hl2 := hl
  unfold maxLen at hl2
  by_cases hbig : 300 < n
  · have hb' : 300 < (n : Int) := by omega
    clear hx hn
    go_enter Try.func3, Try.ntmps3
    go_wp2_with fail
    refine (split_awake w).mono ?_
    rintro e w1 ⟨rfl, d1⟩
    go_wp2_with fail
    refine (split_awake w1).mono ?_
    rintro e w2 ⟨rfl, d2⟩
    go_wp2
    go_ret
    exact ⟨rfl, d1.trans (d2.mono d1.size)⟩
  · have hb' : ¬ (300 : Int) < (n : Int) := by omega
    obtain ⟨k, hk⟩ : ∃ k, k = errS s ws := ⟨_, rfl⟩
    obtain ⟨zs, hzs⟩ : ∃ zs, zs = sharesR s ws := ⟨_, rfl⟩
    have hS : Aside (∀ W : World, IsInts W a ws → Calls Try.prog 8 #[.int .i64 s, .slice a n c] W fun e w' => ∃ (a : Option Addr) (m : Nat), e = .returned (.tuple #[.slice a m m, .int .i64 k]) ∧ zs.length = m ∧ m ≤ 200 ∧ IsInts w' a zs ∧ Below W.heap.size W w') :=
      fun W hx => (split_shares a ws n c s W hn hx hl).mono fun e w' h => by rw [hk, hzs]; exact h.out
    have hA : Aside (∀ W : World, IsInts W a ws → Calls Try.prog 9 #[.int .i64 s, .slice a n c] W fun e w' => e = .returned (.int .i64 k) ∧ W = w') :=
      fun W hx => by rw [hk]; exact ref_asked a ws n c s W hn hx hl
    have hR : Aside (k = 0 → zs.length = n ∧ ∀ W : World, IsInts W a ws → Calls Try.prog 11 #[.int .i64 s, .slice a n c] W fun e w' => ∃ O d : Nat, e = .returned (.slice (some ⟨O, 0, none⟩) n d) ∧ Below W.heap.size W w' ∧ IsInts w' (some ⟨O, 0, none⟩) zs) := fun h0 => by
      rw [hk] at h0
      obtain ⟨h1, h2, h3⟩ := errS_zero h0
      have hz : zs = sharesOf s ws := by rw [hzs]; unfold sharesR; rw [if_pos h0]
      refine ⟨by rw [hz, sharesOf_length, hn], fun W hx => ?_⟩
      rw [hz]
      have hf := rightW_few h1
      rcases hx with rfl | ⟨b, off, rfl, hb, hc⟩
      · simp at hf
      · exact ref_shares b off n c s ws W hn h1 h2 h3 hb hc
    have hNo : Aside (k ≠ 0 → zs = []) := fun h => by rw [hzs]; unfold sharesR; rw [if_neg (by rw [← hk]; exact h)]
    have HX : Aside (IsInts w a ws) := hx
    clear hk hzs hn hx
    go_enter Try.func3, Try.ntmps3
    go_wp2_with fail
    refine (split_awake w).mono ?_
    rintro e w1 ⟨rfl, d1⟩
    have h1 := HX.out.below d1
    have H1 : Aside (IsInts w1 a ws) := h1
    clear h1
    go_wp2_with fail
    refine (hS.out w1 H1.out).mono ?_
    rintro e w2 ⟨a2, m, rfl, hm, hm2, h3, d2⟩
    have HM := Lib.hid hm
    have H3 : Aside (IsInts w2 a2 zs) := h3
    have H2 : Aside (IsInts w2 a ws) := H1.out.below d2
    have b2 := d1.trans (d2.mono d1.size)
    clear hm h3 d2
    go_wp2_with fail
    refine (hA.out w2 H2.out).mono ?_
    rintro e w3 ⟨rfl, rfl⟩
    by_cases h0 : k = 0
    · subst h0
      obtain ⟨hz, hcall⟩ := hR.out rfl
      obtain rfl : m = n := by rw [← HM.out, hz]
      have HC : Aside _ := hcall
      clear hz hcall hNo hR
      go_wp2_with fail
      refine (HC.out w2 H2.out).mono ?_
      rintro e w4 ⟨O, d, rfl, d4, h4⟩
      have H4 : Aside (IsInts w4 (some ⟨O, 0, none⟩) zs) := h4
      have H5 : Aside (IsInts w4 a2 zs) := H3.out.below d4
      have b4 := b2.trans (d4.mono b2.size)
      clear h4 d4
      go_wp2_with fail
      refine (split_same a2 (some ⟨O, 0, none⟩) zs m m d w4 HM.out hm2 H5.out H4.out).mono ?_
      rintro e w5 ⟨rfl, d5⟩
      go_wp2
      go_ret
      exact ⟨rfl, b4.trans (d5.mono b4.size)⟩
    · have hz : m = 0 := by rw [← HM.out, hNo.out h0]; rfl
      subst hz
      clear hNo hR
      go_wp2
      go_ret
      exact ⟨rfl, b2⟩

theorem shares_contract (W : World) (args : Array Value) (h : Each Try.prog W Try.f3.params.toList args.toList) :
    Calls Try.prog 3 args W fun e W' => e = .returned (.bool true) ∧ Below W.heap.size W W' := by
  rw [Try.params3] at h
  obtain ⟨v0, r0, e0, ⟨_, o0⟩, d0, h⟩ := h.cons
  obtain ⟨v1, r1, rfl, ⟨_, o1⟩, d1, h⟩ := h.cons
  obtain rfl := h.nil
  obtain ⟨args⟩ := args
  obtain rfl : args = [v0, v1] := e0
  obtain ⟨x0, rfl, hx0⟩ := val_int o0 d0 Try.underlying2
  obtain ⟨a1, n1, c1, rfl, hc1⟩ := val_slice o1 Try.underlying22
  rw [hc1] at d1
  obtain ⟨a1', c1', xs1, e, h1, h2, h3⟩ := d1.ints Try.underlying22 Try.underlying2 (by kernel_rfl)
  injection e with e _
  injection e with e1 e2 e3
  subst e1 e2 e3
  exact shares_law x0 _ xs1 _ _ W rfl h3 (Nat.le_trans h1 h2)

theorem shares_lifted (os : Os) (started : os.Started) (H : Type) (enc : TypeId × Value → H) :
    ReturnsInHanded {} Try.checked os 3 .any (Rows.splitSharesSpec.pre6 enc Try.prog Try.f3 Rows.splitSharesRow.domain false) (Rows.splitSharesSpec.post enc Try.prog Try.f3 false true false false) :=
  law_lifted (C := Try.checked) seat_own seat_laid (by kernel_rfl) Try.func3 rfl (tb := 4) rfl Try.underlying4
    (by
      rw [Try.params3]; intro t ht; simp at ht
      rcases ht with rfl | rfl <;> exact ⟨by kernel_rfl, of_decide_eq_true (by kernel_rfl)⟩)
    (fun H ds hl => by
      rw [Try.params3] at hl
      match ds, hl with
      | [d1, d2], _ => rfl)
    os started H enc
    (ChangeSpec.witness6 (enc := enc) (C := Try.checked) false ⟨#[], #[.int .i64 0, .slice none 0 0], []⟩ 8 (by kernel_rfl) (by kernel_rfl) (by kernel_rfl) (by kernel_rfl))
    shares_contract

theorem splitShares_holds : Rows.SplitSharesSaid :=
  OpenClaim.holds_of_wide 3 Try.f3 rfl rfl rfl rfl rfl rfl rfl ⟨rfl, rfl, rfl, rfl, rfl⟩ rfl rfl rfl rfl rfl (by kernel_rfl) Try.func3 (by kernel_rfl)
    (of_decide_eq_true (by kernel_rfl)) (by unfold Func.isWrapper; first | (rw [if_pos (by decide +kernel)]; kernel_rfl) | (rw [if_neg (by decide +kernel)]; exact ⟨rfl, rfl⟩))
    (fun os started H enc _ => shares_lifted os started H enc)
#print axioms splitShares_holds
end Go.Proofs.Ytadaaoljpeojcaa
