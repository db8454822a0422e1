/-
  Package split: Shares, Each. Conditions: those of the theorems.
-/
import Derived.Test.YtadaaoljpeojcaaSplitB
namespace Go.Proofs.Ytadaaoljpeojcaa
open Go.RowKit
set_option maxRecDepth 100000

theorem errS_arg {s : Int} {ws : List Int} (h : rightW ws = false) : errS s ws = 1 := by unfold errS; rw [h]; rfl
theorem errS_sum {s : Int} {ws : List Int} (h : rightW ws = true) (h1 : okW s = false) : errS s ws = 9 := by unfold errS; rw [h, h1]; rfl
theorem errS_all {s : Int} {ws : List Int} (h : rightW ws = true) (h1 : ¬ ws.sum ≤ 1125899906842624) : errS s ws = 9 := by
  unfold errS; rw [h, decide_eq_false h1, Bool.and_false]; rfl
theorem errS_none {s : Int} {ws : List Int} (h : rightW ws = true) (h1 : okW s = true) (h2 : ws.sum ≤ 1125899906842624) : errS s ws = 0 := by
  unfold errS; rw [h, h1, decide_eq_true h2]; rfl
theorem ends_err {s : Int} {ws : List Int} {k : Int} {w w' : World} (h : errS s ws = k) (h0 : k ≠ 0) (hb : Below w.heap.size w w') : SharesEnd s ws w (.returned (.tuple #[.slice none 0 0, .int .i64 k])) w' :=
  ⟨hb, .inl ⟨by rw [h]; exact h0, by rw [h]⟩⟩

set_option maxHeartbeats 2000000 in
/-- Shares, where it is refused, or the weights are above nought together. -/
theorem split_shares_some (a : Option Addr) (ws : List Int) (n c : Nat) (s : Int) (w : World) (hn : ws.length = n) (hx : IsInts w a ws) (hl : n ≤ maxLen) (h0 : rightW ws = true → okW s = true → ws.sum ≠ 0) :
    Calls Try.prog 8 #[.int .i64 s, .slice a n c] w fun e w' => SharesEnd s ws w e w' := by
  have hR := split_rightWeights a ws n c w hn hx hl
  by_cases hr : rightW ws = true
  · have hsum := cents_sum a ws n c w hn hx hl
    rw [hr] at hR
    by_cases hm : ws.sum ≤ 1125899906842624
    · rw [sum_right (rightW_all hr) hm] at hsum
      simp only [sumV, sumE] at hsum
      by_cases hs : okW s = true
      · obtain ⟨s1, s2⟩ := okW_yes hs
        have s0 : ¬ s < 0 := by omega
        have hrt : Rt s = true := rt_iff.2 (by omega)
        have hpos := sum_nonneg (rightW_all hr)
        have hne := h0 hr hs
        have hz := rightW_few hr
        rw [hn] at hz
        have hin : ∃ b off, a = some ⟨b, off, none⟩ ∧ b < w.heap.size ∧ ∀ i (h : i < ws.length), w.cell? ⟨b, off + i, none⟩ = some (.int .i64 ws[i]) := by
          rcases hx with rfl | h
          · simp at hn; omega
          · exact h
        obtain ⟨b, off, rfl, hb, hc⟩ := hin
        have hW : Weights s ws ws.sum := ⟨s1, s2, all_okW (rightW_all hr), all_sum ws, by omega, hm⟩
        obtain ⟨n', rfl⟩ : ∃ n', n = n' + 1 := ⟨n - 1, by omega⟩
        have hS := split_share b off n' c s ws.sum ws w hW hn (by omega) hb hc
        have hE := errS_none hr hs hm
        have hw : wsOf ws = ws := by unfold wsOf; rw [if_neg hne]
        have hfin : Hid (∀ e w', Shared s ws ws.sum w e w' → ∃ S : Nat, e = .returned (.slice (some ⟨S, 0, none⟩) (n' + 1) (n' + 1)) ∧ SharesEnd s ws w (.returned (.tuple #[.slice (some ⟨S, 0, none⟩) (n' + 1) (n' + 1), .int .i64 0])) w') := by
          rintro e w' ⟨S, rfl, h1, h2, h3, h4⟩
          rw [hn]
          refine ⟨S, rfl, h3, .inr ⟨hE, S, by rw [hn], h1, h2, fun t ht => ?_⟩⟩
          rw [h4 t ht]
          unfold sharesOf
          rw [hw]
          simp [sharesBy, List.getD, ht]
        generalize ws.sum = A at *
        have ha : ¬ A = 0 := hne
        clear hW hE hw hc hx hn hne h0 hr hs
        go_enter Try.func8, Try.ntmps8
        go_wp2_with fail
        refine hR.mono ?_
        rintro e w1 ⟨rfl, rfl⟩
        go_wp2_with fail
        refine hsum.mono ?_
        rintro e w1 ⟨rfl, rfl⟩
        go_wp2_with fail
        refine (cents_right s w).mono ?_
        rintro e w1 ⟨rfl, rfl⟩
        rw [hrt]
        go_wp2_with fail
        refine hS.mono ?_
        intro e w1 hsh
        obtain ⟨S, rfl, hend⟩ := hfin.out e w1 hsh
        have HE : Aside _ := hend
        clear hsh hend
        go_wp2
        go_ret2
        exact HE.out
      · have hs : okW s = false := by simpa using hs
        have hE := errS_sum hr hs
        have hfin : Aside (∀ w', Below w.heap.size w w' → SharesEnd s ws w (.returned (.tuple #[.slice none 0 0, .int .i64 9])) w') := fun w' hb => ends_err hE (by decide) hb
        have hss := okW_no hs
        generalize ws.sum = A at *
        clear hE hs hr h0 hx hn
        by_cases s0 : s < 0
        · clear hss
          go_enter Try.func8, Try.ntmps8
          go_wp2_with fail
          refine hR.mono ?_
          rintro e w1 ⟨rfl, rfl⟩
          go_wp2_with fail
          refine hsum.mono ?_
          rintro e w1 ⟨rfl, rfl⟩
          go_wp2
          go_ret2
          exact hfin.out _ (Below.refl _ _)
        · have hrt : Rt s = false := rt_not.2 (by omega)
          clear hss
          go_enter Try.func8, Try.ntmps8
          go_wp2_with fail
          refine hR.mono ?_
          rintro e w1 ⟨rfl, rfl⟩
          go_wp2_with fail
          refine hsum.mono ?_
          rintro e w1 ⟨rfl, rfl⟩
          go_wp2_with fail
          refine (cents_right s w).mono ?_
          rintro e w1 ⟨rfl, rfl⟩
          rw [hrt]
          go_wp2
          go_ret2
          exact hfin.out _ (Below.refl _ _)
    · rw [sum_wrong (rightW_all hr) hm] at hsum
      simp only [sumV, sumE] at hsum
      have hE := errS_all (s := s) hr hm
      have hfin : Aside (∀ w', Below w.heap.size w w' → SharesEnd s ws w (.returned (.tuple #[.slice none 0 0, .int .i64 9])) w') := fun w' hb => ends_err hE (by decide) hb
      clear hE hr h0 hx hn hm
      go_enter Try.func8, Try.ntmps8
      go_wp2_with fail
      refine hR.mono ?_
      rintro e w1 ⟨rfl, rfl⟩
      go_wp2_with fail
      refine hsum.mono ?_
      rintro e w1 ⟨rfl, rfl⟩
      go_wp2
      go_ret2
      exact hfin.out _ (Below.refl _ _)
  · have hr : rightW ws = false := by simpa using hr
    rw [hr] at hR
    have hfin : Aside (∀ w', Below w.heap.size w w' → SharesEnd s ws w (.returned (.tuple #[.slice none 0 0, .int .i64 1])) w') := fun w' hb => ends_err (errS_arg hr) (by decide) hb
    clear hr h0 hx hn
    go_enter Try.func8, Try.ntmps8
    go_wp2_with fail
    refine hR.mono ?_
    rintro e w1 ⟨rfl, rfl⟩
    go_wp2
    go_ret2
    exact hfin.out _ (Below.refl _ _)

theorem ones_sum (n : Nat) : (List.replicate n (1 : Int)).sum = n := by
  induction n with
  | zero => rfl
  | succ n ih => rw [List.replicate_succ, List.sum_cons, ih]; omega
theorem SharesEnd.later {s : Int} {ws : List Int} {w w1 : World} {e : Ending} {w' : World} (h : SharesEnd s ws w1 e w') (hb : Below w.heap.size w w1) : SharesEnd s ws w e w' := by
  obtain ⟨h1, h2⟩ := h
  refine ⟨hb.trans (h1.mono hb.size), h2.imp id ?_⟩
  rintro ⟨h3, S, h4, h5, h6⟩
  exact ⟨h3, S, h4, Nat.le_trans hb.size h5, h6⟩
theorem SharesEnd.pair {s : Int} {ws : List Int} {w : World} {e : Ending} {w' : World} (h : SharesEnd s ws w e w') : ∃ (a : Option Addr) (n c : Nat) (k : Int), e = .returned (.tuple #[.slice a n c, .int .i64 k]) := by
  obtain ⟨_, ⟨_, rfl⟩ | ⟨_, S, rfl, _⟩⟩ := h
  · exact ⟨_, _, _, _, rfl⟩
  · exact ⟨_, _, _, _, rfl⟩

set_option maxHeartbeats 2000000 in
/-- Each, among so many. -/
theorem split_each_some (s : Int) (n : Nat) (w : World) (h1 : 1 ≤ n) (h2 : n ≤ 200) :
    Calls Try.prog 13 #[.int .i64 s, .int .i64 n] w fun e w' => SharesEnd s (List.replicate n 1) w e w' := by
  have n1 : ¬ (n : Int) < 1 := by omega
  have n2 : ¬ 200 < (n : Int) := by omega
  have hfin : Aside (∀ (w1 : World) (S : Nat), Below w.heap.size w w1 → S < w1.heap.size → (∀ t, t < n → w1.cell? ⟨S, t, none⟩ = some (.int .i64 1)) →
      Calls Try.prog 8 #[.int .i64 s, .slice (some ⟨S, 0, none⟩) n n] w1 fun e w' => SharesEnd s (List.replicate n 1) w e w') := by
    intro w1 S hb hS hc
    refine (split_shares_some (some ⟨S, 0, none⟩) (List.replicate n 1) n n s w1 (by simp) (.inr ⟨S, 0, rfl, hS, fun i hi => ?_⟩) (by unfold maxLen; omega) (fun _ _ => by rw [ones_sum]; omega)).mono fun e w' h => h.later hb
    rw [Nat.zero_add, hc i (by simpa using hi)]
    simp
  go_enter Try.func13, Try.ntmps13
  go_wp2_with fail
  refine (repeat_one w.heap.size 1 n _ h1 h2 (by simp) (by simp)).mono ?_
  rintro e w1 ⟨S, rfl, hS1, hS2, hb, hc⟩
  have hb0 : Below w.heap.size w w1 := ((Below.refl _ _).alloc (Nat.le_refl _) _).trans (hb.mono (by simp))
  have hC := hfin.out w1 S hb0 hS2 hc
  clear hfin hc hb
  go_wp2_with fail
  refine hC.mono ?_
  intro e w2 hend
  obtain ⟨a, k, c, q, rfl⟩ := hend.pair
  have HE : Aside _ := hend
  clear hend hC
  go_wp2
  go_ret2
  exact HE.out
theorem split_each_wrong (s n : Int) (w : World) (h : n < 1 ∨ 200 < n) :
    Calls Try.prog 13 #[.int .i64 s, .int .i64 n] w fun e w' => e = .returned (.tuple #[.slice none 0 0, .int .i64 1]) ∧ w = w' := by
  by_cases n1 : n < 1
  · clear h
    go_enter Try.func13, Try.ntmps13
    go_wp2
    go_ret2
    exact ⟨rfl, rfl⟩
  · have n2 : 200 < n := by omega
    clear h
    go_enter Try.func13, Try.ntmps13
    go_wp2
    go_ret2
    exact ⟨rfl, rfl⟩

theorem noughts_like {s : Int} {ws : List Int} (hr : rightW ws = true) (hs : okW s = true) (h0 : ws.sum = 0) {w : World} {e : Ending} {w' : World} (h : SharesEnd s (List.replicate ws.length 1) w e w') : SharesEnd s ws w e w' := by
  have hz := rightW_few hr
  have e1 : errS s ws = 0 := errS_none hr hs (by omega)
  have e2 : errS s (List.replicate ws.length 1) = 0 := by
    refine errS_none ?_ hs (by rw [ones_sum]; omega)
    unfold rightW few
    rw [List.length_replicate, decide_eq_true hz, Bool.true_and]
    simp [okW]
  have e3 : sharesOf s ws = sharesOf s (List.replicate ws.length 1) := by
    have f1 : wsOf ws = List.replicate ws.length 1 := by unfold wsOf; rw [if_pos h0]
    have f2 : wsOf (List.replicate ws.length 1) = List.replicate ws.length 1 := by unfold wsOf; rw [if_neg (by rw [ones_sum]; omega)]
    unfold sharesOf
    rw [f1, f2]
  obtain ⟨hb, hor⟩ := h
  refine ⟨hb, .inr ⟨e1, ?_⟩⟩
  rcases hor with ⟨h1, _⟩ | ⟨_, S, h2, h3, h4, h5⟩
  · exact absurd e2 h1
  · rw [List.length_replicate] at h2 h5
    exact ⟨S, h2, h3, h4, by rw [e3]; exact h5⟩

set_option maxHeartbeats 2000000 in
/-- Shares. -/
theorem split_shares (a : Option Addr) (ws : List Int) (n c : Nat) (s : Int) (w : World) (hn : ws.length = n) (hx : IsInts w a ws) (hl : n ≤ maxLen) :
    Calls Try.prog 8 #[.int .i64 s, .slice a n c] w fun e w' => SharesEnd s ws w e w' := by
  by_cases h0 : rightW ws = true ∧ okW s = true ∧ ws.sum = 0
  · obtain ⟨hr, hs, hz⟩ := h0
    have hR := split_rightWeights a ws n c w hn hx hl
    have hsum := cents_sum a ws n c w hn hx hl
    rw [hr] at hR
    rw [sum_right (rightW_all hr) (by omega), hz] at hsum
    simp only [sumV, sumE] at hsum
    obtain ⟨s1, s2⟩ := okW_yes hs
    have s0 : ¬ s < 0 := by omega
    have hrt : Rt s = true := rt_iff.2 (by omega)
    have hf := rightW_few hr
    have hE := split_each_some s n w (by omega) (by omega)
    have hfin : Aside (∀ e w', SharesEnd s (List.replicate n 1) w e w' → SharesEnd s ws w e w') := fun e w' h => noughts_like hr hs hz (by rw [hn]; exact h)
    clear hr hs hz hf hx hn
    go_enter Try.func8, Try.ntmps8
    go_wp2_with fail
    refine hR.mono ?_
    rintro e w1 ⟨rfl, rfl⟩
    go_wp2_with fail
    refine hsum.mono ?_
    rintro e w1 ⟨rfl, rfl⟩
    go_wp2_with fail
    refine (cents_right s w).mono ?_
    rintro e w1 ⟨rfl, rfl⟩
    rw [hrt]
    go_wp2_with fail
    refine hE.mono ?_
    intro e w2 hend
    have hend2 := hfin.out e w2 hend
    obtain ⟨a', k, c', q, rfl⟩ := hend.pair
    have HE : Aside _ := hend2
    clear hend hend2
    go_wp2
    go_ret2
    exact HE.out
  · exact split_shares_some a ws n c s w hn hx hl (fun h1 h2 h3 => h0 ⟨h1, h2, h3⟩)
end Go.Proofs.Ytadaaoljpeojcaa
