/-
  SplitNoughts: if all weights are nought the sum is shared as if each were 1. No conditions: every input.
-/
import Derived.Test.YtadaaoljpeojcaaSplitLaw
import Derived.Test.YtadaaoljpeojcaaOwn
namespace Go.Proofs.Ytadaaoljpeojcaa
open Go.RowKit Go.WideShapes
set_option maxRecDepth 100000

theorem noughts_sum (n : Nat) : (List.replicate n (0 : Int)).sum = 0 := by
  induction n with
  | zero => rfl
  | succ n ih => rw [List.replicate_succ, List.sum_cons, ih]; rfl
theorem noughts_right {n : Nat} {x : Int} (hx : okW x = true) (h : few n = true) : rightW (List.replicate n x) = true := by
  unfold rightW
  rw [List.length_replicate, h, Bool.true_and, List.all_replicate]
  split
  · rfl
  · exact hx
theorem noughts_alike {s : Int} {n : Nat} (h : few n = true) : errS s (List.replicate n 0) = errS s (List.replicate n 1) ∧ sharesR s (List.replicate n 0) = sharesR s (List.replicate n 1) := by
  have hf : 1 ≤ n ∧ n ≤ 200 := of_decide_eq_true h
  have h0 : rightW (List.replicate n 0) = true := noughts_right (by decide) h
  have h1 : rightW (List.replicate n 1) = true := noughts_right (by decide) h
  have e : errS s (List.replicate n 0) = errS s (List.replicate n 1) := by
    cases hs : okW s with
    | true => rw [errS_none h0 hs (by rw [noughts_sum]; decide), errS_none h1 hs (by rw [ones_sum]; omega)]
    | false => rw [errS_sum h0 hs, errS_sum h1 hs]
  refine ⟨e, ?_⟩
  unfold sharesR
  rw [e]
  have f1 : wsOf (List.replicate n 0) = List.replicate n 1 := by unfold wsOf; rw [if_pos (noughts_sum n), List.length_replicate]
  have f2 : wsOf (List.replicate n 1) = List.replicate n 1 := by unfold wsOf; rw [if_neg (by rw [ones_sum]; omega)]
  unfold sharesOf
  rw [f1, f2]
theorem not_few {s : Int} {n : Nat} {x : Int} (h : few n = false) : errS s (List.replicate n x) = 1 ∧ sharesR s (List.replicate n x) = [] := by
  have h0 : rightW (List.replicate n x) = false := by unfold rightW; rw [List.length_replicate, h]; rfl
  have h1 := errS_arg (s := s) h0
  exact ⟨h1, by unfold sharesR; rw [h1]; rfl⟩

theorem IsInts.zeros (w : World) (n : Nat) (t : TypeId) : IsInts (w.alloc (.cells (Array.replicate n (.int .i64 0)) t)) (some ⟨w.heap.size, 0, none⟩) (List.replicate n 0) := by
  refine .inr ⟨w.heap.size, 0, rfl, by simp, fun i hi => ?_⟩
  rw [List.length_replicate] at hi
  simp [hi]

set_option maxHeartbeats 1000000 in
theorem noughts_law (s : Int) (n : Nat) (hn : n ≤ 255) (w : World) : Calls Try.prog 6 #[.int .i64 s, .int .u8 n] w fun e w' => e = .returned (.bool true) ∧ Below w.heap.size w w' := by
  have hmk := fun W => make_run 22 2 Try.underlying22 (by kernel_rfl) n (by omega) W
  have hsh : Aside (∀ (W : World), Calls Try.prog 8 #[.int .i64 s, .slice (some ⟨W.heap.size, 0, none⟩) n n] (W.alloc (.cells (Array.replicate n (.int .i64 0)) 2)) fun e w' => SharesEnd s (List.replicate n 0) (W.alloc (.cells (Array.replicate n (.int .i64 0)) 2)) e w') :=
    fun W => split_shares _ _ n n s _ (by simp) (IsInts.zeros W n _) (by unfold maxLen; omega)
  cases hf : few n with
  | true =>
    have hf2 : 1 ≤ n ∧ n ≤ 200 := of_decide_eq_true hf
    obtain ⟨e1, e2⟩ := noughts_alike (s := s) hf
    obtain ⟨k, hk⟩ : ∃ k, k = errS s (List.replicate n 1) := ⟨_, rfl⟩
    obtain ⟨zs, hzs⟩ : ∃ zs, zs = sharesR s (List.replicate n 1) := ⟨_, rfl⟩
    have hE : Aside (∀ W : World, Calls Try.prog 13 #[.int .i64 s, .int .i64 n] W fun e w' => ∃ (a : Option Addr) (m : Nat), e = .returned (.tuple #[.slice a m m, .int .i64 k]) ∧ zs.length = m ∧ m ≤ 200 ∧ IsInts w' a zs ∧ Below W.heap.size W w') :=
      fun W => (split_each_some s n W hf2.1 hf2.2).mono fun e w' h => by rw [hk, hzs]; exact h.out
    have hS : Aside (∀ W : World, Calls Try.prog 8 #[.int .i64 s, .slice (some ⟨W.heap.size, 0, none⟩) n n] (W.alloc (.cells (Array.replicate n (.int .i64 0)) 2)) fun e w' => ∃ (a : Option Addr) (m : Nat), e = .returned (.tuple #[.slice a m m, .int .i64 k]) ∧ zs.length = m ∧ m ≤ 200 ∧ IsInts w' a zs ∧ Below W.heap.size W w') :=
      fun W => (hsh.out W).mono fun e w' h => by
        obtain ⟨a, m, h1, h2, h3, h4, h5⟩ := h.out
        rw [e1, ← hk] at h1
        rw [e2, ← hzs] at h2 h4
        exact ⟨a, m, h1, h2, h3, h4, ((Below.refl _ _).alloc (Nat.le_refl _) _).trans (h5.mono (by simp))⟩
    clear hsh hk hzs e1 e2 hf hf2
    go_enter Try.func6, Try.ntmps6
    go_wp2_with fail
    refine (split_awake w).mono ?_
    rintro e w1 ⟨rfl, b1⟩
    go_wp2_with fail
    refine (hS.out w1).mono ?_
    rintro e w2 ⟨a, m, rfl, hm, hm2, h3, b2⟩
    have HM := Lib.hid hm
    clear hm
    go_wp2_with fail
    refine (hE.out w2).mono ?_
    rintro e w3 ⟨a', m', rfl, hm', hm2', h3', b3⟩
    obtain rfl : m = m' := by rw [← HM.out, hm']
    have h4 := h3.below b3
    have b5 := (b1.trans (b2.mono b1.size)).trans (b3.mono (Nat.le_trans b1.size b2.size))
    have HM2 := Lib.hid hm'
    clear hm' h3
    go_wp2_with fail
    refine (split_same a a' zs m m m w3 HM2.out hm2 h4 h3').mono ?_
    rintro e w4 ⟨rfl, b6⟩
    go_wp2
    go_ret
    exact ⟨rfl, b5.trans (b6.mono b5.size)⟩
  | false =>
    have hE := fun W => split_each_wrong s n W (by have : ¬ (1 ≤ n ∧ n ≤ 200) := of_decide_eq_false hf; omega)
    obtain ⟨e1, e2⟩ := not_few (s := s) (x := 0) hf
    have hS : Aside (∀ W : World, Calls Try.prog 8 #[.int .i64 s, .slice (some ⟨W.heap.size, 0, none⟩) n n] (W.alloc (.cells (Array.replicate n (.int .i64 0)) 2)) fun e w' => ∃ (a : Option Addr), e = .returned (.tuple #[.slice a 0 0, .int .i64 1]) ∧ Below W.heap.size W w') :=
      fun W => (hsh.out W).mono fun e w' h => by
        obtain ⟨a, m, h1, h2, h3, h4, h5⟩ := h.out
        rw [e1] at h1
        rw [e2] at h2
        obtain rfl : m = 0 := h2.symm
        exact ⟨a, h1, ((Below.refl _ _).alloc (Nat.le_refl _) _).trans (h5.mono (by simp))⟩
    clear hsh e1 e2 hf
    go_enter Try.func6, Try.ntmps6
    go_wp2_with fail
    refine (split_awake w).mono ?_
    rintro e w1 ⟨rfl, b1⟩
    go_wp2_with fail
    refine (hS.out w1).mono ?_
    rintro e w2 ⟨a, rfl, b2⟩
    go_wp2_with fail
    refine (hE w2).mono ?_
    rintro e w3 ⟨rfl, rfl⟩
    go_wp2_with fail
    refine (split_same a none [] 0 0 0 w2 rfl (by decide) (.inl rfl) (.inl rfl)).mono ?_
    rintro e w4 ⟨rfl, b6⟩
    have b5 := b1.trans (b2.mono b1.size)
    go_wp2
    go_ret
    exact ⟨rfl, b5.trans (b6.mono b5.size)⟩

theorem noughts_contract (W : World) (args : Array Value) (h : Each Try.prog W Try.f6.params.toList args.toList) :
    Calls Try.prog 6 args W fun e W' => e = .returned (.bool true) ∧ Below W.heap.size W W' := by
  rw [Try.params6] at h
  obtain ⟨v0, r0, e0, ⟨_, o0⟩, d0, h⟩ := h.cons
  obtain ⟨v1, r1, rfl, ⟨_, o1⟩, d1, h⟩ := h.cons
  obtain rfl := h.nil
  obtain ⟨args⟩ := args
  obtain rfl : args = [v0, v1] := e0
  obtain ⟨x0, rfl, hx0⟩ := val_int o0 d0 Try.underlying2
  obtain ⟨x1, rfl, hx1⟩ := val_int o1 d1 Try.underlying5
  have hn : 0 ≤ x1 ∧ x1 ≤ 255 := by
    simp [Lit.wf, IntKind.min, IntKind.max, IntKind.signed, IntKind.bits] at hx1
    omega
  obtain ⟨n, rfl⟩ := Int.eq_ofNat_of_zero_le hn.1
  exact noughts_law x0 n (by omega) W

theorem noughts_lifted (os : Os) (started : os.Started) (H : Type) (enc : TypeId × Value → H) :
    ReturnsInHanded {} Try.checked os 6 .any (Rows.splitNoughtsSpec.pre6 enc Try.prog Try.f6 Rows.splitNoughtsRow.domain false) (Rows.splitNoughtsSpec.post enc Try.prog Try.f6 false true false false) :=
  law_lifted (C := Try.checked) seat_own seat_laid (by kernel_rfl) Try.func6 rfl (tb := 4) rfl Try.underlying4
    (by
      rw [Try.params6]; intro t ht; simp at ht
      rcases ht with rfl | rfl <;> exact ⟨by kernel_rfl, of_decide_eq_true (by kernel_rfl)⟩)
    (fun H ds hl => by
      rw [Try.params6] at hl
      match ds, hl with
      | [d1, d2], _ => rfl)
    os started H enc
    (ChangeSpec.witness6 (enc := enc) (C := Try.checked) false ⟨#[], #[.int .i64 0, .int .u8 0], []⟩ 8 (by kernel_rfl) (by kernel_rfl) (by kernel_rfl) (by kernel_rfl))
    noughts_contract

theorem splitNoughts_holds : Rows.SplitNoughtsSaid :=
  OpenClaim.holds_of_wide 6 Try.f6 rfl rfl rfl rfl rfl rfl rfl ⟨rfl, rfl, rfl, rfl, rfl⟩ rfl rfl rfl rfl rfl (by kernel_rfl) Try.func6 (by kernel_rfl)
    (of_decide_eq_true (by kernel_rfl)) (by unfold Func.isWrapper; first | (rw [if_pos (by decide +kernel)]; kernel_rfl) | (rw [if_neg (by decide +kernel)]; exact ⟨rfl, rfl⟩))
    (fun os started H enc _ => noughts_lifted os started H enc)
#print axioms splitNoughts_holds
end Go.Proofs.Ytadaaoljpeojcaa
