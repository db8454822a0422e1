/-
  LedgerBack: what is posted, and posted back, is as it was. No conditions: every input.
-/
import Derived.Test.YtaboaljpnacnfaaLedgerLaw
import Derived.Test.YtaboaljpnacnfaaOwn
namespace Go.Proofs.Ytaboaljpnacnfaa
open Go.RowKit Go.WideShapes
set_option maxRecDepth 100000

/-- Posted back all is as it was. -/
theorem post_back {g : Nat → Int} {f t s : Int} (h : postE g f t s = 0) : postE (postL g f t s) t f s = 0 ∧ five (postL (postL g f t s) t f s) = five g := by
  obtain ⟨h1, h2, h3⟩ := postE_yes h
  have h4 := goodArgs_iff.1 h1
  have hne : f.toNat ≠ t.toNat := by omega
  have hf := posted_from (g := g) (s := s) hne
  have ht := posted_to (g := g) (f := f) (t := t) (s := s)
  have ho := fun k => posted_other (g := g) (f := f) (t := t) (s := s) (k := k)
  rw [postL_yes h]
  generalize posted g f t s = x at *
  have hE : postE x t f s = 0 := by
    unfold postE
    rw [if_pos (goodArgs_iff.2 (by omega)), hf, ht]
    simp only [Bool.and_eq_true] at h2 h3
    rw [if_pos]
    simp only [Bool.and_eq_true, h2, h3, Int.add_sub_cancel, Int.sub_add_cancel, and_self]
  refine ⟨hE, ?_⟩
  rw [postL_yes hE]
  have hk : ∀ k, posted x t f s k = g k := by
    intro k
    by_cases a : k = f.toNat
    · subst a; rw [posted_to, hf]; omega
    · by_cases b : k = t.toNat
      · subst b; rw [posted_from (by omega), ht]; omega
      · rw [posted_other b a, ho k a b]
  unfold five
  rw [hk, hk, hk, hk, hk]

theorem back_law (g : Nat → Int) (f t s : Int) (w : World) : Calls Try.prog 5 #[.agg (five g), .agg (posting f t s)] w fun e w' => e = .returned (.bool true) ∧ Below w.heap.size w w' := by
  have h1 := fun W => ledger_post g f t s W
  have H1 : Aside _ := h1
  clear h1
  by_cases h : postE g f t s = 0
  · obtain ⟨p1, p2⟩ := post_back h
    have h2 := fun W => ledger_post (postL g f t s) t f s W
    rw [p1, p2] at h2
    have H2 : Aside _ := h2
    rw [h] at H1
    clear p1 p2 h2 h
    generalize postL g f t s = x at *
    unfold five at H1 H2
    go_enter Try.func5, Try.ntmps5
    go_wp2_with fail
    refine (ledger_awake _).mono ?_
    rintro e w1 ⟨rfl, b1⟩
    have q1 := ((five_new w g 22).alloc (.cells (posting f t s) 28)).below b1 (by simp; omega)
    have q2 := (post_new (w.alloc (.cells (five g) 22)) f t s 28).below b1 (by simp)
    have b0 : Below w.heap.size w w1 := (below_two w _ _).trans (b1.mono (by simp; omega))
    have q3 := b0.size
    clear b1
    obtain ⟨l1, f1, c0, c1, c2, c3, c4⟩ := q1
    obtain ⟨l2, d0, d1, d2⟩ := q2
    simp only [World.size_alloc] at l2 d0 d1 d2
    go_wp2_with fail
    refine (H1.out _).mono ?_
    rintro e w2 ⟨rfl, b2⟩
    have q4 := (five_new w1 g 26).below b2 (by simp)
    have q5 := ((PostAt.mk l2 d0 d1 d2).alloc (.cells (five g) 26)).below b2 (by simp; omega)
    have b3 : Below w.heap.size w w2 := below_box b0 b2
    have q6 := b2.size
    have q7 := b3.size
    simp only [World.size_alloc] at q6
    clear f1 c0 c1 c2 c3 c4 d0 d1 d2 b0 b2 l1 l2
    obtain ⟨l1, f1, c0, c1, c2, c3, c4⟩ := q4
    obtain ⟨l2, d0, d1, d2⟩ := q5
    go_wp2_with fail
    refine (H2.out _).mono ?_
    rintro e w3 ⟨rfl, b4⟩
    have q8 := (five_new w2 x 26).below b4 (by simp)
    have q9 := ((FiveAt.mk l1 f1 c0 c1 c2 c3 c4).alloc (.cells (five x) 26)).below b4 (by simp; omega)
    have b5 : Below w.heap.size w w3 := below_box b3 b4
    have q10 := b4.size
    have q11 := b5.size
    simp only [World.size_alloc] at q10
    clear f1 c0 c1 c2 c3 c4 d0 d1 d2 b3 b4 l1 l2
    obtain ⟨l1, f1, c0, c1, c2, c3, c4⟩ := q8
    obtain ⟨l2, _, d0, d1, d2, d3, d4⟩ := q9
    have hq := run_equal_five 9997 g g
    rw [same5_self] at hq
    unfold five at hq
    go_wp2
    go_ret
    exact ⟨rfl, b5.alloc b5.size _⟩
  · rw [postL_no h] at H1
    generalize postE g f t s = k at *
    have hk : (k == 0) = false := by simpa using h
    have hk2 : ¬ k = 0 := h
    clear h
    unfold five at H1
    go_enter Try.func5, Try.ntmps5
    go_wp2_with fail
    refine (ledger_awake _).mono ?_
    rintro e w1 ⟨rfl, b1⟩
    have q1 := ((five_new w g 22).alloc (.cells (posting f t s) 28)).below b1 (by simp; omega)
    have q2 := (post_new (w.alloc (.cells (five g) 22)) f t s 28).below b1 (by simp)
    have b0 : Below w.heap.size w w1 := (below_two w _ _).trans (b1.mono (by simp; omega))
    have q3 := b0.size
    clear b1
    obtain ⟨l1, f1, c0, c1, c2, c3, c4⟩ := q1
    obtain ⟨l2, d0, d1, d2⟩ := q2
    simp only [World.size_alloc] at l2 d0 d1 d2
    go_wp2_with fail
    refine (H1.out _).mono ?_
    rintro e w2 ⟨rfl, b2⟩
    have b3 : Below w.heap.size w w2 := below_box b0 b2
    clear f1 c0 c1 c2 c3 c4 d0 d1 d2 b0 b2 l1 l2
    have hq := run_equal_five 9997 (fun _ => 0) (fun _ => 0)
    rw [same5_self] at hq
    unfold five at hq
    go_wp2
    go_ret
    exact ⟨rfl, b3.alloc b3.size _⟩

theorem back_contract (W : World) (args : Array Value) (h : Each Try.prog W Try.f5.params.toList args.toList) :
    Calls Try.prog 5 args W fun e W' => e = .returned (.bool true) ∧ Below W.heap.size W W' := by
  rw [Try.params5] at h
  obtain ⟨v0, r0, e0, ⟨_, o0⟩, d0, h⟩ := h.cons
  obtain ⟨v1, r1, rfl, ⟨_, o1⟩, d1, h⟩ := h.cons
  obtain rfl := h.nil
  obtain ⟨args⟩ := args
  obtain rfl : args = [v0, v1] := e0
  obtain ⟨g0, rfl, hg0⟩ := val_five o0 d0
  obtain ⟨pf1, pt1, ps1, rfl, hpf1, hpt1, hps1⟩ := val_posting o1 d1
  exact back_law g0 pf1 pt1 ps1 W

theorem back_lifted (os : Os) (started : os.Started) (H : Type) (enc : TypeId × Value → H) :
    ReturnsInHanded {} Try.checked os 5 .any (Rows.ledgerBackSpec.pre6 enc Try.prog Try.f5 Rows.ledgerBackRow.domain false) (Rows.ledgerBackSpec.post enc Try.prog Try.f5 false true false false) :=
  law_lifted (C := Try.checked) seat_own seat_laid (by kernel_rfl) Try.func5 rfl (tb := 4) rfl Try.underlying4
    (by
      rw [Try.params5]; intro t ht; simp at ht
      rcases ht with rfl | rfl <;> exact ⟨by kernel_rfl, of_decide_eq_true (by kernel_rfl)⟩)
    (fun H ds hl => by
      rw [Try.params5] at hl
      match ds, hl with
      | [d1, d2], _ => rfl)
    os started H enc
    (ChangeSpec.witness6 (enc := enc) (C := Try.checked) false ⟨#[], #[.agg #[.int .i64 0, .int .i64 0, .int .i64 0, .int .i64 0, .int .i64 0], .agg #[.int .i64 0, .int .i64 0, .int .i64 0]], []⟩ 8 (by kernel_rfl) (by kernel_rfl) (by kernel_rfl) (by kernel_rfl))
    back_contract

theorem ledgerBack_holds : Rows.LedgerBackSaid :=
  OpenClaim.holds_of_wide 5 Try.f5 rfl rfl rfl rfl rfl rfl rfl ⟨rfl, rfl, rfl, rfl, rfl⟩ rfl rfl rfl rfl rfl (by kernel_rfl) Try.func5 (by kernel_rfl)
    (of_decide_eq_true (by kernel_rfl)) (by unfold Func.isWrapper; first | (rw [if_pos (by decide +kernel)]; kernel_rfl) | (rw [if_neg (by decide +kernel)]; exact ⟨rfl, rfl⟩))
    (fun os started H enc _ => back_lifted os started H enc)
#print axioms ledgerBack_holds
end Go.Proofs.Ytaboaljpnacnfaa
