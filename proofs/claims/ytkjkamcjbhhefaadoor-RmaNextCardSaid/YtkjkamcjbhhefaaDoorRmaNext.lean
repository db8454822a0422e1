/-
  The document's Next; RmaNext: the state behind anything that happens in any state is what the table says, or it can't happen; tied to the program's text. No conditions: every input.
-/
import Derived.Test.YtkjkamcjbhhefaaDoorRmNext
import Derived.Test.YtkjkamcjbhhefaaDoorCards
import Derived.Test.YtkjkamcjbhhefaaDoorTie
import Derived.Lib.SmallJoins
import Derived.SevenTiedAt
namespace Go.Proofs.YtkjkamcjbhhefaaDoor
open Go.RowKit Go.WideShapes
set_option maxRecDepth 100000

set_option maxHeartbeats 2000000 in
theorem ref_next (state by' : Int) (w : World) : Calls Tryd.prog 11 #[.int .i64 state, .int .i64 by'] w fun e w' => e = .returned (.int .i64 (nextP state by')) ∧ w = w' := by
  by_cases b1 : by' = 1
  · subst b1
    by_cases s : state = 1
    · subst s
      go_enter Tryd.func11, Tryd.ntmps11
      go_wp2
      go_ret
      exact ⟨rfl, rfl⟩
    · have hs : ((state : Int) == 1) = false := by simpa using s
      have e : nextP state 1 = 0 := by unfold nextP; simp [s]
      rw [e]
      clear s e
      go_enter Tryd.func11, Tryd.ntmps11
      go_wp2
      go_ret
      exact ⟨rfl, rfl⟩
  by_cases b2 : by' = 2
  · subst b2
    by_cases s : state = 2
    · subst s
      go_enter Tryd.func11, Tryd.ntmps11
      go_wp2
      go_ret
      exact ⟨rfl, rfl⟩
    · have hs : ((state : Int) == 2) = false := by simpa using s
      have e : nextP state 2 = 0 := by unfold nextP; simp [s]
      rw [e]
      clear s e
      go_enter Tryd.func11, Tryd.ntmps11
      go_wp2
      go_ret
      exact ⟨rfl, rfl⟩
  by_cases b3 : by' = 3
  · subst b3
    by_cases s : state = 3
    · subst s
      go_enter Tryd.func11, Tryd.ntmps11
      go_wp2
      go_ret
      exact ⟨rfl, rfl⟩
    · have hs : ((state : Int) == 3) = false := by simpa using s
      have e : nextP state 3 = 0 := by unfold nextP; simp [s]
      rw [e]
      clear s e
      go_enter Tryd.func11, Tryd.ntmps11
      go_wp2
      go_ret
      exact ⟨rfl, rfl⟩
  by_cases b4 : by' = 4
  · subst b4
    by_cases s : state = 4
    · subst s
      go_enter Tryd.func11, Tryd.ntmps11
      go_wp2
      go_ret
      exact ⟨rfl, rfl⟩
    · have hs : ((state : Int) == 4) = false := by simpa using s
      have e : nextP state 4 = 0 := by unfold nextP; simp [s]
      rw [e]
      clear s e
      go_enter Tryd.func11, Tryd.ntmps11
      go_wp2
      go_ret
      exact ⟨rfl, rfl⟩
  by_cases b5 : by' = 5
  · subst b5
    by_cases s : state = 3
    · subst s
      go_enter Tryd.func11, Tryd.ntmps11
      go_wp2
      go_ret
      exact ⟨rfl, rfl⟩
    · have hs : ((state : Int) == 3) = false := by simpa using s
      have e : nextP state 5 = 0 := by unfold nextP; simp [s]
      rw [e]
      clear s e
      go_enter Tryd.func11, Tryd.ntmps11
      go_wp2
      go_ret
      exact ⟨rfl, rfl⟩
  by_cases b6 : by' = 6
  · subst b6
    by_cases s : state = 5
    · subst s
      go_enter Tryd.func11, Tryd.ntmps11
      go_wp2
      go_ret
      exact ⟨rfl, rfl⟩
    · have hs : ((state : Int) == 5) = false := by simpa using s
      have e : nextP state 6 = 0 := by unfold nextP; simp [s]
      rw [e]
      clear s e
      go_enter Tryd.func11, Tryd.ntmps11
      go_wp2
      go_ret
      exact ⟨rfl, rfl⟩
  by_cases b7 : by' = 7
  · subst b7
    by_cases s : state = 1
    · subst s
      go_enter Tryd.func11, Tryd.ntmps11
      go_wp2
      go_ret
      exact ⟨rfl, rfl⟩
    · by_cases s2 : state = 2
      · subst s2
        go_enter Tryd.func11, Tryd.ntmps11
        go_wp2
        go_ret
        exact ⟨rfl, rfl⟩
      · have hs : ((state : Int) == 1) = false := by simpa using s
        have hs2 : ((state : Int) == 2) = false := by simpa using s2
        have e : nextP state 7 = 0 := by unfold nextP; simp [s, s2]
        rw [e]
        clear s s2 e
        go_enter Tryd.func11, Tryd.ntmps11
        go_wp2
        go_ret
        exact ⟨rfl, rfl⟩
  by_cases b8 : by' = 8
  · subst b8
    by_cases s : state = 1
    · subst s
      go_enter Tryd.func11, Tryd.ntmps11
      go_wp2
      go_ret
      exact ⟨rfl, rfl⟩
    · by_cases s2 : state = 2
      · subst s2
        go_enter Tryd.func11, Tryd.ntmps11
        go_wp2
        go_ret
        exact ⟨rfl, rfl⟩
      · have hs : ((state : Int) == 1) = false := by simpa using s
        have hs2 : ((state : Int) == 2) = false := by simpa using s2
        have e : nextP state 8 = 0 := by unfold nextP; simp [s, s2]
        rw [e]
        clear s s2 e
        go_enter Tryd.func11, Tryd.ntmps11
        go_wp2
        go_ret
        exact ⟨rfl, rfl⟩
  by_cases b9 : by' = 9
  · subst b9
    by_cases s : state = 1
    · subst s
      go_enter Tryd.func11, Tryd.ntmps11
      go_wp2
      go_ret
      exact ⟨rfl, rfl⟩
    · by_cases s2 : state = 2
      · subst s2
        go_enter Tryd.func11, Tryd.ntmps11
        go_wp2
        go_ret
        exact ⟨rfl, rfl⟩
      · have hs : ((state : Int) == 1) = false := by simpa using s
        have hs2 : ((state : Int) == 2) = false := by simpa using s2
        have e : nextP state 9 = 0 := by unfold nextP; simp [s, s2]
        rw [e]
        clear s s2 e
        go_enter Tryd.func11, Tryd.ntmps11
        go_wp2
        go_ret
        exact ⟨rfl, rfl⟩
  have e : nextP state by' = 0 := by unfold nextP; simp only [b1, b2, b3, b4, b5, b6, if_false]; rw [if_neg (by omega)]
  rw [e]
  have h1 : ((by' : Int) == 1) = false := by simpa using b1
  have h2 : ((by' : Int) == 2) = false := by simpa using b2
  have h3 : ((by' : Int) == 3) = false := by simpa using b3
  have h4 : ((by' : Int) == 4) = false := by simpa using b4
  have h5 : ((by' : Int) == 5) = false := by simpa using b5
  have h6 : ((by' : Int) == 6) = false := by simpa using b6
  have h7 : ((by' : Int) == 7) = false := by simpa using b7
  have h8 : ((by' : Int) == 8) = false := by simpa using b8
  have h9 : ((by' : Int) == 9) = false := by simpa using b9
  clear e b1 b2 b3 b4 b5 b6 b7 b8 b9
  go_enter Tryd.func11, Tryd.ntmps11
  go_wp2
  go_ret
  exact ⟨rfl, rfl⟩

set_option maxHeartbeats 1000000 in
theorem rmaNext_law (state by' : Int) (w : World) (hS : StepsAt w) : Calls Tryd.prog 3 #[.int .i64 state, .int .i64 by'] w fun e w' => e = .returned (.bool true) ∧ Below w.heap.size w w' := by
  have HS := Lib.hid hS
  clear hS
  go_enter Tryd.func3, Tryd.ntmps3
  go_wp2_with fail
  refine Calls.mono (rma_awake HS.out) ?_
  rintro e w1 ⟨rfl, b1⟩
  go_wp2_with fail
  refine Calls.mono (rma_next (HS.out.below b1) state by') ?_
  rintro e w2 ⟨rfl, b2⟩
  have B2 := Lib.hid (b1.trans (b2.mono b1.size))
  clear b1 b2
  go_wp2_with fail
  refine Calls.mono (ref_next state by' w2) ?_
  rintro e w3 ⟨rfl, rfl⟩
  generalize nextP state by' = n
  by_cases h : n = 0
  · subst h
    rw [show nextE 0 = 8 from rfl]
    go_wp2
    go_ret
    exact ⟨rfl, B2.out⟩
  · have e : nextE n = 0 := by unfold nextE; rw [if_neg h]
    rw [e]
    have h1 : ((n : Int) == 0) = false := by simpa using h
    have h2 : ((n : Int) != 0) = true := by simpa using h
    clear e h
    go_wp2
    go_ret
    exact ⟨rfl, B2.out⟩

theorem rmaNext_contract (W : World) (args : Array Value) (hL : laidMetH Tryd.prog stepsLaid W) (h : Each Tryd.prog W Tryd.f3.params.toList args.toList) :
    Calls Tryd.prog 3 args W fun e W' => e = .returned (.bool true) ∧ Below W.heap.size W W' := by
  rw [Tryd.params3] at h
  obtain ⟨v0, r0, e0, ⟨_, o0⟩, d0, h⟩ := h.cons
  obtain ⟨v1, r1, rfl, ⟨_, o1⟩, d1, h⟩ := h.cons
  obtain rfl := h.nil
  obtain ⟨args⟩ := args
  obtain rfl : args = [v0, v1] := e0
  obtain ⟨x0, rfl, hx0⟩ := val_int o0 d0 Tryd.underlying3
  obtain ⟨x1, rfl, hx1⟩ := val_int o1 d1 Tryd.underlying3
  exact rmaNext_law _ _ W (steps_of_laid hL)

theorem rmaNext_lifted (os : Os) (started : os.Started) (H : Type) (enc : TypeId × Value → H) :
    ReturnsInHanded {} Tryd.checked os 3 .any (fun w args => (Rows.rmaNextSpec.pre enc Tryd.prog Tryd.f3 [] false w args ∧ laidMetH Tryd.prog stepsLaid w) ∧ sizedMet enc Tryd.prog Tryd.f3 (OpenSpec.ofChange Rows.rmaNextSpec) false w args)
      (Rows.rmaNextSpec.post enc Tryd.prog Tryd.f3 false true false false) :=
  law_lifted_laid (C := Tryd.checked) seat_own seat_laid (by kernel_rfl) Tryd.func3 rfl (tb := 4) rfl Tryd.underlying4
    (by
      rw [Tryd.params3]; intro t ht; simp at ht
      rcases ht with rfl | rfl <;> exact ⟨by kernel_rfl, of_decide_eq_true (by kernel_rfl)⟩)
    (fun H ds hl => by
      rw [Tryd.params3] at hl
      match ds, hl with
      | [d1, d2], _ => rfl)
    os started H enc
    (ChangeSpec.witness_shaped (enc := enc) (C := Tryd.checked) (os := os) (X := fun w _ => laidMetH Tryd.prog stepsLaid w) false (World.doorLaid Tryd.prog 26 os) #[.int .i64 0, .int .i64 0] 8 rfl (World.shaped_of_RefB (by kernel_rfl) (by kernel_rfl)) (by kernel_rfl) (by kernel_rfl) (by kernel_rfl) (door_met os _))
    rmaNext_contract

theorem rmaNext_holds : Rows.RmaNextSaid :=
  OpenClaim.holds_of_wide 3 Tryd.f3 rfl rfl rfl rfl rfl rfl rfl ⟨rfl, rfl, rfl, rfl, rfl⟩ rfl rfl rfl rfl rfl (by kernel_rfl) Tryd.func3 (by kernel_rfl)
    (of_decide_eq_true (by kernel_rfl)) (by unfold Func.isWrapper; first | (rw [if_pos (by decide +kernel)]; kernel_rfl) | (rw [if_neg (by decide +kernel)]; exact ⟨rfl, rfl⟩))
    (fun os started H enc _ => rmaNext_lifted os started H enc)

theorem rmaNext_card : Rows.RmaNextCardSaid :=
  Claim7.holds_tied_plain_at .later [] [.data] true _ false
    rmaNext_holds (fun _ h => by cases h) (by kernel_rfl) (fun _ h => by cases h) rmaNext_row_tie rfl ⟨rfl, rfl⟩ (by kernel_rfl) rfl
    (fun f fn hf hfn => by
      obtain rfl : f = 3 := Option.some.inj ((show Tryd.prog.funcNamed "recoup/recouplaw14.RmaNext" = some 3 by kernel_rfl).symm.trans hf) |>.symm
      obtain rfl : fn = Tryd.f3 := (Option.some.inj (Tryd.func3.symm.trans hfn)).symm
      exact ⟨by kernel_rfl, fun j t ht => by
        rw [Tryd.params3] at ht
        have hm : t ∈ [3, 3] := by simpa using Array.mem_of_getElem? ht
        have hall : ([3, 3].all fun u => !Tryd.prog.wantsStandIn u) = true := by kernel_rfl
        exact (show Tryd.prog.wantsStandIn t = false by simpa using List.all_eq_true.1 hall t hm)⟩)
    (by kernel_rfl)
#print axioms rmaNext_card
end Go.Proofs.YtkjkamcjbhhefaaDoor
