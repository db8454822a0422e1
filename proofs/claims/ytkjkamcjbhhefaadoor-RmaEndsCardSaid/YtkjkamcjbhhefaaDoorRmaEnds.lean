/-
  RmaEnds: whatever happens, one behind the other, what is done stays so, and a return is done behind at most six steps; tied to the program's text. No conditions: every input.
-/
import Derived.Test.YtkjkamcjbhhefaaDoorRmNext
import Derived.Test.YtkjkamcjbhhefaaDoorRm
import Derived.Test.YtkjkamcjbhhefaaDoorCards
import Derived.Test.YtkjkamcjbhhefaaDoorTie
import Derived.Lib.SmallJoins
import Derived.SevenTiedAt
namespace Go.Proofs.YtkjkamcjbhhefaaDoor
open Go.RowKit Go.WideShapes
set_option maxRecDepth 100000

/-- How many steps there may have been. -/
def lvl (s : Int) : Int := if s = 1 then 0 else if s = 2 then 1 else if s = 3 then 2 else if s = 4 then 3 else if s = 5 then 4 else 5
theorem nextP_lvl {s b : Int} (h : nextP s b ≠ 0) : fromB 6 s 9 = false ∧ lvl s + 1 ≤ lvl (nextP s b) ∧ lvl (nextP s b) ≤ 5 := by
  have hs : s = 1 ∨ s = 2 ∨ s = 3 ∨ s = 4 ∨ s = 5 := by
    apply Classical.byContradiction
    intro hn
    apply h
    unfold nextP
    simp only [not_or] at hn
    simp [hn.1, hn.2.1, hn.2.2.1, hn.2.2.2.1, hn.2.2.2.2]
  have hb : b = 1 ∨ b = 2 ∨ b = 3 ∨ b = 4 ∨ b = 5 ∨ b = 6 ∨ b = 7 ∨ b = 8 ∨ b = 9 := by
    apply Classical.byContradiction
    intro hn
    apply h
    unfold nextP
    simp only [not_or] at hn
    obtain ⟨b1, b2, b3, b4, b5, b6, b7, b8, b9⟩ := hn
    rw [if_neg b1, if_neg b2, if_neg b3, if_neg b4, if_neg b5, if_neg b6, if_neg (by omega)]
  rcases hs with rfl | rfl | rfl | rfl | rfl <;> rcases hb with rfl | rfl | rfl | rfl | rfl | rfl | rfl | rfl | rfl <;> first | exact absurd rfl h | exact ⟨by decide, by decide, by decide⟩

set_option maxHeartbeats 1000000 in
theorem ends_far (a : Option Addr) (n c : Nat) (w : World) (hS : StepsAt w) (h : 100 < n) :
    Calls Tryd.prog 4 #[.slice a n c] w fun e w' => e = .returned (.bool true) ∧ Below w.heap.size w w' := by
  have h1 : (100 : Int) < n := by omega
  have HS := Lib.hid hS
  clear hS h
  go_enter Tryd.func4, Tryd.ntmps4
  go_wp2_with fail
  refine Calls.mono (rma_awake HS.out) ?_
  rintro e w1 ⟨rfl, b1⟩
  go_wp2_with fail
  refine Calls.mono (rma_awake (HS.out.below b1)) ?_
  rintro e w2 ⟨rfl, b2⟩
  go_wp2
  go_ret
  exact ⟨rfl, b1.trans (b2.mono b1.size)⟩

set_option maxHeartbeats 2000000 in
theorem ends_near (a : Option Addr) (xs : List UInt8) (n c : Nat) (w : World) (hS : StepsAt w) (hn : xs.length = n) (hx : IsBytes w a xs) (h : ¬ 100 < n) :
    Calls Tryd.prog 4 #[.slice a n c] w fun e w' => e = .returned (.bool true) ∧ Below w.heap.size w w' := by
  have h1 : ¬ (100 : Int) < n := by omega
  have hn100 : n ≤ 100 := by omega
  have HS := Lib.hid hS
  have HN := Lib.hid hn
  clear hS h hn
  go_enter Tryd.func4, Tryd.ntmps4
  go_wp2_with fail
  refine Calls.mono (rma_awake HS.out) ?_
  rintro e w1 ⟨rfl, b1⟩
  have B1 : Aside _ := b1
  clear b1
  go_wp2
  go_loopw [3, 4, 5, 6, 7, 18] (fun st sp _ _ _ i wr => ∃ (k : Nat) (s p : Int), k ≤ n ∧ i = .int .i64 k ∧ st = .int .i64 s ∧ sp = .int .i64 p ∧ 0 ≤ p ∧ Hid (p ≤ lvl s ∧ lvl s ≤ 5) ∧ p ≤ 5 ∧ Aside (Below w.heap.size w wr)) (fun _ _ _ _ _ i _ => n - (intOf i).toNat)
  case atStart => exact ⟨0, 1, 0, Nat.zero_le _, rfl, rfl, rfl, by omega, ⟨by decide, by decide⟩, by omega, B1.out⟩
  case round =>
    obtain ⟨k, s, p, hk, rfl, rfl, rfl, hp0, HP, hp5, HB⟩ := hrel
    by_cases hlt : k < n
    · have hkn : (k : Int) < (n : Int) := by omega
      have hk0 : (0 : Int) ≤ (k : Int) := by omega
      rcases hx with rfl | ⟨b, off, rfl, hb, hcs⟩
      · have := HN.out; simp at this; omega
      have hlk : k < xs.length := by rw [HN.out]; exact hlt
      have hck : wr.cell? ⟨b, off + k, none⟩ = some (.int .u8 (xs[k].toNat : Int)) := (HB.out.cell (p := ⟨b, off + k, none⟩) hb).trans (hcs k hlk)
      have hx0 : (0 : Int) ≤ (xs[k].toNat : Int) := by omega
      have hx1 : (xs[k].toNat : Int) < 256 := by have := xs[k].toNat_lt; omega
      clear hcs
      generalize (xs[k].toNat : Int) = x at *
      have hr0 : 0 ≤ x % 10 := by omega
      have hr1 : x % 10 < 10 := by omega
      have HC : Aside _ := rma_next (HS.out.below HB.out) s (x % 10)
      by_cases hq : nextP s (x % 10) = 0
      · rw [hq] at HC
        rw [show nextE 0 = 8 from rfl] at HC
        clear hq
        go_wp2_with fail
        refine Calls.mono HC.out ?_
        rintro e w2 ⟨rfl, b2⟩
        have B2 : Aside _ := HB.out.trans (b2.mono HB.out.size)
        clear b2 HC HB
        go_wp2
        go_roundw
        case rel => exact ⟨k + 1, s, p, by omega, by go_num, rfl, rfl, hp0, HP, hp5, B2.out⟩
        case measure => simp [intOf]; omega
      · have HL := Lib.hid (nextP_lvl hq)
        have e : nextE (nextP s (x % 10)) = 0 := by unfold nextE; rw [if_neg hq]
        rw [e] at HC
        have hp6 : p + 1 ≤ 5 := by have := HL.out.2; have := HP.out; omega
        have HP2 : Hid (p + 1 ≤ lvl (nextP s (x % 10)) ∧ lvl (nextP s (x % 10)) ≤ 5) := ⟨by have := HL.out.2; have := HP.out; omega, HL.out.2.2⟩
        have HD : Aside (∀ w, Calls Tryd.prog 12 #[.agg #[.int .i64 0, .int .i64 0, .int .i64 0, .int .i64 0, .int .i64 0, .bool false, .int .i64 s, .int .i64 0, .slice none 0 0, .slice none 0 0, .int .i64 0, .int .i64 0, .int .i64 0, .int .i64 0]] w fun e w' => e = .returned (.bool false) ∧ Below w.heap.size w w') := fun w => by
          have := rma_done { ret0 with st := s } w
          rw [HL.out.1] at this
          exact this
        generalize nextP s (x % 10) = s' at *
        clear hq e
        go_wp2_with fail
        refine Calls.mono HC.out ?_
        rintro e w2 ⟨rfl, b2⟩
        have B2 : Aside _ := HB.out.trans (b2.mono HB.out.size)
        clear b2 HC HB
        go_wp2_with fail
        refine Calls.mono (HD.out _) ?_
        rintro e w3 ⟨rfl, b3⟩
        have B3 : Aside _ := B2.out.trans (b3.mono B2.out.size)
        clear b3 B2 HD
        go_wp2
        go_roundw
        case rel => exact ⟨k + 1, s', p + 1, by omega, by go_num, rfl, rfl, by omega, HP2, hp6, B3.out⟩
        case measure => simp [intOf]; omega
    · obtain rfl : k = n := by omega
      have hp6 : p ≤ 6 := by omega
      go_wp2
      go_ret
      exact ⟨rfl, HB.out⟩

theorem rmaEnds_law (a : Option Addr) (xs : List UInt8) (n c : Nat) (w : World) (hS : StepsAt w) (hn : xs.length = n) (hx : IsBytes w a xs) (_hc : n ≤ c) (_hcm : c ≤ maxLen) :
    Calls Tryd.prog 4 #[.slice a n c] w fun e w' => e = .returned (.bool true) ∧ Below w.heap.size w w' := by
  by_cases h : 100 < n
  · exact ends_far a n c w hS h
  · exact ends_near a xs n c w hS hn hx h

theorem rmaEnds_contract (W : World) (args : Array Value) (hL : laidMetH Tryd.prog stepsLaid W) (h : Each Tryd.prog W Tryd.f4.params.toList args.toList) :
    Calls Tryd.prog 4 args W fun e W' => e = .returned (.bool true) ∧ Below W.heap.size W W' := by
  rw [Tryd.params4] at h
  obtain ⟨v0, r0, e0, ⟨_, o0⟩, d0, h⟩ := h.cons
  obtain rfl := h.nil
  obtain ⟨args⟩ := args
  obtain rfl : args = [v0] := e0
  obtain ⟨sa0, sn0, sc0, rfl, hsc0⟩ := val_slice o0 Tryd.underlying28
  rw [hsc0] at d0
  obtain ⟨a0', c0', xs0, e, h1, h2, h3, h4⟩ := d0.bytes Tryd.underlying28 Tryd.underlying5 (by kernel_rfl)
  injection e with e _
  injection e with e1 e2 e3
  subst e1 e2 e3
  exact rmaEnds_law sa0 xs0 xs0.length sc0 W (steps_of_laid hL) rfl h3 h1 h2

theorem rmaEnds_lifted (os : Os) (started : os.Started) (H : Type) (enc : TypeId × Value → H) :
    ReturnsInHanded {} Tryd.checked os 4 .any (fun w args => (Rows.rmaEndsSpec.pre enc Tryd.prog Tryd.f4 [] false w args ∧ laidMetH Tryd.prog stepsLaid w) ∧ sizedMet enc Tryd.prog Tryd.f4 (OpenSpec.ofChange Rows.rmaEndsSpec) false w args)
      (Rows.rmaEndsSpec.post enc Tryd.prog Tryd.f4 false true false false) :=
  law_lifted_laid (C := Tryd.checked) seat_own seat_laid (by kernel_rfl) Tryd.func4 rfl (tb := 4) rfl Tryd.underlying4
    (by
      rw [Tryd.params4]; intro t ht; simp at ht
      obtain rfl := ht; exact ⟨by kernel_rfl, of_decide_eq_true (by kernel_rfl)⟩)
    (fun H ds hl => by
      rw [Tryd.params4] at hl
      match ds, hl with
      | [d1], _ => rfl)
    os started H enc
    (ChangeSpec.witness_shaped (enc := enc) (C := Tryd.checked) (os := os) (X := fun w _ => laidMetH Tryd.prog stepsLaid w) false (World.doorLaid Tryd.prog 26 os) #[.slice none 0 0] 8 rfl (World.shaped_of_RefB (by kernel_rfl) (by kernel_rfl)) (by kernel_rfl) (by kernel_rfl) (by kernel_rfl) (door_met os _))
    rmaEnds_contract

theorem rmaEnds_holds : Rows.RmaEndsSaid :=
  OpenClaim.holds_of_wide 4 Tryd.f4 rfl rfl rfl rfl rfl rfl rfl ⟨rfl, rfl, rfl, rfl, rfl⟩ rfl rfl rfl rfl rfl (by kernel_rfl) Tryd.func4 (by kernel_rfl)
    (of_decide_eq_true (by kernel_rfl)) (by unfold Func.isWrapper; first | (rw [if_pos (by decide +kernel)]; kernel_rfl) | (rw [if_neg (by decide +kernel)]; exact ⟨rfl, rfl⟩))
    (fun os started H enc _ => rmaEnds_lifted os started H enc)

theorem rmaEnds_card : Rows.RmaEndsCardSaid :=
  Claim7.holds_tied_plain_at .later [] [.data] true _ false
    rmaEnds_holds (fun _ h => by cases h) (by kernel_rfl) (fun _ h => by cases h) rmaEnds_row_tie rfl ⟨rfl, rfl⟩ (by kernel_rfl) rfl
    (fun f fn hf hfn => by
      obtain rfl : f = 4 := Option.some.inj ((show Tryd.prog.funcNamed "recoup/recouplaw14.RmaEnds" = some 4 by kernel_rfl).symm.trans hf) |>.symm
      obtain rfl : fn = Tryd.f4 := (Option.some.inj (Tryd.func4.symm.trans hfn)).symm
      exact ⟨by kernel_rfl, fun j t ht => by
        rw [Tryd.params4] at ht
        have hm : t ∈ [28] := by simpa using Array.mem_of_getElem? ht
        have hall : ([28].all fun u => !Tryd.prog.wantsStandIn u) = true := by kernel_rfl
        exact (show Tryd.prog.wantsStandIn t = false by simpa using List.all_eq_true.1 hall t hm)⟩)
    (by kernel_rfl)
#print axioms rmaEnds_card
end Go.Proofs.YtkjkamcjbhhefaaDoor
