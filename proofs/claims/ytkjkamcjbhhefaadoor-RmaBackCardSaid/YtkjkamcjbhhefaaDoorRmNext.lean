/-
  Package rma: Next, by the table; the document's Next; awake. Conditions: those of each theorem ('StepsAt': memory holds the table).
-/
import Derived.Test.YtkjkamcjbhhefaaDoorRmSteps
namespace Go.Proofs.YtkjkamcjbhhefaaDoor
open Go.RowKit
set_option maxRecDepth 100000

/-- The document's state behind what happens; 0: it can't happen. -/
def nextP (state by' : Int) : Int :=
  if by' = 1 then (if state = 1 then 2 else 0) else if by' = 2 then (if state = 2 then 3 else 0) else if by' = 3 then (if state = 3 then 4 else 0) else if by' = 4 then (if state = 4 then 5 else 0) else if by' = 5 then (if state = 3 then 5 else 0)
  else if by' = 6 then (if state = 5 then 6 else 0) else if 7 ≤ by' ∧ by' ≤ 9 then (if state = 1 ∨ state = 2 then by' else 0) else 0
def nextE (n : Int) : Int := if n = 0 then 8 else 0
theorem nextP_at (k : Nat) (hk : k < 12) : nextP (stepRow k).2.1 (stepRow k).1 = (stepRow k).2.2 ∧ (stepRow k).2.2 ≠ 0 := by
  rcases k with _ | _ | _ | _ | _ | _ | _ | _ | _ | _ | _ | _ | k <;> first | exact ⟨by decide, by decide⟩ | omega
theorem nextP_none {state by' : Int} (h : ∀ k, k < 12 → ¬ ((stepRow k).2.1 = state ∧ (stepRow k).1 = by')) : nextP state by' = 0 := by
  have g := fun k (hk : k < 12) (s b : Int) (hs : (stepRow k).2.1 = s) (hb : (stepRow k).1 = b) (x : state = s) (y : by' = b) => h k hk ⟨hs.trans x.symm, hb.trans y.symm⟩
  have g0 := g 0 (by decide) 1 1 rfl rfl
  have g1 := g 1 (by decide) 2 2 rfl rfl
  have g2 := g 2 (by decide) 3 3 rfl rfl
  have g3 := g 3 (by decide) 4 4 rfl rfl
  have g4 := g 4 (by decide) 3 5 rfl rfl
  have g5 := g 5 (by decide) 5 6 rfl rfl
  have g6 := g 6 (by decide) 1 7 rfl rfl
  have g7 := g 7 (by decide) 2 7 rfl rfl
  have g8 := g 8 (by decide) 1 8 rfl rfl
  have g9 := g 9 (by decide) 2 8 rfl rfl
  have g10 := g 10 (by decide) 1 9 rfl rfl
  have g11 := g 11 (by decide) 2 9 rfl rfl
  clear h g
  unfold nextP
  by_cases b1 : by' = 1
  · rw [if_pos b1, if_neg (fun e => g0 e b1)]
  rw [if_neg b1]
  by_cases b2 : by' = 2
  · rw [if_pos b2, if_neg (fun e => g1 e b2)]
  rw [if_neg b2]
  by_cases b3 : by' = 3
  · rw [if_pos b3, if_neg (fun e => g2 e b3)]
  rw [if_neg b3]
  by_cases b4 : by' = 4
  · rw [if_pos b4, if_neg (fun e => g3 e b4)]
  rw [if_neg b4]
  by_cases b5 : by' = 5
  · rw [if_pos b5, if_neg (fun e => g4 e b5)]
  rw [if_neg b5]
  by_cases b6 : by' = 6
  · rw [if_pos b6, if_neg (fun e => g5 e b6)]
  rw [if_neg b6]
  by_cases b7 : 7 ≤ by' ∧ by' ≤ 9
  · rw [if_pos b7, if_neg]
    rintro (e | e)
    · by_cases c : by' = 7
      · exact g6 e c
      · by_cases c : by' = 8
        · exact g8 e c
        · exact g10 e (by omega)
    · by_cases c : by' = 7
      · exact g7 e c
      · by_cases c : by' = 8
        · exact g9 e c
        · exact g11 e (by omega)
  · rw [if_neg b7]

theorem info_steps : (Tryd.prog.info? 56).map (·.size) = some stepCells.size := by kernel_rfl
set_option maxHeartbeats 1000000 in
theorem rma_next {w : World} (hS : StepsAt w) (state by' : Int) :
    Calls Tryd.prog 10 #[.int .i64 state, .int .i64 by'] w fun e w' => e = .returned (.tuple #[.int .i64 (nextP state by'), .int .i64 (nextE (nextP state by'))]) ∧ Below w.heap.size w w' := by
  have hcs : ∀ j v, stepCells[j]? = some v → w.cell? ⟨0, 0 + j, none⟩ = some v := fun j v hv => by rw [Nat.zero_add]; exact hS.val j v hv
  have HS := Lib.hid hS
  clear hS
  go_enter Tryd.func10, Tryd.ntmps10
  go_wp2_with (refine wpList_load_cells rfl 56 _ rfl 0 0 rfl stepCells _ hcs Tryd.underlying56 rfl info_steps ?_)
  clear hcs
  go_loopw [4, 5, 7, 9] (fun _ _ _ i wr => ∃ k : Nat, k ≤ 12 ∧ i = .int .i64 k ∧ Below w.heap.size w wr ∧ Hid (∀ j, j < k → ¬ ((stepRow j).2.1 = state ∧ (stepRow j).1 = by'))) (fun _ _ _ i _ => 12 - (intOf i).toNat)
  case atStart => exact ⟨0, by omega, rfl, Below.refl _ _, fun j hj => by omega⟩
  case round =>
    obtain ⟨k, hk, rfl, hb, HN⟩ := hrel
    by_cases hlt : k < 12
    · obtain ⟨c0, c1, c2⟩ := stepCells_get k hlt
      have hidx : ∀ W : World, (Instr.index 56 (.agg stepCells) (.int .i64 (k : Int))).run Tryd.prog W = .ok (.agg #[.int .i64 (stepRow k).1, .int .i64 (stepRow k).2.1, .int .i64 (stepRow k).2.2]) W := by
        intro W
        rw [run_index_agg (P := Tryd.prog) W 56 55 12 3 _ stepCells .i64 k hlt Tryd.underlying56 Tryd.underlying55 rfl (by kernel_rfl), extract3 c0 c1 c2]
      clear c0 c1 c2
      have hlt12 : (k : Int) < 12 := by omega
      have HP := Lib.hid (nextP_at k hlt)
      have HX : Hid (¬ ((stepRow k).2.1 = state ∧ (stepRow k).1 = by') → ∀ j, j < k + 1 → ¬ ((stepRow j).2.1 = state ∧ (stepRow j).1 = by')) := fun hn j hj => by
        by_cases e : j = k
        · subst e; exact hn
        · exact HN.out j (by omega)
      generalize stepRow k = R at *
      obtain ⟨b, f, t⟩ := R
      dsimp only at *
      by_cases q1 : f = state
      · have hq1 : ((f : Int) == state) = true := by simpa using q1
        by_cases q2 : b = by'
        · have hq2 : ((b : Int) == by') = true := by simpa using q2
          have HE : Hid (nextP state by' = t ∧ nextE t = 0) := ⟨by rw [← q1, ← q2]; exact HP.out.1, by unfold nextE; rw [if_neg HP.out.2]⟩
          clear q1 q2
          go_wp2
          go_ret2
          rw [HE.out.1, HE.out.2]
          refine ⟨rfl, ?_⟩
          repeat (first | exact hb | refine Below.drew ?_ | refine Below.setCell ?_ (by have := hb.size; simp; omega) _ | refine Below.alloc ?_ (by have := hb.size; simp; omega) _)
        · have hq2 : ((b : Int) == by') = false := by simpa using q2
          have HE := Lib.hid (HX.out (fun x => q2 x.2))
          clear q1 q2
          go_wp2
          go_roundw
          case rel => exact ⟨k + 1, by omega, by go_num, by repeat (first | exact hb | refine Below.drew ?_ | refine Below.setCell ?_ (by have := hb.size; simp; omega) _ | refine Below.alloc ?_ (by have := hb.size; simp; omega) _), HE.out⟩
          case measure => simp [intOf]; omega
      · have hq1 : ((f : Int) == state) = false := by simpa using q1
        have HE := Lib.hid (HX.out (fun x => q1 x.1))
        clear q1
        go_wp2
        go_roundw
        case rel => exact ⟨k + 1, by omega, by go_num, by repeat (first | exact hb | refine Below.drew ?_ | refine Below.setCell ?_ (by have := hb.size; simp; omega) _ | refine Below.alloc ?_ (by have := hb.size; simp; omega) _), HE.out⟩
        case measure => simp [intOf]; omega
    · obtain rfl : k = 12 := by omega
      have HE : Hid (nextP state by' = 0) := nextP_none HN.out
      go_wp2
      go_ret2
      rw [HE.out]
      exact ⟨rfl, hb⟩

set_option maxHeartbeats 1000000 in
theorem rma_awake {w : World} (hS : StepsAt w) : Calls Tryd.prog 9 #[] w fun e w' => e = .returned (.bool true) ∧ Below w.heap.size w w' := by
  have HC : Aside _ := rma_next hS 1 1
  rw [show nextP 1 1 = 2 from rfl, show nextE 2 = 0 from rfl] at HC
  go_enter Tryd.func9, Tryd.ntmps9
  go_wp2_with fail
  refine Calls.mono HC.out ?_
  rintro e w1 ⟨rfl, b1⟩
  go_wp2
  go_ret
  exact ⟨rfl, b1⟩
end Go.Proofs.YtkjkamcjbhhefaaDoor
