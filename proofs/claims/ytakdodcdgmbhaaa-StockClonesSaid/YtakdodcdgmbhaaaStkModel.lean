/-
  The statements' own side: recoupref16.Moved; recouplaw11.model. Conditions: those of each theorem.
-/
import Derived.Test.YtakdodcdgmbhaaaStkNew
import Derived.Test.YtakdodcdgmbhaaaStkMove
namespace Go.Proofs.Ytakdodcdgmbhaaa
open Go.RowKit Go.WideShapes
set_option maxRecDepth 100000

/-- A unit's cells, as the document's side has them. -/
def Itm.rarr (x : Itm) : Array Value := #[.int .i64 x.place, .int .i64 x.sku, .bool x.rcv, .bool x.grd]
theorem info_unit4 : (Try.prog.info? 37).map (·.size) = some 4 := by kernel_rfl
theorem info_unitz : (Try.prog.info? 37).map (fun i => (i.zero, i.size, i.bytes)) = some (some (.agg #[.int .i64 0, .int .i64 0, .bool false, .bool false]), 4, 24) := by kernel_rfl

set_option maxHeartbeats 2000000 in
theorem stk_moved_yes (x : Itm) (z : Int) (w : World) (hm : mayB x.place z = true) : Calls Try.prog 12 #[.agg x.rarr, .int .i64 z] w fun e w' => e = .returned (.tuple #[.agg (x.moved z).rarr, .bool true]) ∧ Below w.heap.size w w' := by
  have HM : Aside (∀ W, _) := fun W => stk_rmay x.place z W
  rw [hm] at HM
  obtain ⟨sku, pl, r, g⟩ := x
  unfold Itm.moved Itm.rarr at *
  dsimp only at *
  have hz : mayB pl z = true → (pl == 1 && z == 2) = (z == 2) := by
    intro h
    by_cases b : z = 2
    · subst b
      by_cases a : pl = 1
      · subst a; rfl
      · exfalso
        unfold mayB at h
        simp [a] at h
    · have : (z == 2) = false := by simpa using b
      rw [this, Bool.and_false]
  rw [hz hm]
  clear hm hz
  have k1 : z = 2 ∨ (z == 2) = false := by
    by_cases a : z = 2
    · exact .inl a
    · exact .inr (by simpa using a)
  have k2 : pl = 2 ∨ (pl == 2) = false := by
    by_cases a : pl = 2
    · exact .inl a
    · exact .inr (by simpa using a)
  rcases k1 with rfl | k1 <;> rcases k2 with rfl | k2
  · go_enter Try.func12, Try.ntmps12
    go_wp2_with fail
    refine Calls.mono (HM.out _) ?_
    rintro e w1 ⟨rfl, rfl⟩
    go_wp2_with fail
    refine bodyPost_ret (results_row_tmp rfl _ _ _ _ _ _ _ rfl (heap_alloc2_new w _ _) Try.underlying37 rfl info_unit4) rfl ⟨by simp, below_two w _ _⟩
  · go_enter Try.func12, Try.ntmps12
    go_wp2_with fail
    refine Calls.mono (HM.out _) ?_
    rintro e w1 ⟨rfl, rfl⟩
    go_wp2_with fail
    refine bodyPost_ret (results_row_tmp rfl _ _ _ _ _ _ _ rfl (heap_alloc2_new w _ _) Try.underlying37 rfl info_unit4) rfl ⟨by simp [k2], below_two w _ _⟩
  · go_enter Try.func12, Try.ntmps12
    go_wp2_with fail
    refine Calls.mono (HM.out _) ?_
    rintro e w1 ⟨rfl, rfl⟩
    go_wp2_with fail
    refine bodyPost_ret (results_row_tmp rfl _ _ _ _ _ _ _ rfl (heap_alloc2_new w _ _) Try.underlying37 rfl info_unit4) rfl ⟨by simp [k1], below_two w _ _⟩
  · go_enter Try.func12, Try.ntmps12
    go_wp2_with fail
    refine Calls.mono (HM.out _) ?_
    rintro e w1 ⟨rfl, rfl⟩
    go_wp2_with fail
    refine bodyPost_ret (results_row_tmp rfl _ _ _ _ _ _ _ rfl (heap_alloc2_new w _ _) Try.underlying37 rfl info_unit4) rfl ⟨by simp [k1, k2], below_two w _ _⟩

theorem stk_moved_no (x : Itm) (z : Int) (w : World) (hm : mayB x.place z = false) : Calls Try.prog 12 #[.agg x.rarr, .int .i64 z] w fun e w' => e = .returned (.tuple #[.agg x.rarr, .bool false]) ∧ Below w.heap.size w w' := by
  have HM : Aside (∀ W, _) := fun W => stk_rmay x.place z W
  rw [hm] at HM
  obtain ⟨sku, pl, r, g⟩ := x
  unfold Itm.rarr at *
  dsimp only at *
  go_enter Try.func12, Try.ntmps12
  go_wp2_with fail
  refine Calls.mono (HM.out _) ?_
  rintro e w1 ⟨rfl, rfl⟩
  go_wp2_with fail
  refine bodyPost_ret (results_row_tmp rfl _ _ _ _ _ _ _ rfl (heap_alloc2_new w _ _) Try.underlying37 rfl info_unit4) rfl ⟨rfl, below_two w _ _⟩

/-- What the document's side answers: the unit, and whether it moved. -/
theorem stk_moved (u : Nat → Itm) (k : Nat) (z : Int) (w : World) : Calls Try.prog 12 #[.agg (u k).rarr, .int .i64 z] w fun e w' => e = .returned (.tuple #[.agg (moveU u k z k).rarr, .bool (mayB (u k).place z)]) ∧ Below w.heap.size w w' := by
  cases hm : mayB (u k).place z
  · have e2 : moveU u k z = u := by unfold moveU; rw [hm]; rfl
    rw [e2]
    exact stk_moved_no (u k) z w hm
  · have e2 : moveU u k z k = (u k).moved z := by unfold moveU putAt; rw [if_pos hm, if_pos rfl]
    rw [e2]
    exact stk_moved_yes (u k) z w hm
end Go.Proofs.Ytakdodcdgmbhaaa
