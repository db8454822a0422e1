/-
  Package stock: May; the document's May. Conditions: those of each theorem.
-/
import Derived.Test.YtakdodcdgmbhaaaBase
namespace Go.Proofs.Ytakdodcdgmbhaaa
open Go.RowKit
set_option maxRecDepth 100000

/-- How a unit moves. -/
def mayB (f t : Int) : Bool :=
  if f = 0 then decide (t = 1) else if f = 1 then decide (t = 2 ∨ t = 6) else if f = 2 then decide (t = 3 ∨ t = 4 ∨ t = 5 ∨ t = 8) else if f = 3 then decide (t = 7) else if f = 7 then decide (t = 3 ∨ t = 8) else if f = 8 then decide (t = 0 ∨ t = 6) else false

set_option maxHeartbeats 1000000 in
theorem stk_may (f t : Int) (w : World) : Calls Try.prog 17 #[.int .i64 f, .int .i64 t] w fun e w' => e = .returned (.bool (mayB f t)) ∧ w' = w := by
  by_cases f0 : f = 0
  · subst f0
    by_cases t1 : t = 1
    · subst t1
      rw [show mayB 0 1 = true from rfl]
      go_enter Try.func17, Try.ntmps17
      go_wp2
      go_ret
      exact ⟨rfl, rfl⟩
    have g1 : (t == 1) = false := by simpa using t1
    rw [show mayB 0 t = false by simp [mayB, t1]]
    go_enter Try.func17, Try.ntmps17
    go_wp2
    go_ret
    exact ⟨rfl, rfl⟩
  by_cases f1 : f = 1
  · subst f1
    by_cases t2 : t = 2
    · subst t2
      rw [show mayB 1 2 = true from rfl]
      go_enter Try.func17, Try.ntmps17
      go_wp2
      go_ret
      exact ⟨rfl, rfl⟩
    by_cases t6 : t = 6
    · subst t6
      rw [show mayB 1 6 = true from rfl]
      go_enter Try.func17, Try.ntmps17
      go_wp2
      go_ret
      exact ⟨rfl, rfl⟩
    have g2 : (t == 2) = false := by simpa using t2
    have g6 : (t == 6) = false := by simpa using t6
    rw [show mayB 1 t = false by simp [mayB, t2, t6]]
    go_enter Try.func17, Try.ntmps17
    go_wp2
    go_ret
    exact ⟨rfl, rfl⟩
  by_cases f2 : f = 2
  · subst f2
    by_cases t3 : t = 3
    · subst t3
      rw [show mayB 2 3 = true from rfl]
      go_enter Try.func17, Try.ntmps17
      go_wp2
      go_ret
      exact ⟨rfl, rfl⟩
    by_cases t4 : t = 4
    · subst t4
      rw [show mayB 2 4 = true from rfl]
      go_enter Try.func17, Try.ntmps17
      go_wp2
      go_ret
      exact ⟨rfl, rfl⟩
    by_cases t5 : t = 5
    · subst t5
      rw [show mayB 2 5 = true from rfl]
      go_enter Try.func17, Try.ntmps17
      go_wp2
      go_ret
      exact ⟨rfl, rfl⟩
    by_cases t8 : t = 8
    · subst t8
      rw [show mayB 2 8 = true from rfl]
      go_enter Try.func17, Try.ntmps17
      go_wp2
      go_ret
      exact ⟨rfl, rfl⟩
    have g3 : (t == 3) = false := by simpa using t3
    have g4 : (t == 4) = false := by simpa using t4
    have g5 : (t == 5) = false := by simpa using t5
    have g8 : (t == 8) = false := by simpa using t8
    rw [show mayB 2 t = false by simp [mayB, t3, t4, t5, t8]]
    go_enter Try.func17, Try.ntmps17
    go_wp2
    go_ret
    exact ⟨rfl, rfl⟩
  by_cases f3 : f = 3
  · subst f3
    by_cases t7 : t = 7
    · subst t7
      rw [show mayB 3 7 = true from rfl]
      go_enter Try.func17, Try.ntmps17
      go_wp2
      go_ret
      exact ⟨rfl, rfl⟩
    have g7 : (t == 7) = false := by simpa using t7
    rw [show mayB 3 t = false by simp [mayB, t7]]
    go_enter Try.func17, Try.ntmps17
    go_wp2
    go_ret
    exact ⟨rfl, rfl⟩
  by_cases f7 : f = 7
  · subst f7
    by_cases t3 : t = 3
    · subst t3
      rw [show mayB 7 3 = true from rfl]
      go_enter Try.func17, Try.ntmps17
      go_wp2
      go_ret
      exact ⟨rfl, rfl⟩
    by_cases t8 : t = 8
    · subst t8
      rw [show mayB 7 8 = true from rfl]
      go_enter Try.func17, Try.ntmps17
      go_wp2
      go_ret
      exact ⟨rfl, rfl⟩
    have g3 : (t == 3) = false := by simpa using t3
    have g8 : (t == 8) = false := by simpa using t8
    rw [show mayB 7 t = false by simp [mayB, t3, t8]]
    go_enter Try.func17, Try.ntmps17
    go_wp2
    go_ret
    exact ⟨rfl, rfl⟩
  by_cases f8 : f = 8
  · subst f8
    by_cases t0 : t = 0
    · subst t0
      rw [show mayB 8 0 = true from rfl]
      go_enter Try.func17, Try.ntmps17
      go_wp2
      go_ret
      exact ⟨rfl, rfl⟩
    by_cases t6 : t = 6
    · subst t6
      rw [show mayB 8 6 = true from rfl]
      go_enter Try.func17, Try.ntmps17
      go_wp2
      go_ret
      exact ⟨rfl, rfl⟩
    have g0 : (t == 0) = false := by simpa using t0
    have g6 : (t == 6) = false := by simpa using t6
    rw [show mayB 8 t = false by simp [mayB, t0, t6]]
    go_enter Try.func17, Try.ntmps17
    go_wp2
    go_ret
    exact ⟨rfl, rfl⟩
  have g0 : (f == 0) = false := by simpa using f0
  have g1 : (f == 1) = false := by simpa using f1
  have g2 : (f == 2) = false := by simpa using f2
  have g3 : (f == 3) = false := by simpa using f3
  have g7 : (f == 7) = false := by simpa using f7
  have g8 : (f == 8) = false := by simpa using f8
  rw [show mayB f t = false by simp [mayB, f0, f1, f2, f3, f7, f8]]
  go_enter Try.func17, Try.ntmps17
  go_wp2
  go_ret
  exact ⟨rfl, rfl⟩

set_option maxHeartbeats 1000000 in
theorem stk_rmay (f t : Int) (w : World) : Calls Try.prog 18 #[.int .i64 f, .int .i64 t] w fun e w' => e = .returned (.bool (mayB f t)) ∧ w' = w := by
  by_cases f0 : f = 0
  · subst f0
    by_cases t1 : t = 1
    · subst t1
      rw [show mayB 0 1 = true from rfl]
      go_enter Try.func18, Try.ntmps18
      go_wp2
      go_ret
      exact ⟨rfl, rfl⟩
    have g1 : (t == 1) = false := by simpa using t1
    rw [show mayB 0 t = false by simp [mayB, t1]]
    go_enter Try.func18, Try.ntmps18
    go_wp2
    go_ret
    exact ⟨rfl, rfl⟩
  by_cases f1 : f = 1
  · subst f1
    by_cases t2 : t = 2
    · subst t2
      rw [show mayB 1 2 = true from rfl]
      go_enter Try.func18, Try.ntmps18
      go_wp2
      go_ret
      exact ⟨rfl, rfl⟩
    by_cases t6 : t = 6
    · subst t6
      rw [show mayB 1 6 = true from rfl]
      go_enter Try.func18, Try.ntmps18
      go_wp2
      go_ret
      exact ⟨rfl, rfl⟩
    have g2 : (t == 2) = false := by simpa using t2
    have g6 : (t == 6) = false := by simpa using t6
    rw [show mayB 1 t = false by simp [mayB, t2, t6]]
    go_enter Try.func18, Try.ntmps18
    go_wp2
    go_ret
    exact ⟨rfl, rfl⟩
  by_cases f2 : f = 2
  · subst f2
    by_cases t3 : t = 3
    · subst t3
      rw [show mayB 2 3 = true from rfl]
      go_enter Try.func18, Try.ntmps18
      go_wp2
      go_ret
      exact ⟨rfl, rfl⟩
    by_cases t4 : t = 4
    · subst t4
      rw [show mayB 2 4 = true from rfl]
      go_enter Try.func18, Try.ntmps18
      go_wp2
      go_ret
      exact ⟨rfl, rfl⟩
    by_cases t5 : t = 5
    · subst t5
      rw [show mayB 2 5 = true from rfl]
      go_enter Try.func18, Try.ntmps18
      go_wp2
      go_ret
      exact ⟨rfl, rfl⟩
    by_cases t8 : t = 8
    · subst t8
      rw [show mayB 2 8 = true from rfl]
      go_enter Try.func18, Try.ntmps18
      go_wp2
      go_ret
      exact ⟨rfl, rfl⟩
    have g3 : (t == 3) = false := by simpa using t3
    have g4 : (t == 4) = false := by simpa using t4
    have g5 : (t == 5) = false := by simpa using t5
    have g8 : (t == 8) = false := by simpa using t8
    rw [show mayB 2 t = false by simp [mayB, t3, t4, t5, t8]]
    go_enter Try.func18, Try.ntmps18
    go_wp2
    go_ret
    exact ⟨rfl, rfl⟩
  by_cases f3 : f = 3
  · subst f3
    by_cases t7 : t = 7
    · subst t7
      rw [show mayB 3 7 = true from rfl]
      go_enter Try.func18, Try.ntmps18
      go_wp2
      go_ret
      exact ⟨rfl, rfl⟩
    have g7 : (t == 7) = false := by simpa using t7
    rw [show mayB 3 t = false by simp [mayB, t7]]
    go_enter Try.func18, Try.ntmps18
    go_wp2
    go_ret
    exact ⟨rfl, rfl⟩
  by_cases f7 : f = 7
  · subst f7
    by_cases t3 : t = 3
    · subst t3
      rw [show mayB 7 3 = true from rfl]
      go_enter Try.func18, Try.ntmps18
      go_wp2
      go_ret
      exact ⟨rfl, rfl⟩
    by_cases t8 : t = 8
    · subst t8
      rw [show mayB 7 8 = true from rfl]
      go_enter Try.func18, Try.ntmps18
      go_wp2
      go_ret
      exact ⟨rfl, rfl⟩
    have g3 : (t == 3) = false := by simpa using t3
    have g8 : (t == 8) = false := by simpa using t8
    rw [show mayB 7 t = false by simp [mayB, t3, t8]]
    go_enter Try.func18, Try.ntmps18
    go_wp2
    go_ret
    exact ⟨rfl, rfl⟩
  by_cases f8 : f = 8
  · subst f8
    by_cases t0 : t = 0
    · subst t0
      rw [show mayB 8 0 = true from rfl]
      go_enter Try.func18, Try.ntmps18
      go_wp2
      go_ret
      exact ⟨rfl, rfl⟩
    by_cases t6 : t = 6
    · subst t6
      rw [show mayB 8 6 = true from rfl]
      go_enter Try.func18, Try.ntmps18
      go_wp2
      go_ret
      exact ⟨rfl, rfl⟩
    have g0 : (t == 0) = false := by simpa using t0
    have g6 : (t == 6) = false := by simpa using t6
    rw [show mayB 8 t = false by simp [mayB, t0, t6]]
    go_enter Try.func18, Try.ntmps18
    go_wp2
    go_ret
    exact ⟨rfl, rfl⟩
  have g0 : (f == 0) = false := by simpa using f0
  have g1 : (f == 1) = false := by simpa using f1
  have g2 : (f == 2) = false := by simpa using f2
  have g3 : (f == 3) = false := by simpa using f3
  have g7 : (f == 7) = false := by simpa using f7
  have g8 : (f == 8) = false := by simpa using f8
  rw [show mayB f t = false by simp [mayB, f0, f1, f2, f3, f7, f8]]
  go_enter Try.func18, Try.ntmps18
  go_wp2
  go_ret
  exact ⟨rfl, rfl⟩
end Go.Proofs.Ytakdodcdgmbhaaa
