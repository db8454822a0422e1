/-
  Package split, greatestFirst: places by what is at them, the greatest first, of the same the first ones. Conditions: those of the theorems.
-/
import Derived.Test.YtadaaoljpeojcaaSortG
import Derived.Test.YtadaaoljpeojcaaMoneySum
import Derived.Laws.MakeOwn
namespace Go.Proofs.Ytadaaoljpeojcaa
open Go.RowKit Go.Sort
set_option maxRecDepth 100000

def cmpI (x y : Int) : Int := if x < y then -1 else if y < x then 1 else 0
theorem cmpI_less (x y : Int) : decide (cmpI x y < 0) = decide (x < y) := by
  unfold cmpI
  by_cases h : x < y
  · simp [h]
  · by_cases h2 : y < x <;> simp [h, h2]

theorem cmp_nan (x : Int) (w : World) : Calls Try.prog 34 #[.int .i64 x] w fun e w' => e = .returned (.bool false) ∧ w = w' := by
  go_enter Try.func34, Try.ntmps34
  go_wp2
  go_ret
  exact ⟨rfl, rfl⟩

theorem cmp_compare (x y : Int) (w : World) : Calls Try.prog 30 #[.int .i64 x, .int .i64 y] w fun e w' => e = .returned (.int .i64 (cmpI x y)) ∧ w = w' := by
  by_cases h : x < y
  · rw [show cmpI x y = -1 from by simp [cmpI, h]]
    go_enter Try.func30, Try.ntmps30
    go_wp2_with fail
    refine (cmp_nan x w).mono ?_
    rintro e w1 ⟨rfl, rfl⟩
    go_wp2_with fail
    refine (cmp_nan y w).mono ?_
    rintro e w1 ⟨rfl, rfl⟩
    go_wp2
    go_ret
    exact ⟨rfl, rfl⟩
  · by_cases h2 : y < x
    · rw [show cmpI x y = 1 from by simp [cmpI, h, h2]]
      go_enter Try.func30, Try.ntmps30
      go_wp2_with fail
      refine (cmp_nan x w).mono ?_
      rintro e w1 ⟨rfl, rfl⟩
      go_wp2_with fail
      refine (cmp_nan y w).mono ?_
      rintro e w1 ⟨rfl, rfl⟩
      go_wp2
      go_ret
      exact ⟨rfl, rfl⟩
    · rw [show cmpI x y = 0 from by simp [cmpI, h, h2]]
      go_enter Try.func30, Try.ntmps30
      go_wp2_with fail
      refine (cmp_nan x w).mono ?_
      rintro e w1 ⟨rfl, rfl⟩
      go_wp2_with fail
      refine (cmp_nan y w).mono ?_
      rintro e w1 ⟨rfl, rfl⟩
      go_wp2
      go_ret
      exact ⟨rfl, rfl⟩

theorem split_less (b off n c B i j : Nat) (x y : Int) (w : World) (hB : w.cell? ⟨B, 0, none⟩ = some (.slice (some ⟨b, off, none⟩) n c)) (hi : i < n) (hj : j < n)
    (hx : w.cell? ⟨b, off + i, none⟩ = some (.int .i64 x)) (hy : w.cell? ⟨b, off + j, none⟩ = some (.int .i64 y)) :
    Calls Try.prog 29 #[.int .i64 i, .int .i64 j, .pointer (some ⟨B, 0, none⟩)] w fun e w' => e = .returned (.int .i64 (cmpI y x)) ∧ ∃ q, w' = w.drewN q := by
  have hi' : (i : Int) < (n : Int) := by omega
  have hj' : (j : Int) < (n : Int) := by omega
  go_enter Try.func29, Try.ntmps29
  go_wp2
  go_quiet (refine Calls.quiet_of_same ((cmp_compare y x _).mono fun _ _ h => ⟨h.1, h.2.symm⟩))
  go_wp2
  go_ret
  exact ⟨rfl, nq, rfl⟩

/-! ### The order of places -/
/-- The greater one first; of the same the first one. -/
def ahead (r : Nat → Int) (i j : Nat) : Bool := decide (r j < r i ∨ (r i = r j ∧ i < j))
def aheadF (r : Nat → Int) (n : Nat) (x y : Fin (n + 1)) : Bool := ahead r x.val y.val
def cmpF (r : Nat → Int) (n : Nat) (x y : Fin (n + 1)) : Int := cmpI (r y.val) (r x.val)
theorem two_ahead (r : Nat → Int) (n : Nat) : Two (less (cmpF r n)) (aheadF r n) (fun x y => x.val < y.val) where
  swo :=
    { irrefl := fun x => by simp [aheadF, ahead]
      trans := fun x y z h1 h2 => by simp only [aheadF, ahead, decide_eq_true_eq] at *; omega
      ntrans := fun x y z h1 h2 => by simp only [aheadF, ahead, decide_eq_false_iff_not] at *; omega }
  late := fun x y h => by
    unfold less cmpF aheadF ahead
    rw [cmpI_less]
    congr 1
    simp only [eq_iff_iff]
    omega

def placesF (n : Nat) : Array (Fin (n + 1)) := Array.ofFn id
theorem placesF_size (n : Nat) : (placesF n).size = n + 1 := by simp [placesF]
theorem placesF_get (n i : Nat) (h : i < n + 1) : ((placesF n)[i]!).val = i := by
  rw [getElem!_pos (placesF n) i (by rw [placesF_size]; exact h)]
  simp [placesF]

/-- The places 0 to n, those at which there is more first. -/
structure Places (r : Nat → Int) (n : Nat) (d : Array (Fin (n + 1))) : Prop where
  size : d.size = n + 1
  perm : PermIn 0 (n + 1) (placesF n) d
  sorted : SortedIn (aheadF r n) 0 (n + 1) d
end Go.Proofs.Ytadaaoljpeojcaa
