/-
  Package timer: compare. Package cmp: Compare, Or of two ints. No conditions but those of each theorem.
-/
import Derived.Test.YtcnheikckfhniaaTimPlain
import Derived.Test.YtcnheikckfhniaaRowX
import Derived.StillTailTactics
import Derived.Sort.Grow
import Derived.Deep.RegionHeld3
namespace Go.Proofs.Ytcnheikckfhniaa
open Go.RowKit Go.Sort
set_option maxRecDepth 100000

def icmp (x y : Int) : Int := if x < y then -1 else if y < x then 1 else 0
theorem cmp_nan (x : Int) (w : World) : Calls Try.prog 67 #[.int .i64 x] w fun e w' => e = .returned (.bool false) ∧ w = w' := by
  go_enter Try.func67, Try.ntmps67
  go_wp2
  go_ret
  exact ⟨by simp, rfl⟩
theorem cmp_compare (x y : Int) (w : World) : Calls Try.prog 93 #[.int .i64 x, .int .i64 y] w fun e w' => e = .returned (.int .i64 (icmp x y)) ∧ w = w' := by
  by_cases h : x < y
  · rw [show icmp x y = -1 from by simp [icmp, h]]
    go_enter Try.func93, Try.ntmps93
    go_wp2_with fail
    refine (cmp_nan x w).mono ?_
    rintro e w1 ⟨rfl, rfl⟩
    go_wp2_with fail
    refine (cmp_nan y w).mono ?_
    rintro e w1 ⟨rfl, rfl⟩
    go_wp2
    go_ret
    exact ⟨rfl, rfl⟩
  · by_cases h2 : y < x
    · rw [show icmp x y = 1 from by simp [icmp, h, h2]]
      go_enter Try.func93, Try.ntmps93
      go_wp2_with fail
      refine (cmp_nan x w).mono ?_
      rintro e w1 ⟨rfl, rfl⟩
      go_wp2_with fail
      refine (cmp_nan y w).mono ?_
      rintro e w1 ⟨rfl, rfl⟩
      go_wp2
      go_ret
      exact ⟨rfl, rfl⟩
    · rw [show icmp x y = 0 from by simp [icmp, h, h2]]
      go_enter Try.func93, Try.ntmps93
      go_wp2_with fail
      refine (cmp_nan x w).mono ?_
      rintro e w1 ⟨rfl, rfl⟩
      go_wp2_with fail
      refine (cmp_nan y w).mono ?_
      rintro e w1 ⟨rfl, rfl⟩
      go_wp2
      go_ret
      exact ⟨rfl, rfl⟩
/-- Of two the first one that isn't 0. -/
def orV (x y : Int) : Int := if x = 0 then y else x
theorem cmp_or (b c : Nat) (x y : Int) (w : World) (h0 : w.cell? ⟨b, 0, none⟩ = some (.int .i64 x)) (h1 : w.cell? ⟨b, 1, none⟩ = some (.int .i64 y)) :
    Calls Try.prog 92 #[.slice (some ⟨b, 0, none⟩) 2 c] w fun e w' => e = .returned (.int .i64 (orV x y)) ∧ w = w' := by
  by_cases hx : x = 0
  · subst hx
    rw [show orV 0 y = y from if_pos rfl]
    by_cases hy : y = 0
    · subst hy
      go_enter Try.func92, Try.ntmps92
      go_wp2
      go_loopw [8] (fun i wr => ∃ k : Nat, k ≤ 2 ∧ i = .int .i64 k ∧ wr = w) (fun i _ => 2 - (intOf i).toNat)
      case atStart => exact ⟨0, by omega, rfl, rfl⟩
      case round =>
        obtain ⟨k, hk, rfl, rfl⟩ := hrel
        have e : k = 0 ∨ k = 1 ∨ k = 2 := by omega
        rcases e with rfl | rfl | rfl
        · go_wp2
          go_roundw
          case rel => exact ⟨1, by omega, by go_num, trivial⟩
          case measure => simp [intOf]
        · go_wp2
          go_roundw
          case rel => exact ⟨2, by omega, by go_num, trivial⟩
          case measure => simp [intOf]
        · go_wp2
          go_ret
          exact ⟨rfl, rfl⟩
    · have hn : (y == 0) = false := by simpa using hy
      go_enter Try.func92, Try.ntmps92
      go_wp2
      go_loopw [8] (fun i wr => ∃ k : Nat, k ≤ 1 ∧ i = .int .i64 k ∧ wr = w) (fun i _ => 2 - (intOf i).toNat)
      case atStart => exact ⟨0, by omega, rfl, rfl⟩
      case round =>
        obtain ⟨k, hk, rfl, rfl⟩ := hrel
        have e : k = 0 ∨ k = 1 := by omega
        rcases e with rfl | rfl
        · go_wp2
          go_roundw
          case rel => exact ⟨1, by omega, by go_num, trivial⟩
          case measure => simp [intOf]
        · go_wp2
          go_ret
          exact ⟨rfl, rfl⟩
  · have hn : (x == 0) = false := by simpa using hx
    rw [show orV x y = x from if_neg hx]
    go_enter Try.func92, Try.ntmps92
    go_wp2
    go_loopw [8] (fun i wr => i = .int .i64 0 ∧ wr = w) (fun i _ => 2 - (intOf i).toNat)
    case atStart => exact ⟨rfl, rfl⟩
    case round =>
      obtain ⟨rfl, rfl⟩ := hrel
      go_wp2
      go_ret
      exact ⟨rfl, rfl⟩

def enc2 (x : Tm) : List Value := [.int .i64 x.1, .int .i64 x.2]
theorem tcmp_or (x y : Tm) : orV (icmp x.1 y.1) (icmp x.2 y.2) = tcmp x y := by
  unfold orV icmp tcmp
  by_cases h1 : x.1 < y.1
  · simp [h1]
  · by_cases h2 : y.1 < x.1
    · simp [h1, h2]
    · simp [h1, h2]
theorem grow_three (w : World) (A B R : Obj) (q : Nat) : ((((w.alloc A).alloc B).drewN q).alloc R) = grow (w.drewN q) #[A, B, R] := by
  rw [alloc_eq_grow, alloc_eq_grow, alloc_eq_grow]
  show grow (grow (grow (w.drewN q) #[A]) #[B]) #[R] = _
  rw [grow_grow, grow_grow]
  rfl
theorem cell_laid {w : World} {b o : Nat} {v : Value} (O : Obj) (hlt : b < w.heap.size) (h : w.cell? ⟨b, o, none⟩ = some v) : (w.alloc O).drew.cell? ⟨b, o, none⟩ = some v :=
  ((upd_box O).drew.cell (p := ⟨b, o, none⟩) hlt).trans h
theorem cell_new0 (w : World) (x y : Value) (t : TypeId) : (w.alloc (.cells #[x, y] t)).drew.cell? ⟨w.heap.size, 0, none⟩ = some x := (arr_new w #[x, y] t).cells 0 _ rfl
theorem cell_new1 (w : World) (x y : Value) (t : TypeId) : (w.alloc (.cells #[x, y] t)).drew.cell? ⟨w.heap.size, 1, none⟩ = some y := (arr_new w #[x, y] t).cells 1 _ rfl
set_option maxHeartbeats 1000000 in
theorem tim_compare (x y : Tm) (w : World) : Calls Try.prog 91 #[.agg (enc2 x).toArray, .agg (enc2 y).toArray] w fun e w' => e = .returned (.int .i64 (tcmp x y)) ∧ ∃ q os, w' = grow (w.drewN q) os := by
  rw [← tcmp_or]
  obtain ⟨d1, n1⟩ := x
  obtain ⟨d2, n2⟩ := y
  unfold enc2
  dsimp only
  have HC : Aside (∀ x y : Int, ∀ w : World, Calls Try.prog 93 #[.int .i64 x, .int .i64 y] w fun e w' => e = .returned (.int .i64 (icmp x y)) ∧ w = w') := cmp_compare
  have HO : Aside (∀ (b c : Nat) (x y : Int) (w : World), w.cell? ⟨b, 0, none⟩ = some (.int .i64 x) → w.cell? ⟨b, 1, none⟩ = some (.int .i64 y) → Calls Try.prog 92 #[.slice (some ⟨b, 0, none⟩) 2 c] w fun e w' => e = .returned (.int .i64 (orV x y)) ∧ w = w') := cmp_or
  go_enter Try.func91, Try.ntmps91
  go_wp2
  have HW : Hid ((w.alloc (.cells #[.int .i64 d1, .int .i64 n1] 80)).alloc (.cells #[.int .i64 d2, .int .i64 n2] 80) = grow w #[.cells #[.int .i64 d1, .int .i64 n1] 80, .cells #[.int .i64 d2, .int .i64 n2] 80]) := by
    show _ = _
    rw [alloc_eq_grow, alloc_eq_grow, grow_grow]
    rfl
  have A0 := two_new w #[.int .i64 d1, .int .i64 n1] #[.int .i64 d2, .int .i64 n2] 80
  have c0 : ((w.alloc (.cells #[.int .i64 d1, .int .i64 n1] 80)).alloc (.cells #[.int .i64 d2, .int .i64 n2] 80)).cell? ⟨w.heap.size, 0, none⟩ = some (.int .i64 d1) := A0.2.1.cells 0 _ rfl
  have c1 : ((w.alloc (.cells #[.int .i64 d1, .int .i64 n1] 80)).alloc (.cells #[.int .i64 d2, .int .i64 n2] 80)).cell? ⟨w.heap.size, 1, none⟩ = some (.int .i64 n1) := A0.2.1.cells 1 _ rfl
  have c2 : ((w.alloc (.cells #[.int .i64 d1, .int .i64 n1] 80)).alloc (.cells #[.int .i64 d2, .int .i64 n2] 80)).cell? ⟨w.heap.size + 1, 0, none⟩ = some (.int .i64 d2) := A0.2.2.cells 0 _ rfl
  have c3 : ((w.alloc (.cells #[.int .i64 d1, .int .i64 n1] 80)).alloc (.cells #[.int .i64 d2, .int .i64 n2] 80)).cell? ⟨w.heap.size + 1, 1, none⟩ = some (.int .i64 n2) := A0.2.2.cells 1 _ rfl
  have l1 : w.heap.size < ((w.alloc (.cells #[.int .i64 d1, .int .i64 n1] 80)).alloc (.cells #[.int .i64 d2, .int .i64 n2] 80)).heap.size := by simp; omega
  have l2 : w.heap.size + 1 < ((w.alloc (.cells #[.int .i64 d1, .int .i64 n1] 80)).alloc (.cells #[.int .i64 d2, .int .i64 n2] 80)).heap.size := by simp
  clear A0
  generalize (w.alloc (.cells #[.int .i64 d1, .int .i64 n1] 80)).alloc (.cells #[.int .i64 d2, .int .i64 n2] 80) = w2 at *
  generalize w.heap.size + 1 = B2 at *
  generalize w.heap.size = B1 at *
  go_region_held3 (fun w' => w'.cell? ⟨B1, 0, none⟩ = some (.int .i64 d1) ∧ w'.cell? ⟨B1, 1, none⟩ = some (.int .i64 n1) ∧ w'.cell? ⟨B2, 0, none⟩ = some (.int .i64 d2) ∧ w'.cell? ⟨B2, 1, none⟩ = some (.int .i64 n2)) (first | exact ⟨c0, c1, c2, c3⟩ | exact ⟨cell_laid _ l1 c0, cell_laid _ l1 c1, cell_laid _ l2 c2, cell_laid _ l2 c3⟩) ((first | (go_at_call 93; refine (HC.out _ _ _).mono ?_; rintro e w3 ⟨rfl, rfl⟩) | (go_at_call 92; refine (HO.out _ _ _ _ _ (cell_new0 _ _ _ _) (cell_new1 _ _ _ _)).mono ?_; rintro e w3 ⟨rfl, rfl⟩)))
  all_goals
    go_wp2
    go_ret
    exact ⟨rfl, 1, _, (congrArg World.drew ((alloc_eq_grow _ _).trans ((congrArg (fun z => grow z _) HW.out).trans (grow_grow _ _ _)))).trans (drew_grow _ _)⟩
theorem below_grow (w : World) (n : Nat) (os : Array Obj) : Below w.heap.size w (grow (w.drewN n) os) :=
  ⟨rfl, rfl, rfl, by rw [size_grow]; exact Nat.le_add_right _ _, fun k hk => heap_grow_old _ _ (by exact hk)⟩
theorem tim_compared (x y : Tm) (w : World) : Calls Try.prog 91 #[.agg #[.int .i64 x.1, .int .i64 x.2], .agg #[.int .i64 y.1, .int .i64 y.2]] w fun e w' => e = .returned (.int .i64 (tcmp x y)) ∧ Below w.heap.size w w' :=
  (tim_compare x y w).mono fun e w' ⟨he, q, os, hw⟩ => ⟨he, by rw [hw]; exact below_grow w q os⟩
end Go.Proofs.Ytcnheikckfhniaa
