/-
  Package rma: areUnits, areGrades, areSums. Conditions: those of each theorem.
-/
import Derived.Test.YtkjkamcjbhhefaaDoorRm
namespace Go.Proofs.YtkjkamcjbhhefaaDoor
open Go.RowKit
set_option maxRecDepth 100000

def allB (p : Nat → Bool) (n : Nat) : Bool := (List.range n).all p
theorem allB_true {p : Nat → Bool} {n : Nat} : allB p n = true ↔ ∀ k, k < n → p k = true := by
  unfold allB
  rw [List.all_eq_true]
  exact ⟨fun h k hk => h k (List.mem_range.2 hk), fun h k hk => h k (List.mem_range.1 hk)⟩
theorem allB_no {p : Nat → Bool} {n k : Nat} (hk : k < n) (h : p k = false) : allB p n = false := by
  cases e : allB p n with
  | false => rfl
  | true => rw [allB_true.1 e k hk] at h; cases h
def inB (lo hi : Int) (xs : List Int) (k : Nat) : Bool := fromB lo (xs.getD k 0) hi
/-- The unit ahead of one; -1 ahead of the first. -/
def prevU (us : List Int) (k : Nat) : Int := if k = 0 then -1 else us.getD (k - 1) 0
def unitOk (us : List Int) (k : Nat) : Bool := decide (prevU us k < us.getD k 0) && decide (us.getD k 0 < 200)
theorem prevU_succ (us : List Int) (k : Nat) : prevU us (k + 1) = us.getD k 0 := by unfold prevU; rw [if_neg (by omega)]; rfl
theorem getD_at {xs : List Int} {k : Nat} (h : k < xs.length) : xs.getD k 0 = xs[k] := by simp [List.getD, h]

set_option maxHeartbeats 1000000 in
theorem rma_areUnits {w : World} {a : Option Addr} {n c : Nat} {us : List Int} (h : LiAt w a n c us) (hm : n ≤ 100000) :
    Calls Tryd.prog 32 #[.slice a n c] w fun e w' => e = .returned (.bool (allB (unitOk us) n)) ∧ w = w' := by
  have hx := h.at'
  have HN := Lib.hid h.len
  clear h
  go_enter Tryd.func32, Tryd.ntmps32
  go_wp2
  go_loop [3, 5, 8] (fun l _ i => ∃ k : Nat, k ≤ n ∧ i = .int .i64 k ∧ l = .int .i64 (prevU us k) ∧ Hid (∀ j, j < k → unitOk us j = true)) (fun _ _ i => n - (intOf i).toNat)
  case atStart => exact ⟨0, Nat.zero_le _, rfl, rfl, fun j hj => absurd hj (Nat.not_lt_zero _)⟩
  case round =>
    obtain ⟨k, hk, rfl, rfl, HK⟩ := hrel
    by_cases hlt : k < n
    · have hkn : (k : Int) < (n : Int) := by omega
      have hk0 : (0 : Int) ≤ (k : Int) := by omega
      rcases hx with rfl | ⟨b, off, rfl, hb, hcs⟩
      · have := HN.out; simp at this; omega
      have hlk : k < us.length := by rw [HN.out]; exact hlt
      have hck := hcs k hlk
      rw [← getD_at hlk] at hck
      clear hcs
      have HP : Hid (prevU us (k + 1) = us.getD k 0) := prevU_succ us k
      have HF : Hid (unitOk us k = false → allB (unitOk us) n = false) := fun e => allB_no hlt e
      have HT : Hid (unitOk us k = true → ∀ j, j < k + 1 → unitOk us j = true) := fun e j hj => by
        by_cases q : j = k
        · subst q; exact e
        · exact HK.out j (by omega)
      have HO : Hid (unitOk us k = (decide (prevU us k < us.getD k 0) && decide (us.getD k 0 < 200))) := rfl
      generalize us.getD k 0 = x at *
      generalize prevU us k = l at *
      by_cases q1 : x ≤ l
      · have HE := Lib.hid (HF.out (by rw [HO.out, decide_eq_false (by omega)]; rfl))
        go_wp2
        go_ret
        exact ⟨by rw [HE.out]; rfl, rfl⟩
      · by_cases q2 : 200 ≤ x
        · have HE := Lib.hid (HF.out (by rw [HO.out, decide_eq_false (p := x < 200) (by omega), Bool.and_false]))
          go_wp2
          go_ret
          exact ⟨by rw [HE.out]; rfl, rfl⟩
        · have HE := Lib.hid (HT.out (by rw [HO.out, decide_eq_true (p := l < x) (by omega), decide_eq_true (p := x < 200) (by omega)]; rfl))
          go_wp2
          go_round
          case rel => exact ⟨k + 1, by omega, by go_num, by rw [HP.out], HE.out⟩
          case measure => simp [intOf]; omega
    · obtain rfl : k = n := by omega
      have HE : Hid (allB (unitOk us) k = true) := allB_true.2 HK.out
      go_wp2
      go_ret
      exact ⟨by rw [HE.out]; rfl, rfl⟩

set_option maxHeartbeats 1000000 in
theorem rma_areGrades {w : World} {a : Option Addr} {n c : Nat} {xs : List Int} (hn : xs.length = n) (hx : IsInts w a xs) (hm : n ≤ 100000) :
    Calls Tryd.prog 33 #[.slice a n c] w fun e w' => e = .returned (.bool (allB (inB (-1) 4 xs) n)) ∧ w = w' := by
  have HN := Lib.hid hn
  clear hn
  go_enter Tryd.func33, Tryd.ntmps33
  go_wp2
  go_loop [4, 7] (fun _ i => ∃ k : Nat, k ≤ n ∧ i = .int .i64 k ∧ Hid (∀ j, j < k → inB (-1) 4 xs j = true)) (fun _ i => n - (intOf i).toNat)
  case atStart => exact ⟨0, Nat.zero_le _, rfl, fun j hj => absurd hj (Nat.not_lt_zero _)⟩
  case round =>
    obtain ⟨k, hk, rfl, HK⟩ := hrel
    by_cases hlt : k < n
    · have hkn : (k : Int) < (n : Int) := by omega
      have hk0 : (0 : Int) ≤ (k : Int) := by omega
      rcases hx with rfl | ⟨b, off, rfl, hb, hcs⟩
      · have := HN.out; simp at this; omega
      have hlk : k < xs.length := by rw [HN.out]; exact hlt
      have hck := hcs k hlk
      rw [← getD_at hlk] at hck
      clear hcs
      have HF : Hid (inB (-1) 4 xs k = false → allB (inB (-1) 4 xs) n = false) := fun e => allB_no hlt e
      have HT : Hid (inB (-1) 4 xs k = true → ∀ j, j < k + 1 → inB (-1) 4 xs j = true) := fun e j hj => by
        by_cases q : j = k
        · subst q; exact e
        · exact HK.out j (by omega)
      have HC : Aside (∀ w, Calls Tryd.prog 31 #[.int .i64 (-1), .int .i64 (xs.getD k 0), .int .i64 4] w fun e w' => e = .returned (.bool (inB (-1) 4 xs k)) ∧ w = w') := is_from _ _ _
      generalize inB (-1) 4 xs k = q at *
      generalize xs.getD k 0 = x at *
      go_wp2_with fail
      refine Calls.mono (HC.out _) ?_
      rintro e w2 ⟨rfl, rfl⟩
      cases q with
      | false =>
        have HE := Lib.hid (HF.out rfl)
        go_wp2
        go_ret
        exact ⟨by rw [HE.out]; rfl, rfl⟩
      | true =>
        have HE := Lib.hid (HT.out rfl)
        go_wp2
        go_round
        case rel => exact ⟨k + 1, by omega, by go_num, HE.out⟩
        case measure => simp [intOf]; omega
    · obtain rfl : k = n := by omega
      have HE : Hid (allB (inB (-1) 4 xs) k = true) := allB_true.2 HK.out
      go_wp2
      go_ret
      exact ⟨by rw [HE.out]; rfl, rfl⟩

set_option maxHeartbeats 1000000 in
theorem rma_areSums {w : World} {a : Option Addr} {n c : Nat} {xs : List Int} (hn : xs.length = n) (hx : IsInts w a xs) (hm : n ≤ 100000) :
    Calls Tryd.prog 34 #[.slice a n c] w fun e w' => e = .returned (.bool (allB (inB 0 1125899906842624 xs) n)) ∧ w = w' := by
  have HN := Lib.hid hn
  clear hn
  go_enter Tryd.func34, Tryd.ntmps34
  go_wp2
  go_loop [4, 7] (fun _ i => ∃ k : Nat, k ≤ n ∧ i = .int .i64 k ∧ Hid (∀ j, j < k → inB 0 1125899906842624 xs j = true)) (fun _ i => n - (intOf i).toNat)
  case atStart => exact ⟨0, Nat.zero_le _, rfl, fun j hj => absurd hj (Nat.not_lt_zero _)⟩
  case round =>
    obtain ⟨k, hk, rfl, HK⟩ := hrel
    by_cases hlt : k < n
    · have hkn : (k : Int) < (n : Int) := by omega
      have hk0 : (0 : Int) ≤ (k : Int) := by omega
      rcases hx with rfl | ⟨b, off, rfl, hb, hcs⟩
      · have := HN.out; simp at this; omega
      have hlk : k < xs.length := by rw [HN.out]; exact hlt
      have hck := hcs k hlk
      rw [← getD_at hlk] at hck
      clear hcs
      have HF : Hid (inB 0 1125899906842624 xs k = false → allB (inB 0 1125899906842624 xs) n = false) := fun e => allB_no hlt e
      have HT : Hid (inB 0 1125899906842624 xs k = true → ∀ j, j < k + 1 → inB 0 1125899906842624 xs j = true) := fun e j hj => by
        by_cases q : j = k
        · subst q; exact e
        · exact HK.out j (by omega)
      have HC : Aside (∀ w, Calls Tryd.prog 49 #[.int .i64 0, .int .i64 (xs.getD k 0), .int .i64 1125899906842624] w fun e w' => e = .returned (.bool (inB 0 1125899906842624 xs k)) ∧ w = w') := is_from64 _ _ _
      generalize inB 0 1125899906842624 xs k = q at *
      generalize xs.getD k 0 = x at *
      go_wp2_with fail
      refine Calls.mono (HC.out _) ?_
      rintro e w2 ⟨rfl, rfl⟩
      cases q with
      | false =>
        have HE := Lib.hid (HF.out rfl)
        go_wp2
        go_ret
        exact ⟨by rw [HE.out]; rfl, rfl⟩
      | true =>
        have HE := Lib.hid (HT.out rfl)
        go_wp2
        go_round
        case rel => exact ⟨k + 1, by omega, by go_num, HE.out⟩
        case measure => simp [intOf]; omega
    · obtain rfl : k = n := by omega
      have HE : Hid (allB (inB 0 1125899906842624 xs) k = true) := allB_true.2 HK.out
      go_wp2
      go_ret
      exact ⟨by rw [HE.out]; rfl, rfl⟩
end Go.Proofs.YtkjkamcjbhhefaaDoor
