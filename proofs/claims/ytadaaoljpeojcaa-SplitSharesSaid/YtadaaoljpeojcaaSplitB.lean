/-
  Package split: rightWeights, Shares, Each: whole. Conditions: those of the theorems.
-/
import Derived.Test.YtadaaoljpeojcaaSplitA
import Derived.Test.YtadaaoljpeojcaaRepeat
namespace Go.Proofs.Ytadaaoljpeojcaa
open Go.RowKit
set_option maxRecDepth 100000

/-! ### Plain -/
def okW (x : Int) : Bool := decide (0 ≤ x ∧ x ≤ 1125899906842624)
theorem okW_yes {x : Int} (h : okW x = true) : 0 ≤ x ∧ x ≤ 1125899906842624 := of_decide_eq_true h
theorem okW_no {x : Int} (h : okW x = false) : ¬ (0 ≤ x ∧ x ≤ 1125899906842624) := of_decide_eq_false h
def few (n : Nat) : Bool := decide (1 ≤ n ∧ n ≤ 200)
def rightW (ws : List Int) : Bool := few ws.length && ws.all okW
theorem rightW_few {ws : List Int} (h : rightW ws = true) : 1 ≤ ws.length ∧ ws.length ≤ 200 := by
  unfold rightW few at h
  simp only [Bool.and_eq_true, decide_eq_true_eq] at h
  exact h.1
theorem rightW_all {ws : List Int} (h : rightW ws = true) : ws.all okW = true := by
  unfold rightW at h
  simp only [Bool.and_eq_true] at h
  exact h.2
theorem take_sum {ws : List Int} : ∀ k, k ≤ ws.length → sumTo (wt ws) k = (ws.take k).sum
  | 0, _ => rfl
  | k + 1, h => by
    have hk : k < ws.length := h
    rw [sumTo, take_sum k (by omega), List.take_succ_eq_append_getElem hk, List.sum_append, List.sum_singleton, wt]
    simp [List.getD, hk]
theorem all_sum (ws : List Int) : sumTo (wt ws) ws.length = ws.sum := by rw [take_sum ws.length (Nat.le_refl _), List.take_length]
theorem all_okW {ws : List Int} (h : ws.all okW = true) (k : Nat) : 0 ≤ wt ws k := by
  by_cases hk : k < ws.length
  · have := List.all_eq_true.1 h _ (List.getElem_mem hk)
    unfold wt
    simp only [List.getD, List.getElem?_eq_getElem hk, Option.getD_some]
    exact (okW_yes this).1
  · rw [wt_out hk]; exact Int.le_refl _
theorem sum_nonneg {ws : List Int} (h : ws.all okW = true) : 0 ≤ ws.sum := by rw [← all_sum]; exact sumTo_nonneg _ (fun t _ => all_okW h t)
theorem sumOf_all : ∀ (ws : List Int) (s : Int), 0 ≤ s → ws.all okW = true → sumOf s ws = if s + ws.sum ≤ 1125899906842624 then (if s ≤ 1125899906842624 then some (s + ws.sum) else sumOf s ws) else (if ws = [] then some s else none)
  | [], s, hs, _ => by
    rw [sumOf]
    simp only [List.sum_nil, Int.add_zero, if_true]
    split
    · first | rfl | (split <;> rfl)
    · rfl
  | x :: ws, s, hs, h => by
    simp only [List.all_cons, Bool.and_eq_true] at h
    have hx := okW_yes h.1
    have hn := sum_nonneg h.2
    have hr : Rt x = true := rt_iff.2 (by omega)
    rw [List.sum_cons]
    by_cases h1 : s + (x + ws.sum) ≤ 1125899906842624
    · have h2 : s + x ≤ 1125899906842624 := by omega
      rw [if_pos h1, if_pos (by omega), sumOf, hr, show Rt (s + x) = true from rt_iff.2 (by omega)]
      simp only [Bool.and_self, if_true]
      rw [sumOf_all ws (s + x) (by omega) h.2, if_pos (by omega), if_pos h2, Int.add_assoc]
    · rw [if_neg h1, if_neg (by simp), sumOf, hr]
      by_cases h2 : s + x ≤ 1125899906842624
      · rw [show Rt (s + x) = true from rt_iff.2 (by omega)]
        simp only [Bool.and_self, if_true]
        rw [sumOf_all ws (s + x) (by omega) h.2, if_neg (by omega), if_neg]
        rintro rfl
        simp at h1; omega
      · rw [show Rt (s + x) = false from rt_not.2 (by omega)]
        rfl
theorem sum_right {ws : List Int} (h : ws.all okW = true) (h1 : ws.sum ≤ 1125899906842624) : sumOf 0 ws = some ws.sum := by
  rw [sumOf_all ws 0 (Int.le_refl _) h, if_pos (by omega), if_pos (by omega), Int.zero_add]
theorem sum_wrong {ws : List Int} (h : ws.all okW = true) (h1 : ¬ ws.sum ≤ 1125899906842624) : sumOf 0 ws = none := by
  rw [sumOf_all ws 0 (Int.le_refl _) h, if_neg (by omega), if_neg]
  rintro rfl
  simp at h1

/-- What is wrong with a sum and weights. -/
def errS (s : Int) (ws : List Int) : Int := if rightW ws then (if okW s && decide (ws.sum ≤ 1125899906842624) then 0 else 9) else 1
/-- The weights by which a sum is shared; its shares. -/
def wsOf (ws : List Int) : List Int := if ws.sum = 0 then List.replicate ws.length 1 else ws
def sharesOf (s : Int) (ws : List Int) : List Int := sharesBy s (wsOf ws) (wsOf ws).sum
theorem wsOf_length (ws : List Int) : (wsOf ws).length = ws.length := by unfold wsOf; split <;> simp
theorem sharesOf_length (s : Int) (ws : List Int) : (sharesOf s ws).length = ws.length := by rw [sharesOf, sharesBy_length, wsOf_length]

def SharesEnd (s : Int) (ws : List Int) (w : World) (e : Ending) (w' : World) : Prop :=
  Below w.heap.size w w' ∧ ((errS s ws ≠ 0 ∧ e = .returned (.tuple #[.slice none 0 0, .int .i64 (errS s ws)])) ∨
    (errS s ws = 0 ∧ ∃ S : Nat, e = .returned (.tuple #[.slice (some ⟨S, 0, none⟩) ws.length ws.length, .int .i64 0]) ∧ w.heap.size ≤ S ∧ S < w'.heap.size ∧ ∀ t, t < ws.length → w'.cell? ⟨S, t, none⟩ = some (.int .i64 ((sharesOf s ws).getD t 0))))

/-! ### The code -/
set_option maxHeartbeats 1000000 in
theorem split_rightWeights (a : Option Addr) (ws : List Int) (n c : Nat) (w : World) (hn : ws.length = n) (hx : IsInts w a ws) (hl : n ≤ maxLen) :
    Calls Try.prog 14 #[.slice a n c] w fun e w' => e = .returned (.bool (rightW ws)) ∧ w = w' := by
  unfold maxLen at hl
  by_cases h0 : n < 1
  · have hr : rightW ws = false := by
      unfold rightW few
      rw [hn, decide_eq_false (by omega)]
      rfl
    rw [hr]
    have h0' : (n : Int) < 1 := by omega
    obtain rfl : n = 0 := by omega
    clear hn hr h0 hx
    go_enter Try.func14, Try.ntmps14
    go_wp2
    go_ret
    exact ⟨rfl, rfl⟩
  · by_cases h1 : 200 < n
    · have hr : rightW ws = false := by
        unfold rightW few
        rw [hn, decide_eq_false (by omega)]
        rfl
      rw [hr]
      have h0' : ¬ (n : Int) < 1 := by omega
      have h1' : 200 < (n : Int) := by omega
      clear hn hr hx
      go_enter Try.func14, Try.ntmps14
      go_wp2
      go_ret
      exact ⟨rfl, rfl⟩
    · have hr : rightW ws = ws.all okW := by
        unfold rightW few
        rw [hn, decide_eq_true (by omega)]
        rfl
      rw [hr]
      have h0' : ¬ (n : Int) < 1 := by omega
      have h1' : ¬ 200 < (n : Int) := by omega
      generalize hA : ws.all okW = A
      have HN := Lib.hid hn
      have HA := Lib.hid hA
      clear hn hr hA
      go_enter Try.func14, Try.ntmps14
      go_wp2
      go_loop [15] (fun i => ∃ k : Nat, k ≤ n ∧ i = .int .i64 k ∧ Hid (A = (ws.drop k).all okW)) (fun i => n - (intOf i).toNat)
      case atStart => exact ⟨0, Nat.zero_le _, rfl, by show _ = _; rw [← HA.out]; rfl⟩
      case round =>
        obtain ⟨k, hk, rfl, HS⟩ := hrel
        by_cases hlt : k < n
        · rcases hx with rfl | ⟨b, off, rfl, hb, hcs⟩
          · have := HN.out; simp at this; omega
          have hlk : k < ws.length := by rw [HN.out]; exact hlt
          have hck := hcs k hlk
          clear hcs
          have hkn : (k : Int) < (n : Int) := by omega
          have hd : Hid (ws.drop k = ws[k] :: ws.drop (k + 1)) := List.drop_eq_getElem_cons hlk
          generalize ws[k] = x at *
          by_cases hc : okW x = true
          · obtain ⟨x1, x2⟩ := okW_yes hc
            have x0 : ¬ x < 0 := by omega
            have hrt : Rt x = true := rt_iff.2 (by omega)
            have HC := Lib.hid hc
            clear hc
            go_wp2_with fail
            refine (cents_right x w).mono ?_
            rintro e w1 ⟨rfl, rfl⟩
            rw [hrt]
            go_wp2
            go_round
            case rel =>
              refine ⟨k + 1, by omega, by go_num, ?_⟩
              show _ = _
              rw [HS.out, hd.out, List.all_cons, HC.out, Bool.true_and]
            case measure => simp [intOf]; omega
          · have hc : okW x = false := by simpa using hc
            have hno : A = false := by rw [HS.out, hd.out, List.all_cons, hc, Bool.false_and]
            have HNO := Lib.hid hno
            have hxx := okW_no hc
            clear hc hno HS hd HA
            by_cases x0 : x < 0
            · clear hxx
              go_wp2
              go_ret
              exact ⟨by rw [HNO.out]; rfl, rfl⟩
            · have hrt : Rt x = false := rt_not.2 (by omega)
              clear hxx
              go_wp2_with fail
              refine (cents_right x w).mono ?_
              rintro e w1 ⟨rfl, rfl⟩
              rw [hrt]
              go_wp2
              go_ret
              exact ⟨by rw [HNO.out]; rfl, rfl⟩
        · obtain rfl : k = n := by omega
          have hno : A = true := by rw [HS.out, List.drop_of_length_le (by have := HN.out; omega)]; rfl
          have HNO := Lib.hid hno
          clear hno HS HA
          go_wp2
          go_ret
          exact ⟨by rw [HNO.out]; rfl, rfl⟩
end Go.Proofs.Ytadaaoljpeojcaa
