/-
  What follows of shares, plain: they come to the sum; of the same weights the first ones haven't less. No program; conditions: those of each theorem.
-/
import Derived.Test.YtadaaoljpeojcaaSplitLaw
namespace Go.Proofs.Ytadaaoljpeojcaa

theorem ahead_trans {r : Nat → Int} {i j k : Nat} (h1 : ahead r i j = true) (h2 : ahead r j k = true) : ahead r i k = true := by
  simp only [ahead, decide_eq_true_eq] at *
  omega
theorem rank_mono {r : Nat → Int} {k i : Nat} (n : Nat) (h : ahead r k i = true) : rank r n k ≤ rank r n i :=
  List.countP_mono_left fun _ _ hj => ahead_trans hj h
theorem inOrder_ex (r : Nat → Int) (n : Nat) : ∃ ps, InOrder r n ps := by
  refine ⟨(List.range n).mergeSort (fun i j => !ahead r j i), List.mergeSort_perm _ _, fun i j hij hj hi => ?_⟩
  have hp := List.pairwise_mergeSort (le := fun i j => !ahead r j i) (fun a b c h1 h2 => by
    simp only [ahead, Bool.not_eq_true', decide_eq_false_iff_not] at *
    omega) (fun a b => by
    cases h : ahead r b a with
    | false => simp
    | true => simp [ahead_asymm h]) (List.range n)
  have := List.pairwise_iff_getElem.1 hp i j hi hj hij
  simpa using this
theorem sum_rank {r : Nat → Int} {n L : Nat} (hL : L ≤ n) : sumTo (fun k => if rank r n k < L then (1 : Int) else 0) n = L := by
  obtain ⟨ps, h⟩ := inOrder_ex r n
  rw [← sum_one h hL]
  exact sumTo_congr n fun t ht => (h.one hL t ht).symm
theorem shares_sum {s : Int} {ws : List Int} {a : Int} (h : Weights s ws a) : sumTo (shareAt s ws a) ws.length = s := by
  have hl := h.left
  obtain ⟨L, hL⟩ := Int.eq_ofNat_of_zero_le hl.1
  rw [hL] at hl
  have e : sumTo (shareAt s ws a) ws.length = sumTo (quo s ws a) ws.length + sumTo (fun k => if rank (rst s ws a) ws.length k < L then (1 : Int) else 0) ws.length := by
    rw [← sumTo_add]
    refine sumTo_congr _ fun t _ => ?_
    unfold shareAt
    rw [hL]
    congr 1
    by_cases hh : rank (rst s ws a) ws.length t < L
    · rw [if_pos (by omega), if_pos hh]
    · rw [if_neg (by omega), if_neg hh]
  rw [e, sum_rank (by omega)]
  have := hL
  unfold left at this
  omega
theorem share_near (s : Int) (ws : List Int) (a : Int) (k : Nat) : shareAt s ws a k = quo s ws a k ∨ shareAt s ws a k = quo s ws a k + 1 := by
  unfold shareAt
  by_cases h : ((rank (rst s ws a) ws.length k : Nat) : Int) < left s ws a
  · rw [if_pos h]; exact .inr rfl
  · rw [if_neg h]; exact .inl (Int.add_zero _)
theorem share_same {s : Int} {ws : List Int} {a : Int} {k i : Nat} (hk : k < i) (hw : wt ws k = wt ws i) : shareAt s ws a i ≤ shareAt s ws a k ∧ shareAt s ws a k ≤ shareAt s ws a i + 1 := by
  have hq : quo s ws a k = quo s ws a i := by unfold quo; rw [hw]
  have hr : rst s ws a k = rst s ws a i := by unfold rst; rw [hw, hq]
  have ha : ahead (rst s ws a) k i = true := by simp only [ahead, decide_eq_true_eq]; omega
  have hm := rank_mono ws.length ha
  unfold shareAt
  rw [hq]
  by_cases h1 : ((rank (rst s ws a) ws.length k : Nat) : Int) < left s ws a
  · rw [if_pos h1]; split <;> omega
  · rw [if_neg h1, if_neg (by omega)]; omega

/-- What is told of shares that are not refused. -/
structure Told6 (s : Int) (ws : List Int) (zs : List Int) : Prop where
  length : zs.length = ws.length
  sum : sumTo (wt zs) ws.length = s
  bounds : ∀ i, i < ws.length → 0 ≤ wt zs i ∧ wt zs i ≤ 1125899906842625
  near : 0 < ws.sum → ∀ i, i < ws.length → wt zs i = quo s ws ws.sum i ∨ wt zs i = quo s ws ws.sum i + 1
  same : ∀ k i, k < i → i < ws.length → wt ws k = wt ws i → wt zs i ≤ wt zs k ∧ wt zs k ≤ wt zs i + 1
theorem wsOf_weights {s : Int} {ws : List Int} (hr : rightW ws = true) (hs : okW s = true) (hm : ws.sum ≤ 1125899906842624) : Weights s (wsOf ws) (wsOf ws).sum := by
  have hsok := okW_yes hs
  have hf := rightW_few hr
  have h1 := sum_nonneg (rightW_all hr)
  have hsum : (wsOf ws).sum = if ws.sum = 0 then (ws.length : Int) else ws.sum := by
    unfold wsOf
    split
    · rw [ones_sum]
    · rfl
  have hall : (wsOf ws).all okW = true := by
    unfold wsOf
    split
    · rw [List.all_replicate]; split <;> rfl
    · exact rightW_all hr
  exact ⟨hsok.1, hsok.2, all_okW hall, all_sum _, by rw [hsum]; split <;> omega, by rw [hsum]; split <;> omega⟩
theorem told6 {s : Int} {ws : List Int} (hr : rightW ws = true) (hs : okW s = true) (hm : ws.sum ≤ 1125899906842624) : Told6 s ws (sharesOf s ws) := by
  have hW := wsOf_weights hr hs hm
  have hl := wsOf_length ws
  have hat : ∀ i, i < ws.length → wt (sharesOf s ws) i = shareAt s (wsOf ws) (wsOf ws).sum i := fun i hi => by
    have : i < (sharesOf s ws).length := by rw [sharesOf_length]; exact hi
    unfold wt
    simp only [List.getD, List.getElem?_eq_getElem this, Option.getD_some]
    exact sharesBy_get s (wsOf ws) (wsOf ws).sum i this
  refine ⟨sharesOf_length s ws, ?_, fun i hi => ?_, fun h0 i hi => ?_, fun k i hk hi hw => ?_⟩
  · rw [sumTo_congr _ hat, ← hl]; exact shares_sum hW
  · rw [hat i hi]
    have h1 := hW.quo i
    have h2 := share_near s (wsOf ws) (wsOf ws).sum i
    have h3 := hW.s1
    omega
  · have e : wsOf ws = ws := by unfold wsOf; rw [if_neg (by omega)]
    rw [hat i hi, e]
    exact share_near s ws ws.sum i
  · rw [hat i hi, hat k (by omega)]
    refine share_same hk ?_
    unfold wsOf
    split
    · have a1 : k < ws.length := by omega
      simp [wt, List.getD, a1, hi]
    · exact hw
end Go.Proofs.Ytadaaoljpeojcaa
