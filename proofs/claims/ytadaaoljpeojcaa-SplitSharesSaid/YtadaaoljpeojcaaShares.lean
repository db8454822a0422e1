/-
  Shares of a sum, plain: quotients, what they leave, one more for those that leave the most. No program; no conditions but those of each theorem.
-/
import Derived.Test.YtadaaoljpeojcaaSortH
namespace Go.Proofs.Ytadaaoljpeojcaa
open Go.Sort

/-- The first n of f, added up. -/
def sumTo (f : Nat → Int) : Nat → Int
  | 0 => 0
  | n + 1 => sumTo f n + f n
theorem sumTo_congr {f g : Nat → Int} : ∀ n, (∀ t, t < n → f t = g t) → sumTo f n = sumTo g n
  | 0, _ => rfl
  | n + 1, h => by rw [sumTo, sumTo, sumTo_congr n (fun t ht => h t (by omega)), h n (by omega)]
theorem sumTo_add (f g : Nat → Int) : ∀ n, sumTo (fun t => f t + g t) n = sumTo f n + sumTo g n
  | 0 => rfl
  | n + 1 => by rw [sumTo, sumTo, sumTo, sumTo_add f g n]; omega
theorem sumTo_mul (f : Nat → Int) (a : Int) : ∀ n, sumTo (fun t => f t * a) n = sumTo f n * a
  | 0 => by simp [sumTo]
  | n + 1 => by rw [sumTo, sumTo, sumTo_mul f a n, Int.add_mul]
theorem sumTo_le {f : Nat → Int} {b : Int} : ∀ n, (∀ t, t < n → f t ≤ b) → sumTo f n ≤ n * b
  | 0, _ => by simp [sumTo]
  | n + 1, h => by
    have h1 := sumTo_le n (fun t ht => h t (by omega))
    have h2 := h n (by omega)
    rw [sumTo, Int.natCast_add, Int.add_mul]
    simp only [Int.natCast_one, Int.one_mul]
    omega
theorem sumTo_nonneg {f : Nat → Int} : ∀ n, (∀ t, t < n → 0 ≤ f t) → 0 ≤ sumTo f n
  | 0, _ => Int.le_refl _
  | n + 1, h => by have h1 := sumTo_nonneg n (fun t ht => h t (by omega)); have h2 := h n (by omega); rw [sumTo]; omega
theorem sumTo_mono {f : Nat → Int} (n : Nat) (h : ∀ t, t < n → 0 ≤ f t) : ∀ k, k ≤ n → sumTo f k ≤ sumTo f n := by
  induction n with
  | zero =>
    intro k hk
    obtain rfl : k = 0 := by omega
    exact Int.le_refl _
  | succ n ih =>
    intro k hk
    by_cases e : k = n + 1
    · subst e; exact Int.le_refl _
    · have h1 := ih (fun t ht => h t (by omega)) k (by omega)
      have h2 := h n (by omega)
      rw [sumTo]; omega

/-! ### Who is among the first L -/
theorem countP_less {β : Type} (p q : β → Bool) : ∀ (l : List β), (∀ x ∈ l, p x = true → q x = true) → (∃ x ∈ l, q x = true ∧ p x = false) → l.countP p < l.countP q
  | [], _, ⟨x, hx, _⟩ => by cases hx
  | y :: l, h, ⟨x, hx, h1, h2⟩ => by
    have hl : l.countP p ≤ l.countP q := List.countP_mono_left (fun z hz hp => h z (List.mem_cons_of_mem _ hz) hp)
    rw [List.countP_cons, List.countP_cons]
    rcases List.mem_cons.1 hx with rfl | hx
    · simp only [h1, h2, if_true, Bool.false_eq_true, if_false]; omega
    · have := countP_less p q l (fun z hz => h z (List.mem_cons_of_mem _ hz)) ⟨x, hx, h1, h2⟩
      have hy := h y (List.mem_cons_self ..)
      cases hp : p y with
      | true => simp only [hy hp, if_true]; omega
      | false => simp only [Bool.false_eq_true, if_false]; split <;> omega

/-- How many come ahead of k. -/
def rank (r : Nat → Int) (n k : Nat) : Nat := (List.range n).countP fun j => ahead r j k
theorem ahead_irrefl (r : Nat → Int) (i : Nat) : ahead r i i = false := by simp [ahead]
theorem ahead_total {r : Nat → Int} {i j : Nat} (h : i ≠ j) (h2 : ahead r j i = false) : ahead r i j = true := by
  simp only [ahead, decide_eq_false_iff_not, decide_eq_true_eq] at *
  omega
theorem ahead_asymm {r : Nat → Int} {i j : Nat} (h : ahead r i j = true) : ahead r j i = false := by
  simp only [ahead, decide_eq_false_iff_not, decide_eq_true_eq] at *
  omega
/-- As many as L, none of whom comes behind one that isn't among them: those of rank below L. -/
theorem among {r : Nat → Int} {n L : Nat} {G : Nat → Bool} (hc : (List.range n).countP G = L) (hu : ∀ k j, k < n → j < n → G k = true → G j = false → ahead r k j = true) (k : Nat) (hk : k < n) : G k = decide (rank r n k < L) := by
  cases hg : G k with
  | true =>
    refine (decide_eq_true ?_).symm
    rw [← hc]
    refine countP_less _ _ _ (fun j hj ha => ?_) ⟨k, List.mem_range.2 hk, hg, ahead_irrefl r k⟩
    cases hj2 : G j with
    | true => rfl
    | false =>
      have := hu k j hk (List.mem_range.1 hj) hg hj2
      rw [ahead_asymm this] at ha
      cases ha
  | false =>
    refine (decide_eq_false ?_).symm
    rw [← hc, Nat.not_lt]
    exact List.countP_mono_left fun j hj hG => hu j k (List.mem_range.1 hj) hk hG hg

/-! ### The first L of a list in order -/
/-- One more for those among the first t. -/
def one (ps : List Nat) (t k : Nat) : Int := if k ∈ ps.take t then 1 else 0
theorem one_zero (ps : List Nat) (k : Nat) : one ps 0 k = 0 := by simp [one]
theorem one_next {ps : List Nat} {t : Nat} (ht : t < ps.length) (hn : ps.Nodup) (k : Nat) : one ps (t + 1) k = if k = ps[t] then one ps t k + 1 else one ps t k := by
  unfold one
  rw [List.take_succ_eq_append_getElem ht]
  have hnot : ps[t] ∉ ps.take t := by
    have h := hn
    rw [← List.take_append_drop t ps, List.nodup_append] at h
    intro hm
    have hd : ps[t] ∈ ps.drop t := by rw [List.drop_eq_getElem_cons ht]; exact List.mem_cons_self ..
    exact h.2.2 _ hm _ hd rfl
  by_cases h : k = ps[t]
  · rw [if_pos (List.mem_append.2 (.inr (List.mem_singleton.2 h))), if_pos h, h, if_neg hnot]; rfl
  · rw [if_neg h]
    by_cases h2 : k ∈ ps.take t
    · rw [if_pos (List.mem_append.2 (.inl h2)), if_pos h2]
    · rw [if_neg (fun h0 => (List.mem_append.1 h0).elim h2 (fun h3 => h (List.mem_singleton.1 h3))), if_neg h2]
theorem one_bounds (ps : List Nat) (t k : Nat) : 0 ≤ one ps t k ∧ one ps t k ≤ 1 := by unfold one; split <;> omega
theorem count_first {ps : List Nat} {n L : Nat} (hp : ps.Perm (List.range n)) (hL : L ≤ n) : (List.range n).countP (fun k => decide (k ∈ ps.take L)) = L := by
  have hn : ps.Nodup := hp.nodup_iff.2 (List.nodup_range)
  have hlen : ps.length = n := by rw [hp.length_eq, List.length_range]
  rw [← hp.countP_eq]
  have h := hn
  rw [← List.take_append_drop L ps, List.nodup_append] at h
  have e : ps.countP (fun k => decide (k ∈ ps.take L)) = (ps.take L).countP (fun k => decide (k ∈ ps.take L)) + (ps.drop L).countP (fun k => decide (k ∈ ps.take L)) := by
    conv => lhs; arg 2; rw [← List.take_append_drop L ps]
    rw [List.countP_append]
  rw [e, List.countP_eq_length.2 (fun a ha => by simpa using ha), List.countP_eq_zero.2 (fun a ha => by
    simp only [decide_eq_true_eq]
    intro hm
    exact h.2.2 _ hm _ ha rfl), List.length_take]
  omega
/-- A list of places, those that come ahead first. -/
structure InOrder (r : Nat → Int) (n : Nat) (ps : List Nat) : Prop where
  perm : ps.Perm (List.range n)
  order : ∀ i j, i < j → (hj : j < ps.length) → ∀ (hi : i < ps.length), ahead r ps[j] ps[i] = false
theorem InOrder.length {r : Nat → Int} {n : Nat} {ps : List Nat} (h : InOrder r n ps) : ps.length = n := by rw [h.perm.length_eq, List.length_range]
theorem InOrder.nodup {r : Nat → Int} {n : Nat} {ps : List Nat} (h : InOrder r n ps) : ps.Nodup := h.perm.nodup_iff.2 List.nodup_range
theorem InOrder.lt {r : Nat → Int} {n : Nat} {ps : List Nat} (h : InOrder r n ps) (i : Nat) (hi : i < ps.length) : ps[i] < n := List.mem_range.1 (h.perm.mem_iff.1 (List.getElem_mem hi))
theorem InOrder.one {r : Nat → Int} {n L : Nat} {ps : List Nat} (h : InOrder r n ps) (hL : L ≤ n) (k : Nat) (hk : k < n) : one ps L k = if rank r n k < L then 1 else 0 := by
  have hu : ∀ k j, k < n → j < n → decide (k ∈ ps.take L) = true → decide (j ∈ ps.take L) = false → ahead r k j = true := fun k j hk hj h1 h2 => by
    simp only [decide_eq_true_eq, decide_eq_false_iff_not] at h1 h2
    obtain ⟨a, ha, rfl⟩ := List.mem_iff_getElem.1 h1
    have hjm : j ∈ ps := h.perm.mem_iff.2 (List.mem_range.2 hj)
    obtain ⟨b, hb, rfl⟩ := List.mem_iff_getElem.1 hjm
    rw [List.length_take] at ha
    rw [List.getElem_take] at *
    have hab : a < b := by
      refine Nat.lt_of_not_le fun hba => h2 ?_
      exact List.mem_iff_getElem.2 ⟨b, by rw [List.length_take]; omega, by rw [List.getElem_take]⟩
    refine ahead_total (fun e => h2 (e ▸ h1)) (h.order a b hab hb (by omega))
  have := among (r := r) (G := fun k => decide (k ∈ ps.take L)) (count_first h.perm hL) hu k hk
  unfold Go.Proofs.Ytadaaoljpeojcaa.one
  by_cases hm : k ∈ ps.take L
  · rw [if_pos hm, if_pos]
    rw [decide_eq_true hm] at this
    exact of_decide_eq_true this.symm
  · rw [if_neg hm, if_neg]
    rw [decide_eq_false hm] at this
    exact of_decide_eq_false this.symm
theorem Places.inOrder {r : Nat → Int} {n : Nat} {d : Array (Fin (n + 1))} (h : Places r n d) : InOrder r (n + 1) (d.toList.map (·.val)) := by
  have hs := h.size
  constructor
  · have hp := h.perm.2.2
    rw [Array.extract_eq_self_of_le (by omega), Array.extract_eq_self_of_le (by rw [placesF_size]; omega)] at hp
    refine (hp.map _).trans ?_
    have e : (placesF n).toList.map (·.val) = List.range (n + 1) := by
      apply List.ext_getElem (by simp [placesF])
      intro i h1 h2
      have h3 : i < n + 1 := by simpa using h2
      have := placesF_get n i h3
      rw [getElem!_pos (placesF n) i (by rw [placesF_size]; exact h3)] at this
      rw [List.getElem_map, List.getElem_range, Array.getElem_toList]
      exact this
    rw [e]
  · intro i j hij hj hi
    simp only [List.length_map, Array.length_toList] at hi hj
    have := h.sorted i j (Nat.zero_le _) hij (by omega)
    rw [getElem!_pos d i hi, getElem!_pos d j hj] at this
    simpa [aheadF] using this
theorem sum_one {r : Nat → Int} {n L : Nat} {ps : List Nat} (h : InOrder r n ps) (hL : L ≤ n) : sumTo (one ps L) n = L := by
  have e : ∀ m, sumTo (one ps L) m = ((List.range m).countP (fun k => decide (k ∈ ps.take L)) : Nat) := by
    intro m
    induction m with
    | zero => rfl
    | succ m ih =>
      rw [sumTo, ih, List.range_succ, List.countP_append, List.countP_singleton]
      unfold one
      by_cases hm : m ∈ ps.take L <;> simp [hm]
  rw [e, count_first h.perm hL]

/-! ### Shares -/
/-- The weight at k, what it gets, what it leaves. -/
def wt (ws : List Int) (k : Nat) : Int := ws.getD k 0
def quo (s : Int) (ws : List Int) (a : Int) (k : Nat) : Int := s * wt ws k / a
def rst (s : Int) (ws : List Int) (a : Int) (k : Nat) : Int := s * wt ws k - quo s ws a k * a
/-- All weights, which are right. -/
structure Weights (s : Int) (ws : List Int) (a : Int) : Prop where
  s0 : 0 ≤ s
  s1 : s ≤ 1125899906842624
  w0 : ∀ k, 0 ≤ wt ws k
  all : sumTo (wt ws) ws.length = a
  a0 : 0 < a
  a1 : a ≤ 1125899906842624
theorem wt_out {ws : List Int} {k : Nat} (h : ¬ k < ws.length) : wt ws k = 0 := by simp [wt, List.getD, h]
theorem Weights.wa {s : Int} {ws : List Int} {a : Int} (h : Weights s ws a) (k : Nat) : wt ws k ≤ a := by
  by_cases hk : k < ws.length
  · have h1 := sumTo_mono ws.length (fun t _ => h.w0 t) (k + 1) hk
    rw [sumTo, h.all] at h1
    have h2 := sumTo_nonneg (f := wt ws) k (fun t _ => h.w0 t)
    omega
  · rw [wt_out hk]; exact Int.le_of_lt h.a0
theorem Weights.quo {s : Int} {ws : List Int} {a : Int} (h : Weights s ws a) (k : Nat) : 0 ≤ quo s ws a k ∧ quo s ws a k ≤ s := by
  have h1 := h.w0 k
  have h2 := h.wa k
  refine ⟨Int.ediv_nonneg (Int.mul_nonneg h.s0 h1) (Int.le_of_lt h.a0), ?_⟩
  have : s * wt ws k ≤ s * a := Int.mul_le_mul_of_nonneg_left h2 h.s0
  exact Int.ediv_le_of_le_mul h.a0 this
theorem Weights.rst {s : Int} {ws : List Int} {a : Int} (h : Weights s ws a) (k : Nat) : 0 ≤ rst s ws a k ∧ rst s ws a k < a := by
  unfold Go.Proofs.Ytadaaoljpeojcaa.rst Go.Proofs.Ytadaaoljpeojcaa.quo
  have e := Int.mul_ediv_add_emod (s * wt ws k) a
  have h1 := Int.emod_nonneg (s * wt ws k) (Int.ne_of_gt h.a0)
  have h2 := Int.emod_lt_of_pos (s * wt ws k) h.a0
  rw [Int.mul_comm] at e
  omega
/-- What is left of the sum. -/
def left (s : Int) (ws : List Int) (a : Int) : Int := s - sumTo (quo s ws a) ws.length
theorem Weights.left_all {s : Int} {ws : List Int} {a : Int} (h : Weights s ws a) : left s ws a * a = sumTo (Go.Proofs.Ytadaaoljpeojcaa.rst s ws a) ws.length := by
  have e : sumTo (fun k => s * wt ws k) ws.length = s * a := by
    rw [sumTo_congr (g := fun k => wt ws k * s) _ (fun t _ => Int.mul_comm _ _), sumTo_mul, h.all, Int.mul_comm]
  have e2 : sumTo (fun k => s * wt ws k) ws.length = sumTo (Go.Proofs.Ytadaaoljpeojcaa.quo s ws a) ws.length * a + sumTo (Go.Proofs.Ytadaaoljpeojcaa.rst s ws a) ws.length := by
    rw [← sumTo_mul, ← sumTo_add]
    exact sumTo_congr _ fun t _ => by unfold Go.Proofs.Ytadaaoljpeojcaa.rst; omega
  unfold left
  rw [Int.sub_mul]
  omega
theorem Weights.left {s : Int} {ws : List Int} {a : Int} (h : Weights s ws a) : 0 ≤ left s ws a ∧ left s ws a < ws.length := by
  have e := h.left_all
  have h1 := sumTo_nonneg (f := Go.Proofs.Ytadaaoljpeojcaa.rst s ws a) ws.length (fun t _ => (h.rst t).1)
  have hn : 0 < ws.length := by
    rcases Nat.eq_zero_or_pos ws.length with h0 | h0
    · have := h.all; rw [h0] at this; have := h.a0; simp [sumTo] at *; omega
    · exact h0
  have h2 := sumTo_le (f := Go.Proofs.Ytadaaoljpeojcaa.rst s ws a) (b := a - 1) ws.length (fun t _ => by have := (h.rst t).2; omega)
  have h3 : sumTo (Go.Proofs.Ytadaaoljpeojcaa.rst s ws a) ws.length < ws.length * a := by
    have : (ws.length : Int) * (a - 1) = ws.length * a - ws.length := by rw [Int.mul_sub, Int.mul_one]
    omega
  constructor
  · refine Int.not_lt.1 fun hlt => ?_
    have := Int.mul_neg_of_neg_of_pos hlt h.a0
    omega
  · refine Int.lt_of_mul_lt_mul_right ?_ (Int.le_of_lt h.a0)
    rw [e]; exact h3
/-- The share of the weight at k; and all shares. -/
def shareAt (s : Int) (ws : List Int) (a : Int) (k : Nat) : Int := quo s ws a k + if (rank (rst s ws a) ws.length k : Int) < left s ws a then 1 else 0
def sharesBy (s : Int) (ws : List Int) (a : Int) : List Int := (List.range ws.length).map (shareAt s ws a)
theorem sharesBy_length (s : Int) (ws : List Int) (a : Int) : (sharesBy s ws a).length = ws.length := by simp [sharesBy]
theorem sharesBy_get (s : Int) (ws : List Int) (a : Int) (k : Nat) (h : k < (sharesBy s ws a).length) : (sharesBy s ws a)[k] = shareAt s ws a k := by simp [sharesBy]
end Go.Proofs.Ytadaaoljpeojcaa
