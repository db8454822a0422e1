/-
  A config's units: as a function; rows of units in memory. Plain. Conditions: those of each theorem. The shares of an order's units: what they come to, and that none is below nought. Plain. Conditions: those of each theorem. The library's Repeat, of one number, of one unit. Conditions: those of the theorems. Package order: prices. Conditions: those of each theorem.
-/
import Derived.Test.YtbiompjhenkieaaGreatCfgX
import Derived.Test.YtbiompjhenkieaaGreatSplitX
import Derived.Test.YtbiompjhenkieaaGreatBase
import Derived.Laws.MakeOwn
namespace Go.Proofs.YtbiompjhenkieaaGreat
open Go.RowKit
set_option maxRecDepth 100000

/-- A unit. -/
structure Unt where
  ord : Int
  sku : Int
  cat : Int
  share : Int
def Unt.arr (u : Unt) : Array Value := #[.int .i64 u.ord, .int .i64 u.sku, .int .i64 u.cat, .int .i64 u.share]
def unitCells (us : List Unt) : List Value := (us.map fun u => u.arr.toList).flatten
theorem unitCells_snoc (us : List Unt) (u : Unt) : unitCells (us ++ [u]) = unitCells us ++ u.arr.toList := by simp [unitCells]
theorem unitCells_length (us : List Unt) : (unitCells us).length = us.length * 4 := by
  induction us with
  | nil => rfl
  | cons u us ih =>
    simp only [unitCells, List.map_cons, List.flatten_cons, List.length_append, List.length_cons] at ih ⊢
    rw [ih, show u.arr.toList.length = 4 from rfl]
    omega
theorem unitCells_get : ∀ (us : List Unt) (i j : Nat) (v : Value) (h : i < us.length), us[i].arr[j]? = some v → (unitCells us)[i * 4 + j]? = some v
  | u :: us, 0, j, v, _, hv => by
    have hj : j < 4 := (Array.getElem?_eq_some_iff.1 hv).1
    show (u.arr.toList ++ unitCells us)[0 * 4 + j]? = some v
    rw [Nat.zero_mul, Nat.zero_add, List.getElem?_append_left (by show j < 4; exact hj), Array.getElem?_toList]
    exact hv
  | u :: us, i + 1, j, v, h, hv => by
    show (u.arr.toList ++ unitCells us)[(i + 1) * 4 + j]? = some v
    rw [List.getElem?_append_right (by show 4 ≤ _; omega), show (i + 1) * 4 + j - u.arr.toList.length = i * 4 + j by show (i + 1) * 4 + j - 4 = _; omega]
    exact unitCells_get us i j v (by simpa using h) (by simpa using hv)
def Unt.setShare (u : Unt) (s : Int) : Unt := { u with share := s }
theorem unitCells_set : ∀ (us : List Unt) (i : Nat) (h : i < us.length) (s : Int), (unitCells us).set (i * 4 + 3) (.int .i64 s) = unitCells (us.set i (us[i].setShare s))
  | u :: us, 0, _, s => rfl
  | u :: us, i + 1, h, s => by
    have ih := unitCells_set us i (by simpa using h) s
    show (u.arr.toList ++ unitCells us).set ((i + 1) * 4 + 3) _ = u.arr.toList ++ unitCells _
    rw [List.set_append_right _ _ (by show 4 ≤ _; omega), show (i + 1) * 4 + 3 - u.arr.toList.length = i * 4 + 3 by show (i + 1) * 4 + 3 - 4 = _; omega, ih]
    rfl
theorem unit_one (u : Unt) : ∀ v ∈ u.arr.toList, v.oneCell' = true := by
  intro v hv
  simp only [Unt.arr, List.mem_cons, List.not_mem_nil, or_false] at hv
  rcases hv with rfl | rfl | rfl | rfl <;> rfl

def baseU (i : Nat) (l : Ln) : Unt := ⟨i, l.sku, l.cat, l.price⟩
def bases (i : Nat) (ls : List Ln) : List Unt := (ls.map fun l => List.replicate l.count.toNat (baseU i l)).flatten
def prices (ls : List Ln) : List Int := (ls.map fun l => List.replicate l.count.toNat l.price).flatten
def delta (x : Ord) (k : Nat) : Int := (sharesOf x.tax (prices x.lines)).getD k 0 + (sharesOf x.ship (prices x.lines)).getD k 0 - (sharesOf x.disc (prices x.lines)).getD k 0
/-- The first t of some units have their shares. -/
def adjTo (x : Ord) (us : List Unt) (t : Nat) : List Unt := (List.range us.length).map fun k => if k < t then (us.getD k ⟨0, 0, 0, 0⟩).setShare ((us.getD k ⟨0, 0, 0, 0⟩).share + delta x k) else us.getD k ⟨0, 0, 0, 0⟩
def ordU (i : Nat) (x : Ord) : List Unt := adjTo x (bases i x.lines) (bases i x.lines).length
def ordsU (os : List Ord) : Nat → List Unt
  | 0 => []
  | k + 1 => ordsU os k ++ ordU k (os.getD k ⟨0, [], 0, 0, 0⟩)
def supU (s : Sup) : List Unt := List.replicate s.count.toNat ⟨-1, s.sku, 0, s.price⟩
def supsU (ss : List Sup) : List Unt := (ss.map supU).flatten
def unitsC (C : Cfg) : List Unt := ordsU C.orders C.orders.length ++ supsU C.sups

theorem bases_length (i : Nat) (ls : List Ln) : (bases i ls).length = (prices ls).length := by
  induction ls with
  | nil => rfl
  | cons l ls ih =>
    simp only [bases, prices, List.map_cons, List.flatten_cons, List.length_append, List.length_replicate] at ih ⊢
    rw [ih]
theorem bases_take (i : Nat) (ls : List Ln) (m : Nat) (h : m < ls.length) : bases i (ls.take (m + 1)) = bases i (ls.take m) ++ List.replicate ls[m].count.toNat (baseU i ls[m]) := by
  unfold bases
  rw [List.take_succ_eq_append_getElem h, List.map_append, List.flatten_append]
  simp
theorem prices_take (ls : List Ln) (m : Nat) (h : m < ls.length) : prices (ls.take (m + 1)) = prices (ls.take m) ++ List.replicate ls[m].count.toNat ls[m].price := by
  unfold prices
  rw [List.take_succ_eq_append_getElem h, List.map_append, List.flatten_append]
  simp
theorem supsU_take (ss : List Sup) (m : Nat) (h : m < ss.length) : supsU (ss.take (m + 1)) = supsU (ss.take m) ++ supU ss[m] := by
  unfold supsU
  rw [List.take_succ_eq_append_getElem h, List.map_append, List.flatten_append]
  simp
theorem prices_length {cats : Nat} : ∀ {ls : List Ln}, ls.all (lineB cats) = true → ((prices ls).length : Int) = counts ls
  | [], _ => rfl
  | l :: ls, h => by
    rw [List.all_cons, Bool.and_eq_true] at h
    have h1 := (line_ok h.1).count
    have ih := prices_length h.2
    simp only [prices, counts, List.map_cons, List.flatten_cons, List.length_append, List.length_replicate] at ih ⊢
    omega
theorem prices_sum {cats : Nat} : ∀ {ls : List Ln}, ls.all (lineB cats) = true → (prices ls).sum = total ls
  | [], _ => rfl
  | l :: ls, h => by
    rw [List.all_cons, Bool.and_eq_true] at h
    have h1 := (line_ok h.1).count
    have ih := prices_sum h.2
    have e : ∀ (n : Nat) (a : Int), (List.replicate n a).sum = a * n := fun n a => by
      induction n with
      | zero => simp
      | succ n ih => rw [List.replicate_succ, List.sum_cons, ih, Int.natCast_succ, Int.mul_add]; omega
    simp only [prices, total, List.map_cons, List.flatten_cons, List.sum_append, e] at ih ⊢
    rw [ih]
    congr 2
    omega
theorem prices_all {cats : Nat} : ∀ {ls : List Ln}, ls.all (lineB cats) = true → ∀ p ∈ prices ls, 0 ≤ p ∧ p ≤ 1073741824
  | [], _, p, hp => by simp [prices] at hp
  | l :: ls, h, p, hp => by
    rw [List.all_cons, Bool.and_eq_true] at h
    simp only [prices, List.map_cons, List.flatten_cons, List.mem_append] at hp
    rcases hp with hp | hp
    · rw [List.mem_replicate] at hp
      rw [hp.2]
      exact (line_ok h.1).price
    · exact prices_all h.2 p hp
theorem adjTo_zero (x : Ord) (us : List Unt) : adjTo x us 0 = us := by
  unfold adjTo
  apply List.ext_getElem
  · simp
  · intro k h1 h2
    simp [h2]
theorem adjTo_length (x : Ord) (us : List Unt) (t : Nat) : (adjTo x us t).length = us.length := by simp [adjTo]
theorem adjTo_at (x : Ord) (us : List Unt) (t : Nat) (h : t < us.length) : (adjTo x us t)[t]'(by rw [adjTo_length]; exact h) = us[t] := by
  simp [adjTo, h]
theorem adjTo_step (x : Ord) (us : List Unt) (t : Nat) (h : t < us.length) : (adjTo x us t).set t (us[t].setShare (us[t].share + delta x t)) = adjTo x us (t + 1) := by
  unfold adjTo
  apply List.ext_getElem
  · simp
  · intro k h1 h2
    simp at h2
    rw [List.getElem_set]
    by_cases e : t = k
    · subst e
      simp [h]
    · rw [if_neg e]
      simp only [List.getElem_map, List.getElem_range]
      by_cases hk : k < t
      · rw [if_pos hk, if_pos (by omega)]
      · rw [if_neg hk, if_neg (by omega)]
end Go.Proofs.YtbiompjhenkieaaGreat

namespace Go.Proofs.YtbiompjhenkieaaGreat
set_option maxRecDepth 100000

theorem sum_some {r : Nat → Int} {a : Int} : ∀ n, (∀ t, t < n → 0 ≤ r t ∧ r t < a) → sumTo r n ≤ ((List.range n).countP fun t => decide (0 < r t) : Nat) * (a - 1)
  | 0, _ => by simp [sumTo]
  | n + 1, h => by
    have ih := sum_some n (fun t ht => h t (by omega))
    have hn := h n (by omega)
    rw [sumTo, List.range_succ, List.countP_append, Int.natCast_add, Int.add_mul]
    by_cases h0 : 0 < r n
    · have e : ([n].countP fun t => decide (0 < r t)) = 1 := by simp [h0]
      rw [e]
      simp only [Int.natCast_one, Int.one_mul]
      omega
    · have e : ([n].countP fun t => decide (0 < r t)) = 0 := by simp [h0]
      rw [e]
      simp only [Int.natCast_zero, Int.zero_mul]
      omega
theorem share_rest0 {s : Int} {ws : List Int} {a : Int} (h : Weights s ws a) {k : Nat} (hr : rst s ws a k = 0) : shareAt s ws a k = quo s ws a k := by
  have h1 := sum_some (r := rst s ws a) (a := a) ws.length (fun t _ => h.rst t)
  rw [← h.left_all] at h1
  have h2 : ((List.range ws.length).countP fun t => decide (0 < rst s ws a t)) ≤ rank (rst s ws a) ws.length k := by
    unfold rank
    refine List.countP_mono_left fun t _ ht => ?_
    have := of_decide_eq_true ht
    simp only [ahead, decide_eq_true_eq]
    omega
  generalize ((List.range ws.length).countP fun t => decide (0 < rst s ws a t)) = P at *
  have h3 : left s ws a ≤ P := by
    refine Int.le_of_mul_le_mul_right (a := a) ?_ h.a0
    have : (P : Int) * (a - 1) = P * a - P := by rw [Int.mul_sub, Int.mul_one]
    omega
  unfold shareAt
  rw [if_neg (by omega)]
  omega
theorem share_upto {s : Int} {ws : List Int} {a : Int} (h : Weights s ws a) (hsa : s ≤ a) (k : Nat) : shareAt s ws a k ≤ wt ws k := by
  have hw := h.w0 k
  have hm : s * wt ws k ≤ a * wt ws k := Int.mul_le_mul_of_nonneg_right hsa hw
  have hq : quo s ws a k * a + rst s ws a k = s * wt ws k := by unfold rst; omega
  have hr := h.rst k
  rw [Int.mul_comm a] at hm
  by_cases h0 : rst s ws a k = 0
  · rw [share_rest0 h h0]
    refine Int.le_of_mul_le_mul_right (a := a) ?_ h.a0
    omega
  · have h1 : quo s ws a k < wt ws k := by
      refine Int.lt_of_mul_lt_mul_right (a := a) ?_ (Int.le_of_lt h.a0)
      omega
    rcases share_near s ws a k with e | e <;> omega
theorem wt_shares {s : Int} {ws : List Int} {k : Nat} (hk : k < ws.length) : wt (sharesOf s ws) k = shareAt s (wsOf ws) (wsOf ws).sum k := by
  have h : k < (sharesOf s ws).length := by rw [sharesOf_length]; exact hk
  unfold wt
  simp only [List.getD, List.getElem?_eq_getElem h, Option.getD_some]
  exact sharesBy_get s (wsOf ws) (wsOf ws).sum k h
/-- A sum that is no more than the weights: no share is more than its weight. -/
theorem shares_upto {s : Int} {ws : List Int} (hr : rightW ws = true) (hs : okW s = true) (hm : ws.sum ≤ 1125899906842624) (hle : s ≤ ws.sum) {k : Nat} (hk : k < ws.length) : wt (sharesOf s ws) k ≤ wt ws k := by
  have hW := wsOf_weights hr hs hm
  rw [wt_shares hk]
  by_cases h0 : ws.sum = 0
  · have hs0 := okW_yes hs
    obtain rfl : s = 0 := by omega
    have hq : quo 0 (wsOf ws) (wsOf ws).sum k = 0 := by simp [quo]
    have e : rst 0 (wsOf ws) (wsOf ws).sum k = 0 := by unfold rst; rw [hq]; simp
    rw [share_rest0 hW e, hq]
    exact all_okW (rightW_all hr) k
  · have e : wsOf ws = ws := by unfold wsOf; rw [if_neg h0]
    rw [e] at hW ⊢
    exact share_upto hW hle k

theorem sumTo_sub (f g : Nat → Int) : ∀ n, sumTo (fun t => f t - g t) n = sumTo f n - sumTo g n
  | 0 => rfl
  | n + 1 => by rw [sumTo, sumTo, sumTo, sumTo_sub f g n]; omega
theorem sum_range (f : Nat → Int) : ∀ n, ((List.range n).map f).sum = sumTo f n
  | 0 => rfl
  | n + 1 => by rw [List.range_succ, List.map_append, List.sum_append, sum_range f n, sumTo]; simp

/-- An order's units' shares, added up. -/
def sumI : List Unt → Int → Int
  | [], _ => 0
  | u :: us, i => (if u.ord = i then u.share else 0) + sumI us i
theorem sumI_append (a b : List Unt) (i : Int) : sumI (a ++ b) i = sumI a i + sumI b i := by
  induction a with
  | nil => simp [sumI]
  | cons u a ih => simp only [List.cons_append, sumI, ih]; omega
theorem sumI_take (us : List Unt) (k : Nat) (h : k < us.length) (i : Int) : sumI (us.take (k + 1)) i = sumI (us.take k) i + if us[k].ord = i then us[k].share else 0 := by
  rw [List.take_succ_eq_append_getElem h, sumI_append]
  simp [sumI]
theorem sumI_same : ∀ (us : List Unt) (i : Int), (∀ u ∈ us, u.ord = i) → sumI us i = (us.map Unt.share).sum
  | [], _, _ => rfl
  | u :: us, i, h => by
    simp only [sumI, List.map_cons, List.sum_cons]
    rw [if_pos (h u (List.mem_cons_self ..)), sumI_same us i (fun v hv => h v (List.mem_cons_of_mem _ hv))]
theorem sumI_other : ∀ (us : List Unt) (i : Int), (∀ u ∈ us, u.ord ≠ i) → sumI us i = 0
  | [], _, _ => rfl
  | u :: us, i, h => by
    simp only [sumI]
    rw [if_neg (h u (List.mem_cons_self ..)), sumI_other us i (fun v hv => h v (List.mem_cons_of_mem _ hv))]
    rfl
theorem sumI_nonneg : ∀ (us : List Unt) (i : Int), (∀ u ∈ us, 0 ≤ u.share) → 0 ≤ sumI us i
  | [], _, _ => Int.le_refl _
  | u :: us, i, h => by
    have h1 := sumI_nonneg us i (fun v hv => h v (List.mem_cons_of_mem _ hv))
    have h2 := h u (List.mem_cons_self ..)
    simp only [sumI]
    split <;> omega

theorem bases_ord (i : Nat) (ls : List Ln) : ∀ u ∈ bases i ls, u.ord = i := by
  intro u hu
  unfold bases at hu
  rw [List.mem_flatten] at hu
  obtain ⟨l, hl, hul⟩ := hu
  rw [List.mem_map] at hl
  obtain ⟨n, _, rfl⟩ := hl
  rw [List.mem_replicate] at hul
  rw [hul.2]
  rfl
theorem bases_shares (i : Nat) (ls : List Ln) : (bases i ls).map Unt.share = prices ls := by
  unfold bases prices
  rw [List.map_flatten, List.map_map]
  congr 1
  apply List.map_congr_left
  intro l _
  simp [baseU]
theorem ordU_ord (i : Nat) (x : Ord) : ∀ u ∈ ordU i x, u.ord = i := by
  intro u hu
  unfold ordU adjTo at hu
  rw [List.mem_map] at hu
  obtain ⟨k, hk, rfl⟩ := hu
  have hk' := List.mem_range.1 hk
  rw [if_pos hk']
  simp only [Unt.setShare, List.getD, List.getElem?_eq_getElem hk', Option.getD_some]
  exact bases_ord i _ _ (List.getElem_mem hk')
theorem ordU_shares (i : Nat) (x : Ord) : (ordU i x).map Unt.share = (List.range (prices x.lines).length).map fun k => wt (prices x.lines) k + delta x k := by
  unfold ordU adjTo
  rw [List.map_map, bases_length]
  apply List.map_congr_left
  intro k hk
  have hk' : k < (bases i x.lines).length := by rw [bases_length]; exact List.mem_range.1 hk
  simp only [Function.comp]
  rw [if_pos (List.mem_range.1 hk)]
  simp only [Unt.setShare]
  congr 1
  unfold wt
  rw [← bases_shares i x.lines]
  simp [List.getD, hk']
/-- What was paid for an order. -/
def paid (x : Ord) : Int := total x.lines + x.tax + x.ship - x.disc
theorem priceB_ok {n : Int} (h : priceB n = true) : okW n = true := by
  have := of_decide_eq_true h
  exact decide_eq_true (by omega)
structure OrdOk (x : Ord) : Prop where
  right : rightW (prices x.lines) = true
  sum : (prices x.lines).sum = total x.lines
  most : 0 ≤ total x.lines ∧ total x.lines ≤ 429496729600
  disc : 0 ≤ x.disc ∧ x.disc ≤ 1073741824 ∧ x.disc ≤ total x.lines
  tax : 0 ≤ x.tax ∧ x.tax ≤ 1073741824
  ship : 0 ≤ x.ship ∧ x.ship ≤ 1073741824
theorem ord_ok {cats : Nat} {x : Ord} (h : ordB cats x = true) (hc : counts x.lines ≤ 200) : OrdOk x := by
  have hb := h
  unfold ordB headB at hb
  simp only [Bool.and_eq_true, decide_eq_true_eq] at hb
  have hl := prices_length hb.1.2
  have ht := total_bounds hb.1.2
  have hlen := hb.1.1.1.1.1.2
  have h1 : 1 ≤ counts x.lines := by
    cases hx : x.lines with
    | nil => rw [hx] at hlen; simp at hlen
    | cons l ls =>
      have hal := hb.1.2
      rw [hx, List.all_cons, Bool.and_eq_true] at hal
      have := (line_ok hal.1).count
      have := total_bounds hal.2
      simp only [counts]
      omega
  refine ⟨?_, prices_sum hb.1.2, ⟨ht.1, by omega⟩, ?_, of_decide_eq_true hb.1.1.1.2, of_decide_eq_true hb.1.1.2⟩
  · unfold rightW few
    rw [decide_eq_true (by omega), Bool.true_and, List.all_eq_true]
    intro p hp
    have := prices_all hb.1.2 p hp
    exact decide_eq_true (by omega)
  · have := of_decide_eq_true hb.1.1.1.1.2
    exact ⟨this.1, this.2, hb.2⟩
theorem okW_of {n : Int} (h0 : 0 ≤ n) (h1 : n ≤ 1073741824) : okW n = true := decide_eq_true (by omega)
theorem ordU_sum {x : Ord} (h : OrdOk x) (i : Nat) : sumI (ordU i x) i = paid x := by
  have hm : (prices x.lines).sum ≤ 1125899906842624 := by rw [h.sum]; have := h.most; omega
  have e1 := (told6 h.right (okW_of h.disc.1 h.disc.2.1) hm).sum
  have e2 := (told6 h.right (okW_of h.tax.1 h.tax.2) hm).sum
  have e3 := (told6 h.right (okW_of h.ship.1 h.ship.2) hm).sum
  rw [sumI_same _ _ (ordU_ord i x), ordU_shares, sum_range]
  have e : (fun k => wt (prices x.lines) k + delta x k) = fun k => (wt (prices x.lines) k + (wt (sharesOf x.tax (prices x.lines)) k + wt (sharesOf x.ship (prices x.lines)) k)) - wt (sharesOf x.disc (prices x.lines)) k := by
    funext k
    unfold delta wt
    omega
  rw [e, sumTo_sub, sumTo_add, sumTo_add, e1, e2, e3, all_sum, h.sum]
  unfold paid
  omega
theorem ordU_least {x : Ord} (h : OrdOk x) (i : Nat) : ∀ u ∈ ordU i x, 0 ≤ u.share := by
  intro u hu
  have hm : (prices x.lines).sum ≤ 1125899906842624 := by rw [h.sum]; have := h.most; omega
  have h1 : u.share ∈ (ordU i x).map Unt.share := List.mem_map_of_mem hu
  rw [ordU_shares, List.mem_map] at h1
  obtain ⟨k, hk, e⟩ := h1
  have hk' := List.mem_range.1 hk
  have a1 := shares_upto h.right (okW_of h.disc.1 h.disc.2.1) hm (by rw [h.sum]; exact h.disc.2.2) hk'
  have a2 := (told6 h.right (okW_of h.tax.1 h.tax.2) hm).bounds k hk'
  have a3 := (told6 h.right (okW_of h.ship.1 h.ship.2) hm).bounds k hk'
  rw [← e]
  unfold delta
  unfold wt at *
  omega
theorem ordsU_sum (os : List Ord) (i : Nat) (hi : i < os.length) : ∀ n, n ≤ os.length → (∀ x ∈ os, OrdOk x) → sumI (ordsU os n) i = if i < n then paid os[i] else 0
  | 0, _, _ => rfl
  | n + 1, hn, h => by
    rw [ordsU, sumI_append, ordsU_sum os i hi n (by omega) h]
    have hg : os.getD n ⟨0, [], 0, 0, 0⟩ = os[n] := by simp [List.getD, show n < os.length by omega]
    rw [hg]
    by_cases e : i = n
    · subst e
      rw [if_neg (by omega), if_pos (by omega), ordU_sum (h _ (List.getElem_mem _))]
      omega
    · have h0 : sumI (ordU n os[n]) i = 0 := sumI_other _ _ fun u hu => by rw [ordU_ord n _ u hu]; omega
      rw [h0]
      by_cases h1 : i < n
      · rw [if_pos h1, if_pos (by omega)]; omega
      · rw [if_neg h1, if_neg (by omega)]; omega
theorem ordsU_least (os : List Ord) (h : ∀ x ∈ os, OrdOk x) : ∀ n, n ≤ os.length → ∀ u ∈ ordsU os n, 0 ≤ u.share
  | 0, _, u, hu => by simp [ordsU] at hu
  | n + 1, hn, u, hu => by
    rw [ordsU, List.mem_append] at hu
    rcases hu with hu | hu
    · exact ordsU_least os h n (by omega) u hu
    · have hg : os.getD n ⟨0, [], 0, 0, 0⟩ = os[n] := by simp [List.getD, show n < os.length by omega]
      rw [hg] at hu
      exact ordU_least (h _ (List.getElem_mem _)) n u hu
theorem supsU_mem {ss : List Sup} {u : Unt} (h : u ∈ supsU ss) : ∃ s ∈ ss, u = ⟨-1, s.sku, 0, s.price⟩ := by
  unfold supsU at h
  rw [List.mem_flatten] at h
  obtain ⟨l, hl, hul⟩ := h
  rw [List.mem_map] at hl
  obtain ⟨s, hs, rfl⟩ := hl
  unfold supU at hul
  rw [List.mem_replicate] at hul
  exact ⟨s, hs, hul.2⟩
theorem counts_one {cats : Nat} : ∀ {os : List Ord} {x : Ord}, os.all (ordB cats) = true → x ∈ os → counts x.lines ≤ countsO os
  | y :: os, x, h, hx => by
    rw [List.all_cons, Bool.and_eq_true] at h
    have hpos : ∀ z : Ord, ordB cats z = true → 0 ≤ counts z.lines := fun z hz => by
      unfold ordB at hz
      simp only [Bool.and_eq_true] at hz
      exact (total_bounds hz.1.2).2.2.1
    have hall : ∀ (os : List Ord), os.all (ordB cats) = true → 0 ≤ countsO os := fun os ho => by
      induction os with
      | nil => exact Int.le_refl _
      | cons z os ih =>
        rw [List.all_cons, Bool.and_eq_true] at ho
        have := hpos z ho.1
        have := ih ho.2
        simp only [countsO]
        omega
    have h1 := hpos y h.1
    have h2 := hall os h.2
    simp only [countsO]
    rcases List.mem_cons.1 hx with rfl | hx
    · omega
    · have := counts_one h.2 hx
      omega
theorem countsS_least {ss : List Sup} (h : ss.all supB = true) : 0 ≤ countsS ss := by
  induction ss with
  | nil => exact Int.le_refl _
  | cons s ss ih =>
    rw [List.all_cons, Bool.and_eq_true] at h
    have := (sup_ok h.1).count
    have := ih h.2
    simp only [countsS]
    omega
structure CfgOk (C : Cfg) : Prop where
  o : ∀ x ∈ C.orders, OrdOk x
  s : ∀ x ∈ C.sups, SupOk x
theorem cfg_ok {C : Cfg} (h : rightC C = true) : CfgOk C := by
  unfold rightC at h
  simp only [Bool.and_eq_true, decide_eq_true_eq] at h
  have hs := h.1.1.2
  have h2 := countsS_least hs
  refine ⟨fun x hx => ?_, fun x hx => sup_ok (List.all_eq_true.1 hs x hx)⟩
  have h1 := counts_one h.1.1.1.2 hx
  exact ord_ok (List.all_eq_true.1 h.1.1.1.2 x hx) (by omega)
/-- All shares of an order's units come to what was paid for it. -/
theorem units_sum {C : Cfg} (h : rightC C = true) (i : Nat) (hi : i < C.orders.length) : sumI (unitsC C) i = paid C.orders[i] := by
  have hk := cfg_ok h
  unfold unitsC
  rw [sumI_append, ordsU_sum C.orders i hi _ (Nat.le_refl _) hk.o, if_pos hi]
  have h0 : sumI (supsU C.sups) i = 0 := sumI_other _ _ fun u hu => by
    obtain ⟨s, _, rfl⟩ := supsU_mem hu
    show (-1 : Int) ≠ (i : Int)
    omega
  rw [h0]
  omega
theorem units_least {C : Cfg} (h : rightC C = true) : ∀ u ∈ unitsC C, 0 ≤ u.share := by
  have hk := cfg_ok h
  intro u hu
  unfold unitsC at hu
  rw [List.mem_append] at hu
  rcases hu with hu | hu
  · exact ordsU_least C.orders hk.o _ (Nat.le_refl _) u hu
  · obtain ⟨s, hs, rfl⟩ := supsU_mem hu
    exact (hk.s s hs).price.1
/-- Some of an order's shares are at least nought, and no more than was paid. -/
theorem units_part {C : Cfg} (h : rightC C = true) (i : Nat) (hi : i < C.orders.length) (k : Nat) : 0 ≤ sumI ((unitsC C).take k) i ∧ sumI ((unitsC C).take k) i ≤ paid C.orders[i] := by
  have hl := units_least h
  have e := units_sum h i hi
  rw [← List.take_append_drop k (unitsC C), sumI_append] at e
  have h1 := sumI_nonneg ((unitsC C).take k) i (fun u hu => hl u (List.mem_of_mem_take hu))
  have h2 := sumI_nonneg ((unitsC C).drop k) i (fun u hu => hl u (List.mem_of_mem_drop hu))
  omega
theorem paid_most {x : Ord} (h : OrdOk x) : 0 ≤ paid x ∧ paid x ≤ 431644213248 := by
  have h1 := h.disc
  have h2 := h.most
  have h3 := h.tax
  have h4 := h.ship
  unfold paid
  omega
end Go.Proofs.YtbiompjhenkieaaGreat

namespace Go.Proofs.YtbiompjhenkieaaGreat
open Go.RowKit
set_option maxRecDepth 100000

theorem make_rows {P : Program} (W : World) (t e : TypeId) (x : Array Value) (z : Value) (sz bytes n : Nat) (ht : P.underlying t = some (.slice e)) (hi : (P.info? e).map (fun i => (i.zero, i.size, i.bytes)) = some (some z, sz, bytes)) (hz : z.cells.size = sz) (hs : 0 < sz) (hb : n * bytes ≤ 140737488355328) (hn : n ≤ 1000000) :
    (Instr.makeSlice t (.int .i64 (n : Int)) (.int .i64 (n : Int))).run P W = .ok (.slice (some ⟨W.heap.size, 0, none⟩) n n) (W.alloc (.cells (reps x.toList z.cells.toList 0 n).toArray e)) := by
  obtain ⟨i, h1, h2, h3, h4⟩ := info_parts hi
  have hb' : (bytes : Int) * (n : Int) ≤ 281474976710656 := by rw [Int.mul_comm]; omega
  have := run_make (P := P) W t e i z ht h1 h2 .i64 .i64 (n : Int) (n : Int) (by omega) (Int.le_refl _) (by rw [h4]; exact hb') (by omega)
  rw [Int.toNat_natCast, h3, ← hz, madeCells_reps x z.cells (by omega)] at this
  exact this
theorem add_zero_addr (S j : Nat) : (⟨S, 0, none⟩ : Addr).add j = ⟨S, j, none⟩ := by unfold Addr.add; split <;> simp_all
theorem row_cell {W : World} {S j : Nat} {xs : List Value} {t : TypeId} {v : Value} (h : W.heap[S]? = some (.cells xs.toArray t (0, 0))) (hv : xs[j]? = some v) : W.cell? ⟨S, j, none⟩ = some v := by
  unfold World.cell?
  rw [h]
  simpa using hv
/-- A row of n times the cells x. -/
def RepOf (x : List Value) (n : Nat) (w : World) (e : Ending) (w' : World) : Prop :=
  ∃ S : Nat, e = .returned (.slice (some ⟨S, 0, none⟩) n n) ∧ w.heap.size ≤ S ∧ S < w'.heap.size ∧ Below w.heap.size w w' ∧ ∀ j v, (List.replicate n x).flatten[j]? = some v → w'.cell? ⟨S, j, none⟩ = some v

set_option maxHeartbeats 2000000 in
theorem repeat_i64 (b c N : Nat) (v : Int) (w : World) (hN : 1 ≤ N) (hN1 : N ≤ 200) (hb : b < w.heap.size) (hx : ∀ j y, (#[.int .i64 v] : Array Value).toList[j]? = some y → w.cell? ⟨b, j, none⟩ = some y) :
    Calls Tryz.prog 95 #[.slice (some ⟨b, 0, none⟩) 1 c, .int .i64 N] w fun e w' => RepOf (#[.int .i64 v] : Array Value).toList N w e w' := by
  have hmk := fun W => make_rows (P := Tryz.prog) W 97 2 #[.int .i64 v] (.int .i64 0) 1 8 N Tryz.underlying97 (by kernel_rfl) rfl (by decide) (by omega) (by omega)
  have n0 : ¬ (N : Int) < 0 := by omega
  obtain ⟨x, hxe⟩ : ∃ x, x = (#[.int .i64 v] : Array Value).toList := ⟨_, rfl⟩
  obtain ⟨z, hze⟩ : ∃ z, z = ((.int .i64 0) : Value).cells.toList := ⟨_, rfl⟩
  rw [← hxe, ← hze] at hmk
  rw [← hxe] at hx ⊢
  have hxl : x.length = 1 := by rw [hxe]; rfl
  have hzl : z.length = 1 := by rw [hze]; rfl
  have hx1 : ∀ v ∈ x, v.oneCell' = true := by rw [hxe]; intro v hv; simp at hv; subst hv; rfl
  have HX := Lib.hid hx
  have HXL := Lib.hid hxl
  have HZL := Lib.hid hzl
  have HX1 := Lib.hid hx1
  clear hx hxe hze hxl hzl hx1
  go_enter Tryz.func95, Tryz.ntmps95
  go_wp2_with fail
  refine (bits_mul1 N (by omega) w).mono ?_
  rintro e w1 ⟨rfl, rfl⟩
  have hsrc : ∀ j v, x[j]? = some v → (w.alloc (.cells (reps x z 0 N).toArray 2)).cell? ((⟨b, 0, none⟩ : Addr).add j) = some v := fun j v hj => by
    rw [add_zero_addr]
    have := ((Below.refl w.heap.size w).alloc (Nat.le_refl _) (.cells (reps x z 0 N).toArray 2)).cell (p := ⟨b, j, none⟩) hb
    exact this.trans (HX.out j v hj)
  have HSRC : Aside _ := hsrc
  clear hsrc
  go_wp2_with (with_reducible refine wpList_copy_rows rfl (.tmp 31) (.tmp 32) 97 97 rfl 2 1 Tryz.underlying97 (by kernel_rfl) N N 1 c w.heap.size 0 ⟨b, 0, none⟩ rfl rfl (reps x z 0 N) 2 (heap_alloc_new w _) 1 (by simp [Nat.min_def]; omega) x (by rw [HXL.out]) HSRC.out (by rw [reps_length HXL.out HZL.out (Nat.zero_le _), HXL.out]; omega) HX1.out w.heap.size w ((Below.refl _ _).alloc (Nat.le_refl _) _) (Nat.le_refl _) ?_; intro w2 HG2 hB2)
  have e1 : splice (reps x z 0 N) 0 x = reps x z 1 N := by
    have := reps_splice (x := x) (z := z) (sz := 1) (k := 0) (m := 1) (N := N) HXL.out HZL.out (by omega)
    simpa using this
  have HG3 : Hid (w2.heap[w.heap.size]? = some (.cells (reps x z 1 N).toArray 2 (0, 0))) := by
    have := HG2.out
    rw [e1] at this
    exact this
  obtain ⟨S, hS⟩ : ∃ q, q = w.heap.size := ⟨_, rfl⟩
  rw [← hS] at HG3 ⊢
  have HS := Lib.hid hS
  have B2 : Aside (Below w.heap.size w w2) := hB2
  clear HG2 HSRC e1 hB2 hmk hS
  go_loopw [8] (fun vn wr => ∃ (k : Nat), vn = .int .i64 k ∧ 1 ≤ k ∧ k ≤ N ∧ Hid (wr.heap[S]? = some (.cells (reps x z k N).toArray 2 (0, 0))) ∧ Aside (Below w.heap.size w wr)) (fun vn _ => N - (intOf vn).toNat)
  case atStart => exact ⟨1, rfl, Nat.le_refl _, hN, HG3.out, B2.out⟩
  case round =>
    clear HG3 B2
    obtain ⟨k, rfl, hk1, hkN, HG, BK⟩ := hrel
    by_cases hlt : k < N
    · have hlt' : (k : Int) < (N : Int) := by omega
      have hne : ¬ N = k := by omega
      have hne2 : ¬ N ≤ k := by omega
      obtain ⟨m, hm⟩ : ∃ m, m = Nat.min k (N - k) := ⟨_, rfl⟩
      have hm1 : k + m ≤ N := by have h0 : m ≤ N - k := by { rw [hm]; exact Nat.min_le_right _ _ }; omega
      have hm2 : m ≤ k := by rw [hm]; exact Nat.min_le_left _ _
      have hm4 : m ≤ N - k := by rw [hm]; exact Nat.min_le_right _ _
      have hm3 : 0 < m := by rw [hm]; exact Nat.lt_min.2 ⟨by omega, by omega⟩
      have hkN2 : (k : Int) ≤ (N : Int) := by omega
      have hsum : IntKind.i64.wrap ((k : Int) + (m : Int)) = ((k + m : Nat) : Int) := by rw [IntKind.wrap_i64]; omega
      have HM := Lib.hid hm
      have HSUM := Lib.hid hsum
      have HSR : Aside (∀ j v, (List.replicate m x).flatten[j]? = some v → ∀ W : World, W.heap[S]? = some (.cells (reps x z k N).toArray 2 (0, 0)) → W.cell? ((⟨S, 0, none⟩ : Addr).add j) = some v) := fun j v hj W hW => by
        rw [add_zero_addr]
        exact row_cell hW (reps_prefix hm2 hj)
      clear hm hsum
      go_wp2_with fail
      go_region_law ((refine step_copy_rows rfl (.tmp 41) (.tmp 44) 97 97 rfl 2 1 Tryz.underlying97 (by kernel_rfl) (N - k) (N - k) k N S (k) ⟨S, 0, none⟩ (by kernel_rfl) (by kernel_rfl) (reps x z k N) 2 HG.out m HM.out (List.replicate m x).flatten (by rw [rep_length, HXL.out]) (fun j v hj => HSR.out j v hj _ HG.out) (by rw [reps_length HXL.out HZL.out hkN, rep_length, HXL.out]; omega) (rep_one HX1.out m) w.heap.size w BK.out.drew (by rw [HS.out]; exact Nat.le_refl _) ?_; intro w4 hg4 hb4))
      rw [HSUM.out]
      have HG5 : Hid (w4.heap[S]? = some (.cells (reps x z (k + m) N).toArray 2 (0, 0))) := by
        have := hg4.out
        have e9 := reps_splice (k := k) HXL.out HZL.out hm1
        rw [Nat.mul_one] at e9
        rw [e9] at this
        exact this
      have B5 : Aside (Below w.heap.size w w4) := hb4
      clear hg4 hb4 HSR BK HG
      simp only [List.getElem_toArray, List.getElem_cons_succ, List.getElem_cons_zero, Act.put, List.setIfInBounds_toArray, List.set_cons_succ, List.set_cons_zero]
      go_wp2
      go_roundw
      case rel => exact ⟨k + m, rfl, by omega, hm1, HG5.out, B5.out⟩
      case measure => simp [intOf]; omega
    · obtain rfl : k = N := by omega
      go_wp2
      go_ret
      refine ⟨S, rfl, by rw [HS.out]; exact Nat.le_refl _, (Array.getElem?_eq_some_iff.1 HG.out).1, BK.out, fun j v hj => row_cell HG.out (reps_prefix (Nat.le_refl _) hj)⟩

set_option maxHeartbeats 2000000 in
theorem repeat_unit (b c N : Nat) (u : Unt) (w : World) (hN : 1 ≤ N) (hN1 : N ≤ 200) (hb : b < w.heap.size) (hx : ∀ j y, (u.arr : Array Value).toList[j]? = some y → w.cell? ⟨b, j, none⟩ = some y) :
    Calls Tryz.prog 31 #[.slice (some ⟨b, 0, none⟩) 1 c, .int .i64 N] w fun e w' => RepOf (u.arr : Array Value).toList N w e w' := by
  have hmk := fun W => make_rows (P := Tryz.prog) W 38 75 u.arr (.agg #[.int .i64 0, .int .i64 0, .int .i64 0, .int .i64 0]) 4 32 N Tryz.underlying38 (by kernel_rfl) rfl (by decide) (by omega) (by omega)
  have n0 : ¬ (N : Int) < 0 := by omega
  obtain ⟨x, hxe⟩ : ∃ x, x = (u.arr : Array Value).toList := ⟨_, rfl⟩
  obtain ⟨z, hze⟩ : ∃ z, z = ((.agg #[.int .i64 0, .int .i64 0, .int .i64 0, .int .i64 0]) : Value).cells.toList := ⟨_, rfl⟩
  rw [← hxe, ← hze] at hmk
  rw [← hxe] at hx ⊢
  have hxl : x.length = 4 := by rw [hxe]; rfl
  have hzl : z.length = 4 := by rw [hze]; rfl
  have hx1 : ∀ v ∈ x, v.oneCell' = true := by rw [hxe]; exact unit_one u
  have HX := Lib.hid hx
  have HXL := Lib.hid hxl
  have HZL := Lib.hid hzl
  have HX1 := Lib.hid hx1
  clear hx hxe hze hxl hzl hx1
  go_enter Tryz.func31, Tryz.ntmps31
  go_wp2_with fail
  refine (bits_mul1 N (by omega) w).mono ?_
  rintro e w1 ⟨rfl, rfl⟩
  have hsrc : ∀ j v, x[j]? = some v → (w.alloc (.cells (reps x z 0 N).toArray 75)).cell? ((⟨b, 0, none⟩ : Addr).add j) = some v := fun j v hj => by
    rw [add_zero_addr]
    have := ((Below.refl w.heap.size w).alloc (Nat.le_refl _) (.cells (reps x z 0 N).toArray 75)).cell (p := ⟨b, j, none⟩) hb
    exact this.trans (HX.out j v hj)
  have HSRC : Aside _ := hsrc
  clear hsrc
  go_wp2_with (with_reducible refine wpList_copy_rows rfl (.tmp 31) (.tmp 32) 38 38 rfl 75 4 Tryz.underlying38 (by kernel_rfl) N N 1 c w.heap.size 0 ⟨b, 0, none⟩ rfl rfl (reps x z 0 N) 75 (heap_alloc_new w _) 1 (by simp [Nat.min_def]; omega) x (by rw [HXL.out]) HSRC.out (by rw [reps_length HXL.out HZL.out (Nat.zero_le _), HXL.out]; omega) HX1.out w.heap.size w ((Below.refl _ _).alloc (Nat.le_refl _) _) (Nat.le_refl _) ?_; intro w2 HG2 hB2)
  have e1 : splice (reps x z 0 N) 0 x = reps x z 1 N := by
    have := reps_splice (x := x) (z := z) (sz := 4) (k := 0) (m := 1) (N := N) HXL.out HZL.out (by omega)
    simpa using this
  have HG3 : Hid (w2.heap[w.heap.size]? = some (.cells (reps x z 1 N).toArray 75 (0, 0))) := by
    have := HG2.out
    rw [e1] at this
    exact this
  obtain ⟨S, hS⟩ : ∃ q, q = w.heap.size := ⟨_, rfl⟩
  rw [← hS] at HG3 ⊢
  have HS := Lib.hid hS
  have B2 : Aside (Below w.heap.size w w2) := hB2
  clear HG2 HSRC e1 hB2 hmk hS
  go_loopw [8] (fun vn wr => ∃ (k : Nat), vn = .int .i64 k ∧ 1 ≤ k ∧ k ≤ N ∧ Hid (wr.heap[S]? = some (.cells (reps x z k N).toArray 75 (0, 0))) ∧ Aside (Below w.heap.size w wr)) (fun vn _ => N - (intOf vn).toNat)
  case atStart => exact ⟨1, rfl, Nat.le_refl _, hN, HG3.out, B2.out⟩
  case round =>
    clear HG3 B2
    obtain ⟨k, rfl, hk1, hkN, HG, BK⟩ := hrel
    by_cases hlt : k < N
    · have hlt' : (k : Int) < (N : Int) := by omega
      have hne : ¬ N = k := by omega
      have hne2 : ¬ N ≤ k := by omega
      obtain ⟨m, hm⟩ : ∃ m, m = Nat.min k (N - k) := ⟨_, rfl⟩
      have hm1 : k + m ≤ N := by have h0 : m ≤ N - k := by { rw [hm]; exact Nat.min_le_right _ _ }; omega
      have hm2 : m ≤ k := by rw [hm]; exact Nat.min_le_left _ _
      have hm4 : m ≤ N - k := by rw [hm]; exact Nat.min_le_right _ _
      have hm3 : 0 < m := by rw [hm]; exact Nat.lt_min.2 ⟨by omega, by omega⟩
      have hkN2 : (k : Int) ≤ (N : Int) := by omega
      have hsum : IntKind.i64.wrap ((k : Int) + (m : Int)) = ((k + m : Nat) : Int) := by rw [IntKind.wrap_i64]; omega
      have HM := Lib.hid hm
      have HSUM := Lib.hid hsum
      have HSR : Aside (∀ j v, (List.replicate m x).flatten[j]? = some v → ∀ W : World, W.heap[S]? = some (.cells (reps x z k N).toArray 75 (0, 0)) → W.cell? ((⟨S, 0, none⟩ : Addr).add j) = some v) := fun j v hj W hW => by
        rw [add_zero_addr]
        exact row_cell hW (reps_prefix hm2 hj)
      clear hm hsum
      go_wp2_with fail
      go_region_law ((refine step_copy_rows rfl (.tmp 41) (.tmp 44) 38 38 rfl 75 4 Tryz.underlying38 (by kernel_rfl) (N - k) (N - k) k N S (k * 4) ⟨S, 0, none⟩ (by kernel_rfl) (by kernel_rfl) (reps x z k N) 75 HG.out m HM.out (List.replicate m x).flatten (by rw [rep_length, HXL.out]) (fun j v hj => HSR.out j v hj _ HG.out) (by rw [reps_length HXL.out HZL.out hkN, rep_length, HXL.out]; omega) (rep_one HX1.out m) w.heap.size w BK.out.drew (by rw [HS.out]; exact Nat.le_refl _) ?_; intro w4 hg4 hb4))
      rw [HSUM.out]
      have HG5 : Hid (w4.heap[S]? = some (.cells (reps x z (k + m) N).toArray 75 (0, 0))) := by
        have := hg4.out
        have e9 := reps_splice (k := k) HXL.out HZL.out hm1
        skip
        rw [e9] at this
        exact this
      have B5 : Aside (Below w.heap.size w w4) := hb4
      clear hg4 hb4 HSR BK HG
      simp only [List.getElem_toArray, List.getElem_cons_succ, List.getElem_cons_zero, Act.put, List.setIfInBounds_toArray, List.set_cons_succ, List.set_cons_zero]
      go_wp2
      go_roundw
      case rel => exact ⟨k + m, rfl, by omega, hm1, HG5.out, B5.out⟩
      case measure => simp [intOf]; omega
    · obtain rfl : k = N := by omega
      go_wp2
      go_ret
      refine ⟨S, rfl, by rw [HS.out]; exact Nat.le_refl _, (Array.getElem?_eq_some_iff.1 HG.out).1, BK.out, fun j v hj => row_cell HG.out (reps_prefix (Nat.le_refl _) hj)⟩
end Go.Proofs.YtbiompjhenkieaaGreat

namespace Go.Proofs.YtbiompjhenkieaaGreat
open Go.RowKit
set_option maxRecDepth 100000

def ivals (xs : List Int) : List Value := xs.map fun p => .int .i64 p
theorem ivals_append (a b : List Int) : ivals (a ++ b) = ivals a ++ ivals b := List.map_append
theorem ivals_length (a : List Int) : (ivals a).length = a.length := List.length_map ..
theorem ints_of_row {w : World} {base n : Nat} {e : TypeId} {a : Option Addr} {c : Nat} {xs : List Int} (h : w.ownsRow base e 1 (.slice a n c) n (ivals xs)) : xs.length = n ∧ n ≤ c ∧ c ≤ maxLen ∧ IsInts w a xs := by
  have hl := h.1
  rw [ivals_length] at hl
  have hn : xs.length = n := by omega
  rcases h.2 with ⟨hv, x⟩ | ⟨g, cap, cur, hv, hgb, hgc, hle, hcm, -, -⟩
  · injection hv with e1 e2 e3
    subst e1 e2 e3
    exact ⟨hn, Nat.le_refl _, by decide, .inl (List.length_eq_zero_iff.1 hn)⟩
  · injection hv with e1 e2 e3
    subst e1 e3
    have hgl : g < w.heap.size := (Array.getElem?_eq_some_iff.1 hgc).1
    refine ⟨hn, hle, hcm, .inr ⟨g, 0, rfl, hgl, fun i hi => ?_⟩⟩
    rw [Nat.zero_add, World.ownsRow.cellAt h i (by omega)]
    simp [ivals, hi]
theorem prices_most : ∀ {ls : List Ln}, (∀ l ∈ ls, 1 ≤ l.count ∧ l.count ≤ 50) → (prices ls).length ≤ 50 * ls.length
  | [], _ => by simp [prices]
  | l :: ls, h => by
    have h1 := h l (List.mem_cons_self ..)
    have ih := prices_most (ls := ls) (fun x hx => h x (List.mem_cons_of_mem _ hx))
    simp only [prices, List.map_cons, List.flatten_cons, List.length_append, List.length_replicate, List.length_cons] at ih ⊢
    omega
theorem own_rest {w w' : World} {base : Nat} {e : TypeId} {size : Nat} {v : Value} {n : Nat} {xs : List Value} (h : w.ownsRow base e size v n xs) (hb : Below w.heap.size w w') : w'.ownsRow base e size v n xs :=
  ownsRow_upd (S := fun _ => False) h (Upd.below hb) (fun _ _ x => x)

set_option maxHeartbeats 4000000 in
theorem ord_prices (day disc tax ship : Int) (a : Option Addr) (ls : List Ln) (n c : Nat) (w : World) (hl : ls.length = n) (hn : n ≤ 8) (hp : LnsAt w a ls) (hk : ∀ l ∈ ls, 1 ≤ l.count ∧ l.count ≤ 50) :
    Calls Tryz.prog 73 #[.agg (ordCells day a n c disc tax ship)] w fun e w' => (∃ a' m c', e = .returned (.slice a' m c') ∧ (prices ls).length = m ∧ m ≤ c' ∧ c' ≤ maxLen ∧ IsInts w' a' (prices ls)) ∧ Below w.heap.size w w' := by
  have HN := Lib.hid hl
  have HK : Hid (∀ l ∈ ls, 1 ≤ l.count ∧ l.count ≤ 50) := hk
  have hb0 : Below w.heap.size w (w.alloc (.cells (ordCells day a n c disc tax ship) 45)) := (Below.refl _ _).alloc (Nat.le_refl _) _
  have hlns := hp.below hb0
  have HB0 : Aside _ := hb0
  have hbx := arr_new w (ordCells day a n c disc tax ship) 45
  obtain ⟨y0, y1, y2, y3, y4⟩ := ordAt_all hbx
  simp only [Nat.zero_add] at y1
  clear hp hb0 hbx y0 y2 y3 y4 hl hk
  go_enter Tryz.func73, Tryz.ntmps73
  go_upto_region 1 with (fail)
  show Code.wp _ _ _ _ (w.alloc (.cells (ordCells day a n c disc tax ship) 45))
  generalize w.alloc (.cells (ordCells day a n c disc tax ship) 45) = w0 at *
  go_wp2
  clear y1
  go_loopw [3, 9] (fun v i wr => ∃ (k m : Nat) (a' : Option Addr) (c' : Nat), k ≤ n ∧ i = .int .i64 k ∧ v = .slice a' m c' ∧ m ≤ 50 * k ∧ Aside (Below w.heap.size w wr) ∧ Aside (Below w0.heap.size w0 wr) ∧ Aside (wr.ownsRow w0.heap.size 2 1 (.slice a' m c') m (ivals (prices (ls.take k))))) (fun _ i _ => n - (intOf i).toNat)
  case atStart => exact ⟨0, 0, none, 0, Nat.zero_le _, rfl, rfl, Nat.le_refl _, HB0.out, Below.refl _ _, World.ownsRow_nil _ _ _ _⟩
  case round =>
    obtain ⟨k, m, a', c', hk, rfl, rfl, hm, HB, HB2, HO⟩ := hrel
    by_cases hlt2 : k < n
    · have hkn : (k : Int) < (n : Int) := by omega
      rcases hlns with rfl | ⟨b, off, rfl, hb, hc⟩
      · have := HN.out; simp at this; omega
      have hlk : k < ls.length := by rw [HN.out]; exact hlt2
      have hpk := (hc k hlk).below HB2.out hb
      obtain ⟨z0, z1, z2, z3⟩ := LnAt.all hpk
      have hcnt := HK.out _ (List.getElem_mem hlk)
      have HT := Lib.hid (prices_take ls k hlk)
      clear hpk hc
      generalize ls[k] = l at *
      have HB1 : Aside (Below w.heap.size w (wr.alloc (.cells l.arr 54))) := HB.out.alloc HB.out.size _
      have HB3 : Aside (Below w0.heap.size w0 (wr.alloc (.cells l.arr 54))) := HB2.out.alloc HB2.out.size _
      have HO1 : Aside _ := ownsRow_alloc HO.out (.cells l.arr 54)
      have HA1 : Aside (ArrAt (wr.alloc (.cells l.arr 54)) wr.heap.size 0 l.arr) := arr_new wr l.arr _
      go_upto_region 5 with (fail)
      show Code.wp _ _ _ _ (wr.alloc (.cells l.arr 54))
      clear z0 z1 z2 z3 HB HB2 HO
      generalize wr.alloc (.cells l.arr 54) = w1 at *
      generalize wr.heap.size = g at *
      have hb4 : Below w1.heap.size w1 (w1.alloc (.cells #[.int .i64 l.price] 2)) := (Below.refl _ _).alloc (Nat.le_refl _) _
      have HB4 : Aside _ := hb4
      obtain ⟨y0, y1, y2, y3⟩ := LnAt.all HA1.out
      obtain ⟨x0, x1, x2, x3⟩ := LnAt.all (HA1.out.grown hb4)
      simp only [Nat.zero_add] at y1 y2 y3 x1 x2 x3
      obtain ⟨N, hN⟩ : ∃ N : Nat, l.count = N := ⟨l.count.toNat, by omega⟩
      have HTN : Hid (prices (ls.take (k + 1)) = prices (ls.take k) ++ List.replicate N l.price) := by
        have := HT.out
        rw [hN, Int.toNat_natCast] at this
        exact this
      rw [hN] at y3 x3 hcnt
      have HR : Aside _ := repeat_i64 w1.heap.size 1 N l.price (w1.alloc (.cells #[.int .i64 l.price] 2)) (by omega) (by omega) (by simp) (fun j y h => by
        have := (arr_new w1 #[Value.int .i64 l.price] 2).cells j y (by simpa using h)
        rwa [Nat.zero_add] at this)
      generalize l.price = pr at *
      clear y0 y1 y3 x0 x1 x2 hb4 HT HA1
      go_wp2_with fail
      refine (Calls.mono HR.out ?_)
      rintro e w4 ⟨S, rfl, hS1, hS2, b4, hc4⟩
      have hb5 : Below w1.heap.size w1 w4 := HB4.out.trans (b4.mono HB4.out.size)
      have HB5 : Aside (Below w.heap.size w w4) := HB1.out.trans (hb5.mono HB1.out.size)
      have HB6 : Aside (Below w0.heap.size w0 w4) := HB3.out.trans (hb5.mono HB3.out.size)
      have HO2 : Aside _ := own_rest HO1.out hb5
      have HC4 : Aside (∀ j v, (List.replicate N (#[Value.int .i64 pr] : Array Value).toList).flatten[j]? = some v → w4.cell? ⟨S, j, none⟩ = some v) := hc4
      clear b4 hc4 hb5 HR HB1 HB3 HB4 HO1 y2 x3
      go_wp2_with (at_builtin; refine wpList_append_full rfl (.tmp 13) (.tmp 19) 97 rfl w0.heap.size 2 (.int .i64 0) 1 8 Tryz.underlying97 (by kernel_rfl) rfl (by decide) (.slice a' m c') m (ivals (prices (ls.take k))) rfl HO2.out ⟨S, 0, none⟩ N N (List.replicate N (#[Value.int .i64 pr] : Array Value).toList).flatten rfl (by simp) (fun j u hj => by rw [add_zero_addr]; exact HC4.out j u hj) (rep_one (by intro v hv; simp at hv; subst hv; rfl) N) (by unfold maxLen; omega) (by omega) HB6.out.size ?_; intro a6 c6 w6 h61 h62 h63)
      have HO6 : Aside (w6.ownsRow w0.heap.size 2 1 (.slice a6 (m + N) c6) (m + N) (ivals (prices (ls.take (k + 1))))) := by
        have e : ivals (prices (ls.take (k + 1))) = ivals (prices (ls.take k)) ++ (List.replicate N (#[Value.int .i64 pr] : Array Value).toList).flatten := by
          rw [HTN.out, ivals_append]
          simp [ivals]
        rw [e]
        exact h61
      have HB7 : Aside (Below w.heap.size w w6) := HB5.out.grown h62 HB5.out.size (fun q hq => Nat.le_trans HB0.out.size (own_base HO2.out hq))
      have HB8 : Aside (Below w0.heap.size w0 w6) := HB6.out.grown h62 HB6.out.size (fun q hq => own_base HO2.out hq)
      clear h61 h62 h63 HO2 HC4 HB5 HB6
      obtain ⟨M, hM⟩ : ∃ M, M = m + N := ⟨_, rfl⟩
      have hM2 : M ≤ 50 * (k + 1) := by omega
      rw [← hM] at HO6 ⊢
      clear hM
      go_wp2
      go_roundw
      case rel => exact ⟨k + 1, M, a6, c6, by omega, by go_num, rfl, hM2, HB7.out, HB8.out, HO6.out⟩
      case measure => simp [intOf]; omega
    · obtain rfl : k = n := by omega
      have HR := Lib.hid (ints_of_row HO.out)
      have HTK : Hid (ls.take k = ls) := List.take_of_length_le (by rw [HN.out]; exact Nat.le_refl _)
      go_wp2
      go_ret
      obtain ⟨r1, r2, r3, r4⟩ := HR.out
      rw [HTK.out] at r1 r4
      exact ⟨⟨a', m, c', rfl, r1, r2, r3, r4⟩, HB.out⟩
end Go.Proofs.YtbiompjhenkieaaGreat
