/-
  Stable sorting, plain: rows exchanged, a rotation, a merge by rotations, blocks that double. No program, no conditions but those of each theorem.
-/
import Derived.Sort.LotA
namespace Go.Proofs.Ytadaaoljpeojcaa
open Go.Sort
variable {α : Type} [Inhabited α]

/-- The rows [a, a + n) and [b, b + n) exchanged. -/
structure Swapped (a b n : Nat) (d d' : Array α) : Prop where
  size : d'.size = d.size
  left : ∀ k l, a ≤ k → k < a + n → l + a = k + b → d'[k]! = d[l]!
  right : ∀ k l, b ≤ k → k < b + n → l + b = k + a → d'[k]! = d[l]!
  other : ∀ k, (k < a ∨ a + n ≤ k) → (k < b ∨ b + n ≤ k) → d'[k]! = d[k]!

theorem Swapped.zero (a b : Nat) (d : Array α) : Swapped a b 0 d d := ⟨rfl, fun _ _ _ _ _ => by omega, fun _ _ _ _ _ => by omega, fun _ _ _ => rfl⟩
theorem Swapped.more {a b n : Nat} {d dk : Array α} (h : Swapped a b n d dk) (hab : a + n < b) (hb : b + n < d.size) : Swapped a b (n + 1) d (swp dk (a + n) (b + n)) := by
  have hs := h.size
  have g := swp_get dk (i := a + n) (j := b + n) (by omega) (by omega)
  refine ⟨by rw [swp_size]; exact hs, fun k l h1 h2 h3 => ?_, fun k l h1 h2 h3 => ?_, fun k h1 h2 => ?_⟩
  · rw [g, if_neg (by omega)]
    by_cases e : k = a + n
    · rw [if_pos e, h.other _ (by omega) (by omega)]
      congr 1; omega
    · rw [if_neg e]; exact h.left k l h1 (by omega) h3
  · rw [g]
    by_cases e : k = b + n
    · rw [if_pos e, h.other _ (by omega) (by omega)]
      congr 1; omega
    · rw [if_neg e, if_neg (by omega)]; exact h.right k l h1 (by omega) h3
  · rw [g, if_neg (by omega), if_neg (by omega)]
    exact h.other k (by omega) (by omega)

/-- The rows [a, m) and [m, b) change places. -/
structure Rot (a m b : Nat) (d d' : Array α) : Prop where
  size : d'.size = d.size
  left : ∀ k l, a ≤ k → k + m < a + b → l + a = k + m → d'[k]! = d[l]!
  right : ∀ k l, a + b ≤ k + m → k < b → l + b = k + m → d'[k]! = d[l]!
  other : ∀ k, k < a ∨ b ≤ k → d'[k]! = d[k]!

theorem Rot.noLeft (m b : Nat) (d : Array α) : Rot m m b d d :=
  ⟨rfl, fun k l _ _ _ => by congr 1; omega, fun _ _ _ _ _ => by omega, fun _ _ => rfl⟩
theorem Rot.noRight (a m : Nat) (d : Array α) : Rot a m m d d :=
  ⟨rfl, fun _ _ _ _ _ => by omega, fun k l _ _ _ => by congr 1; omega, fun _ _ => rfl⟩
theorem Rot.of_swapped {a m b : Nat} {d d' : Array α} (h : Swapped a m (b - m) d d') (h1 : m - a = b - m) (ha : a ≤ m) (hb : m ≤ b) : Rot a m b d d' :=
  ⟨h.size, fun k l _ _ _ => h.left k l (by omega) (by omega) (by omega), fun k l _ _ _ => h.right k l (by omega) (by omega) (by omega), fun k _ => h.other k (by omega) (by omega)⟩
/-- The left row is the longer one: its first part goes to the end. -/
theorem Rot.left_more {s m e j : Nat} {d d2 d' : Array α} (h2 : Swapped s m j d d2) (hr : Rot (s + j) m e d2 d') (hj : m + j = e) (h : s + j ≤ m) : Rot s m e d d' := by
  refine ⟨hr.size.trans h2.size, fun k l _ _ _ => ?_, fun k l _ _ _ => ?_, fun k _ => ?_⟩
  · rw [hr.other k (by omega)]; exact h2.left k l (by omega) (by omega) (by omega)
  · by_cases hk : k < s + j + j
    · rw [hr.left k (k + m - (s + j)) (by omega) (by omega) (by omega)]
      exact h2.right _ l (by omega) (by omega) (by omega)
    · rw [hr.right k (k - j) (by omega) (by omega) (by omega), h2.other _ (by omega) (by omega)]
      congr 1; omega
  · rw [hr.other k (by omega)]; exact h2.other k (by omega) (by omega)
/-- The right row is the longer one: its last part goes to the front. -/
theorem Rot.right_more {s m e i : Nat} {d d2 d' : Array α} (h2 : Swapped s (e - i) i d d2) (hr : Rot s m (e - i) d2 d') (hi : s + i = m) (h : m + i ≤ e) : Rot s m e d d' := by
  refine ⟨hr.size.trans h2.size, fun k l _ _ _ => ?_, fun k l _ _ _ => ?_, fun k _ => ?_⟩
  · by_cases hk : k + m < s + (e - i)
    · rw [hr.left k l (by omega) (by omega) (by omega)]
      exact h2.other _ (by omega) (by omega)
    · rw [hr.right k (k + m - (e - i)) (by omega) (by omega) (by omega)]
      exact h2.left _ l (by omega) (by omega) (by omega)
  · rw [hr.other k (by omega)]; exact h2.right k l (by omega) (by omega) (by omega)
  · rw [hr.other k (by omega)]; exact h2.other k (by omega) (by omega)

theorem Rot.perm {a m b : Nat} {d d' : Array α} (h : Rot a m b d d') (ha : a ≤ m) (hb : m ≤ b) (hs : b ≤ d.size) : PermIn a b d d' := by
  refine ⟨h.size, h.other, ?_⟩
  rw [extract_toList _ a b (by rw [h.size]; exact hs), extract_toList _ a b hs]
  have e0 : List.range' a (b - a) = List.range' a (m - a) ++ List.range' m (b - m) := by
    have := List.range'_append_1 (s := a) (m := m - a) (n := b - m)
    rw [show a + (m - a) = m by omega, show m - a + (b - m) = b - a by omega] at this
    exact this.symm
  have e1 : List.range' a (b - a) = List.range' a (b - m) ++ List.range' (a + (b - m)) (m - a) := by
    have := List.range'_append_1 (s := a) (m := b - m) (n := m - a)
    rw [show b - m + (m - a) = b - a by omega] at this
    exact this.symm
  have f1 : (List.range' a (b - m)).map (fun i => d'[i]!) = (List.range' m (b - m)).map (fun i => d[i]!) := by
    apply List.ext_getElem (by simp)
    intro k h1 _
    simp only [List.length_map, List.length_range'] at h1
    simp only [List.getElem_map, List.getElem_range', Nat.one_mul]
    exact h.left _ _ (by omega) (by omega) (by omega)
  have f2 : (List.range' (a + (b - m)) (m - a)).map (fun i => d'[i]!) = (List.range' a (m - a)).map (fun i => d[i]!) := by
    apply List.ext_getElem (by simp)
    intro k h1 _
    simp only [List.length_map, List.length_range'] at h1
    simp only [List.getElem_map, List.getElem_range', Nat.one_mul]
    exact h.right _ _ (by omega) (by omega) (by omega)
  rw [e1, List.map_append, f1, f2, ← e1, e0, List.map_append]
  exact List.perm_append_comm

/-- One more step of an element's way to the right. -/
theorem Rot.stepRight {a k : Nat} {d dk : Array α} (h : Rot a (a + 1) (k + 1) d dk) (ha : a ≤ k) (hs : k + 1 < d.size) : Rot a (a + 1) (k + 2) d (swp dk k (k + 1)) := by
  have hz := h.size
  have g := swp_get dk (i := k) (j := k + 1) (by omega) (by omega)
  refine ⟨by rw [swp_size]; exact hz, fun p l h1 h2 h3 => ?_, fun p l h1 h2 h3 => ?_, fun p h1 => ?_⟩
  · rw [g, if_neg (by omega)]
    by_cases e : p = k
    · rw [if_pos e, h.other _ (by omega)]; congr 1; omega
    · rw [if_neg e]; exact h.left p l (by omega) (by omega) (by omega)
  · rw [g, if_pos (by omega)]
    exact h.right k l (by omega) (by omega) (by omega)
  · rw [g, if_neg (by omega), if_neg (by omega)]; exact h.other p (by omega)
/-- One more step of an element's way to the left. -/
theorem Rot.stepLeft {k m : Nat} {d dk : Array α} (h : Rot (k + 1) m (m + 1) d dk) (hk : k + 1 ≤ m) (hs : m < d.size) : Rot k m (m + 1) d (swp dk (k + 1) k) := by
  have hz := h.size
  have g := swp_get dk (i := k + 1) (j := k) (by omega) (by omega)
  refine ⟨by rw [swp_size]; exact hz, fun p l h1 h2 h3 => ?_, fun p l h1 h2 h3 => ?_, fun p h1 => ?_⟩
  · rw [g, if_pos (by omega)]
    exact h.left (k + 1) l (by omega) (by omega) (by omega)
  · rw [g, if_neg (by omega)]
    by_cases e : p = k + 1
    · rw [if_pos e, h.other _ (by omega)]; congr 1; omega
    · rw [if_neg e]; exact h.right p l (by omega) (by omega) (by omega)
  · rw [g, if_neg (by omega), if_neg (by omega)]; exact h.other p (by omega)

/-- What 'less' tells of a later one against an earlier one is what the order that parts all tells. -/
structure Two (lt lx : α → α → Bool) (tie : α → α → Prop) : Prop where
  swo : SWO lx
  late : ∀ x y, tie x y → lt y x = lx y x

variable {lt lx : α → α → Bool} {tie : α → α → Prop}

theorem sorted_same {a b : Nat} {d d' : Array α} (h : SortedIn lx a b d) (hd : ∀ i, a ≤ i → i < b → d'[i]! = d[i]!) : SortedIn lx a b d' :=
  fun i j h1 h2 h3 => by rw [hd i h1 (by omega), hd j (by omega) h3]; exact h i j h1 h2 h3
theorem sorted_part {a b a' b' : Nat} {d : Array α} (h : SortedIn lx a b d) (ha : a ≤ a') (hb : b' ≤ b) : SortedIn lx a' b' d := fun i j _ _ _ => h i j (by omega) (by omega) (by omega)
theorem sorted_le (hS : SWO lx) {a b : Nat} {d : Array α} (h : SortedIn lx a b d) {i j : Nat} (hi : a ≤ i) (hij : i ≤ j) (hj : j < b) : lx d[j]! d[i]! = false := by
  by_cases e : i = j
  · subst e; exact hS.irrefl _
  · exact h i j hi (by omega) hj

/-- The first one alone goes to its place behind those that are less. -/
theorem one_right (hS : SWO lx) {a b i : Nat} {d d' : Array α} (h2 : SortedIn lx (a + 1) b d) (hr : Rot a (a + 1) i d d') (hi : a + 1 ≤ i) (hb : i ≤ b)
    (lo : i = a + 1 ∨ lx d[i - 1]! d[a]! = true) (hi' : i = b ∨ lx d[i]! d[a]! = false) : SortedIn lx a b d' := by
  intro p q h1 h3 h4
  by_cases hp : p + 1 < i
  · rw [hr.left p (p + 1) (by omega) (by omega) (by omega)]
    by_cases hq : q + 1 < i
    · rw [hr.left q (q + 1) (by omega) (by omega) (by omega)]; exact h2 _ _ (by omega) (by omega) (by omega)
    · by_cases hq2 : q < i
      · rw [hr.right q a (by omega) (by omega) (by omega)]
        rcases lo with lo | lo
        · omega
        · exact hS.ntrans _ _ _ (hS.asymmA lo) (sorted_le hS h2 (by omega) (by omega) (by omega))
      · rw [hr.other q (by omega)]; exact h2 _ _ (by omega) (by omega) (by omega)
  · by_cases hp2 : p < i
    · rw [hr.right p a (by omega) (by omega) (by omega), hr.other q (by omega)]
      rcases hi' with hi' | hi'
      · omega
      · exact hS.ntrans _ _ _ (sorted_le hS h2 (by omega) (show i ≤ q by omega) (by omega)) hi'
    · rw [hr.other p (by omega), hr.other q (by omega)]; exact h2 _ _ (by omega) (by omega) (by omega)
/-- The last one alone goes to its place ahead of those that are greater. -/
theorem one_left (hS : SWO lx) {a m i : Nat} {d d' : Array α} (h1 : SortedIn lx a m d) (hr : Rot i m (m + 1) d d') (hi : a ≤ i) (hm : i ≤ m)
    (lo : i = a ∨ lx d[m]! d[i - 1]! = false) (hi' : i = m ∨ lx d[m]! d[i]! = true) : SortedIn lx a (m + 1) d' := by
  intro p q h3 h4 h5
  by_cases hp : p < i
  · rw [hr.other p (by omega)]
    by_cases hq : q < i
    · rw [hr.other q (by omega)]; exact h1 _ _ (by omega) (by omega) (by omega)
    · by_cases hq2 : q = i
      · rw [hr.left q m (by omega) (by omega) (by omega)]
        rcases lo with lo | lo
        · omega
        · exact hS.ntrans _ _ _ lo (sorted_le hS h1 (by omega) (show p ≤ i - 1 by omega) (by omega))
      · rw [hr.right q (q - 1) (by omega) (by omega) (by omega)]; exact sorted_le hS h1 (by omega) (by omega) (by omega)
  · rw [hr.right q (q - 1) (by omega) (by omega) (by omega)]
    by_cases hp2 : p = i
    · rw [hr.left p m (by omega) (by omega) (by omega)]
      rcases hi' with hi' | hi'
      · omega
      · exact hS.ntrans _ _ _ (sorted_le hS h1 (by omega) (show i ≤ q - 1 by omega) (by omega)) (hS.asymmA hi')
    · rw [hr.right p (p - 1) (by omega) (by omega) (by omega)]; exact h1 _ _ (by omega) (by omega) (by omega)

/-- Everything left of m comes ahead of everything from m on. -/
def Tie (tie : α → α → Prop) (a m b : Nat) (d : Array α) : Prop := ∀ i j, a ≤ i → i < m → m ≤ j → j < b → tie d[i]! d[j]!

/-- What a rotation leaves of two sorted rows: four sorted rows, two by two in their places. -/
structure Four (lx : α → α → Bool) (tie : α → α → Prop) (a s mid e b : Nat) (d : Array α) : Prop where
  r1 : SortedIn lx a s d
  r2 : SortedIn lx s mid d
  r3 : SortedIn lx mid e d
  r4 : SortedIn lx e b d
  t1 : Tie tie a s mid d
  t2 : Tie tie mid e b d
  cross : ∀ i j, a ≤ i → i < mid → mid ≤ j → j < b → lx d[j]! d[i]! = false

theorem four_of (hS : SWO lx) {a s m e b mid : Nat} {d d1 : Array α} (h1 : SortedIn lx a m d) (h2 : SortedIn lx m b d) (ht : Tie tie a m b d) (hr : Rot s m e d d1)
    (ha : a ≤ s) (hs : s ≤ m) (hm : m ≤ e) (he : e ≤ b) (hmid : mid + m = s + e)
    (lo : s = a ∨ e = b ∨ lx d[e]! d[s - 1]! = false) (hi : s = m ∨ e = m ∨ lx d[e - 1]! d[s]! = true) : Four lx tie a s mid e b d1 := by
  refine ⟨fun p q _ _ _ => ?_, fun p q _ _ _ => ?_, fun p q _ _ _ => ?_, fun p q _ _ _ => ?_, fun p q _ _ _ _ => ?_, fun p q _ _ _ _ => ?_, fun p q _ _ _ _ => ?_⟩
  · rw [hr.other p (by omega), hr.other q (by omega)]; exact h1 _ _ (by omega) (by omega) (by omega)
  · rw [hr.left p (p + m - s) (by omega) (by omega) (by omega), hr.left q (q + m - s) (by omega) (by omega) (by omega)]; exact h2 _ _ (by omega) (by omega) (by omega)
  · rw [hr.right p (p + m - e) (by omega) (by omega) (by omega), hr.right q (q + m - e) (by omega) (by omega) (by omega)]; exact h1 _ _ (by omega) (by omega) (by omega)
  · rw [hr.other p (by omega), hr.other q (by omega)]; exact h2 _ _ (by omega) (by omega) (by omega)
  · rw [hr.other p (by omega), hr.left q (q + m - s) (by omega) (by omega) (by omega)]; exact ht _ _ (by omega) (by omega) (by omega) (by omega)
  · rw [hr.right p (p + m - e) (by omega) (by omega) (by omega), hr.other q (by omega)]; exact ht _ _ (by omega) (by omega) (by omega) (by omega)
  · by_cases hp : p < s
    · rw [hr.other p (by omega)]
      by_cases hq : q < e
      · rw [hr.right q (q + m - e) (by omega) (by omega) (by omega)]; exact h1 _ _ (by omega) (by omega) (by omega)
      · rw [hr.other q (by omega)]
        rcases lo with lo | lo | lo
        · omega
        · omega
        · exact hS.ntrans _ _ _ (sorted_le hS h2 (by omega) (show e ≤ q by omega) (by omega)) (hS.ntrans _ _ _ lo (sorted_le hS h1 (by omega) (show p ≤ s - 1 by omega) (by omega)))
    · rw [hr.left p (p + m - s) (by omega) (by omega) (by omega)]
      by_cases hq : q < e
      · rw [hr.right q (q + m - e) (by omega) (by omega) (by omega)]
        rcases hi with hi | hi | hi
        · omega
        · omega
        · exact hS.ntrans _ _ _ (sorted_le hS h1 (by omega) (show s ≤ q + m - e by omega) (by omega)) (hS.ntrans _ _ _ (hS.asymmA hi) (sorted_le hS h2 (by omega) (show p + m - s ≤ e - 1 by omega) (by omega)))
      · rw [hr.other q (by omega)]; exact h2 _ _ (by omega) (by omega) (by omega)

/-- The left half sorted: what stands right of it is as it was. -/
theorem Four.keep {a s mid e b : Nat} {d1 d2 : Array α} (h : Four lx tie a s mid e b d1) (hp : PermIn a mid d1 d2) (he : mid ≤ e) :
    SortedIn lx mid e d2 ∧ SortedIn lx e b d2 ∧ Tie tie mid e b d2 :=
  ⟨sorted_same h.r3 fun i h1 h2 => hp.2.1 i (by omega), sorted_same h.r4 fun i h1 h2 => hp.2.1 i (by omega),
    fun p q _ _ _ _ => by rw [hp.2.1 p (by omega), hp.2.1 q (by omega)]; exact h.t2 _ _ (by omega) (by omega) (by omega) (by omega)⟩
/-- Both halves sorted: all is. -/
theorem Four.done {a s mid e b : Nat} {d d1 d2 d3 : Array α} (h : Four lx tie a s mid e b d1) (hp : PermIn a mid d1 d2) (s2 : SortedIn lx a mid d2) (hp3 : PermIn mid b d2 d3) (s3 : SortedIn lx mid b d3)
    (hp1 : PermIn a b d d1) (ha : a ≤ mid) (hb : mid ≤ b) (hs : b ≤ d.size) : PermIn a b d d3 ∧ SortedIn lx a b d3 := by
  have z1 : d1.size = d.size := hp1.1
  have z2 : d2.size = d1.size := hp.1
  refine ⟨permIn_trans _ _ _ _ _ (permIn_trans _ _ _ _ _ hp1 (permIn_mono _ _ _ _ _ _ (Nat.le_refl _) hb (by omega) hp)) (permIn_mono _ _ _ _ _ _ ha (Nat.le_refl _) (by omega) hp3), fun i j h1 h2 h3 => ?_⟩
  by_cases hi : i < mid
  · by_cases hj : j < mid
    · rw [hp3.2.1 i (.inl hi), hp3.2.1 j (.inl hj)]; exact s2 i j h1 h2 hj
    · rw [hp3.2.1 i (.inl hi)]
      refine permIn_all d2 d3 mid b (fun y => lx y d2[i]! = false) (by omega) hp3 (fun q hq1 hq2 => ?_) j (by omega) h3
      rw [hp.2.1 q (.inr hq1)]
      exact permIn_all d1 d2 a mid (fun x => lx d1[q]! x = false) (by omega) hp (fun p hp1 hp2 => h.cross p q hp1 hp2 hq1 hq2) i h1 hi
  · exact s3 i j (by omega) h2 h3

/-! ### Insertion, where those from the left come ahead of those from the right -/
theorem insInner_lex (T : Two lt lx tie) (a : Nat) : ∀ (j : Nat) (d : Array α), j < d.size → (∀ p, a ≤ p → p < j → tie d[p]! d[j]!) → insInner lt a j d = insInner lx a j d
  | 0, d, _, _ => by rw [insInner, insInner]
  | j + 1, d, hs, ht => by
    rw [insInner, insInner]
    by_cases hj : j + 1 > a
    · rw [T.late _ _ (ht j (by omega) (by omega))]
      have g := swp_get d (i := j + 1) (j := j) hs (by omega)
      rw [insInner_lex T a j (swp d (j + 1) j) (by rw [swp_size]; omega) (fun p h1 h2 => by rw [g, g, if_pos rfl, if_neg (by omega), if_neg (by omega)]; exact ht p h1 (by omega))]
    · simp [hj]
theorem insOuter_lex (T : Two lt lx tie) (a b : Nat) : ∀ (n i : Nat) (d : Array α), b - i = n → a < i → i ≤ b → b ≤ d.size → SortedIn lx a i d → (∀ p q, a ≤ p → p < q → i ≤ q → q < b → tie d[p]! d[q]!) →
    insOuter lt a b i d = insOuter lx a b i d
  | 0, i, d, hn, _, hib, _, _, _ => by
    rw [insOuter, if_neg (by omega), insOuter, if_neg (by omega)]
  | n + 1, i, d, hn, hai, hib, hb, hs, ht => by
    have hlt : i < b := by omega
    have e1 : insOuter lt a b i d = insOuter lt a b (i + 1) (insInner lt a i d) := by rw [insOuter, if_pos hlt]
    have e2 : insOuter lx a b i d = insOuter lx a b (i + 1) (insInner lx a i d) := by rw [insOuter, if_pos hlt]
    rw [e1, e2, insInner_lex T a i d (by omega) (fun p h1 h2 => ht p i h1 h2 (Nat.le_refl _) hlt)]
    have h1 := insInner_spec T.swo swp_permIn permIn_refl permIn_trans a (i + 1) i (by omega) i d (by omega) (Nat.le_refl _) (by omega) ⟨fun p q hap hpq hqi _ hq => hs p q hap hpq (by omega), fun q h1 h2 => by omega⟩
    refine insOuter_lex T a b n (i + 1) _ (by omega) (by omega) (by omega) (by rw [h1.1.1]; exact hb) h1.2 (fun p q hp hpq hq hqb => ?_)
    rw [h1.1.2.1 q (.inr hq)]
    by_cases hpi : p < i + 1
    · exact permIn_all d _ a (i + 1) (fun x => tie x d[q]!) (by omega) h1.1 (fun r h3 h4 => ht r q h3 (by omega) (by omega) hqb) p hp hpi
    · rw [h1.1.2.1 p (.inr (by omega))]; exact ht p q hp hpq (by omega) hqb
/-- Insertion of a row whose members come one behind the other. -/
theorem ins_lex (T : Two lt lx tie) {a b : Nat} {d : Array α} (hab : a ≤ b) (hb : b ≤ d.size) (ht : ∀ p q, a ≤ p → p < q → q < b → tie d[p]! d[q]!) :
    PermIn a b d (insertionSort lt d a b) ∧ SortedIn lx a b (insertionSort lt d a b) := by
  have e : insertionSort lt d a b = insertionSort lx d a b := by
    unfold insertionSort
    by_cases h : a = b
    · subst h; rw [insOuter, if_neg (by omega), insOuter, if_neg (by omega)]
    · exact insOuter_lex T a b _ (a + 1) d rfl (by omega) (by omega) hb (fun i j _ _ _ => by omega) (fun p q h1 h2 _ h4 => ht p q h1 h2 h4)
  rw [e]
  exact insertionSort_holds T.swo d a b hab hb

/-! ### Blocks that double -/
/-- Everything left of s comes ahead of everything from s on. -/
def Cut (tie : α → α → Prop) (n s : Nat) (d : Array α) : Prop := ∀ i j, i < s → s ≤ j → j < n → tie d[i]! d[j]!
theorem Cut.perm {n s a b : Nat} {d d' : Array α} (h : Cut tie n s d) (hp : PermIn a b d d') (hb : b ≤ n) (hn : n ≤ d.size) (hs : s ≤ a ∨ b ≤ s) : Cut tie n s d' := by
  intro i j h1 h2 h3
  rcases hs with hs | hs
  · rw [hp.2.1 i (by omega)]
    by_cases hj : a ≤ j ∧ j < b
    · exact permIn_all d d' a b (fun y => tie d[i]! y) (by omega) hp (fun q h4 h5 => h i q h1 (by omega) (by omega)) j hj.1 hj.2
    · rw [hp.2.1 j (by omega)]; exact h i j h1 h2 h3
  · rw [hp.2.1 j (by omega)]
    by_cases hi : a ≤ i ∧ i < b
    · exact permIn_all d d' a b (fun x => tie x d[j]!) (by omega) hp (fun q h4 h5 => h q j (by omega) h2 h3) i hi.1 hi.2
    · rw [hp.2.1 i (by omega)]; exact h i j h1 h2 h3
theorem Cut.row {n s a b : Nat} {d : Array α} (h : Cut tie n s d) (hb : b ≤ n) : Tie tie a s b d := fun i j _ h1 h2 _ => h i j h1 h2 (by omega)
theorem dvd_next {k s a : Nat} (hs : k ∣ s) (ha : k ∣ a) (h : s < a) : s + k ≤ a := by
  have := Nat.le_of_dvd (show 0 < a - s by omega) (Nat.dvd_sub ha hs)
  omega

/-- Blocks of k, all sorted up to a; those from a on as they came. -/
structure First (lx : α → α → Bool) (tie : α → α → Prop) (k n a : Nat) (d0 d : Array α) : Prop where
  perm : PermIn 0 n d0 d
  at_ : k ∣ a
  rest : ∀ s, a ≤ s → Cut tie n s d
  cuts : ∀ s, k ∣ s → Cut tie n s d
  rows : ∀ s, k ∣ s → s + k ≤ a → SortedIn lx s (s + k) d
theorem First.asc {k n a : Nat} {d0 d : Array α} (h : First lx tie k n a d0 d) {b : Nat} (hb : b ≤ n) : ∀ p q, a ≤ p → p < q → q < b → tie d[p]! d[q]! :=
  fun p q h1 h2 h3 => h.rest q (by omega) p q h2 (Nat.le_refl _) (by omega)
theorem First.next {k n a : Nat} {d0 d d' : Array α} (h : First lx tie k n a d0 d) (hn : n ≤ d0.size) (hk : a + k ≤ n) (hp : PermIn a (a + k) d d') (hs : SortedIn lx a (a + k) d') : First lx tie k n (a + k) d0 d' := by
  have z : d.size = d0.size := h.perm.1
  refine ⟨permIn_trans _ _ _ _ _ h.perm (permIn_mono _ _ _ _ _ _ (by omega) hk (by omega) hp), Nat.dvd_add h.at_ (Nat.dvd_refl _), fun s h1 => (h.rest s (by omega)).perm hp hk (by omega) (.inr h1), fun s h1 => ?_, fun s h1 h2 => ?_⟩
  · by_cases e : s ≤ a
    · exact (h.cuts s h1).perm hp hk (by omega) (.inl e)
    · exact (h.cuts s h1).perm hp hk (by omega) (.inr (dvd_next h.at_ h1 (by omega)))
  · by_cases e : s + k ≤ a
    · exact sorted_same (h.rows s h1 e) fun i h3 h4 => hp.2.1 i (by omega)
    · by_cases e2 : s = a
      · subst e2; exact hs
      · have := dvd_next h1 h.at_ (show s < a by omega)
        omega

/-- Blocks of k, each sorted. -/
structure Lev (lx : α → α → Bool) (tie : α → α → Prop) (k n : Nat) (d0 d : Array α) : Prop where
  perm : PermIn 0 n d0 d
  cuts : ∀ s, k ∣ s → Cut tie n s d
  rows : ∀ s, k ∣ s → SortedIn lx s (min (s + k) n) d
theorem First.last {k n a : Nat} {d0 d d' : Array α} (h : First lx tie k n a d0 d) (hn : n ≤ d0.size) (ha : a ≤ n) (hk : n < a + k) (hp : PermIn a n d d') (hs : SortedIn lx a n d') : Lev lx tie k n d0 d' := by
  have z : d.size = d0.size := h.perm.1
  refine ⟨permIn_trans _ _ _ _ _ h.perm (permIn_mono _ _ _ _ _ _ (by omega) (Nat.le_refl _) (by omega) hp), fun s h1 => ?_, fun s h1 => ?_⟩
  · by_cases e : s ≤ a
    · exact (h.cuts s h1).perm hp (Nat.le_refl _) (by omega) (.inl e)
    · exact (h.cuts s h1).perm hp (Nat.le_refl _) (by omega) (.inr (by have := dvd_next h.at_ h1 (by omega); omega))
  · by_cases e : s < a
    · have := dvd_next h1 h.at_ e
      exact sorted_same (sorted_part (h.rows s h1 this) (Nat.le_refl _) (Nat.min_le_left _ _)) fun i h3 h4 => hp.2.1 i (by omega)
    · by_cases e2 : s = a
      · subst e2; exact sorted_part hs (Nat.le_refl _) (Nat.min_le_right _ _)
      · have := dvd_next h.at_ h1 (show a < s by omega)
        intro i j _ _ _; omega

/-- Blocks of 2 k up to a, blocks of k from there on. -/
structure Half (lx : α → α → Bool) (tie : α → α → Prop) (k n a : Nat) (d0 d : Array α) : Prop where
  perm : PermIn 0 n d0 d
  at_ : 2 * k ∣ a
  cuts2 : ∀ s, 2 * k ∣ s → Cut tie n s d
  cuts : ∀ s, k ∣ s → a ≤ s → Cut tie n s d
  rows2 : ∀ s, 2 * k ∣ s → s + 2 * k ≤ a → SortedIn lx s (s + 2 * k) d
  rows : ∀ s, k ∣ s → a ≤ s → SortedIn lx s (min (s + k) n) d
theorem dvd_two {k s : Nat} (h : 2 * k ∣ s) : k ∣ s := Nat.dvd_trans ⟨2, Nat.mul_comm _ _⟩ h
theorem Lev.half {k n : Nat} {d0 d : Array α} (h : Lev lx tie k n d0 d) : Half lx tie k n 0 d0 d :=
  ⟨h.perm, Nat.dvd_zero _, fun s h1 => h.cuts s (dvd_two h1), fun s h1 _ => h.cuts s h1, fun s _ h2 => by
    intro i j _ _ _; omega, fun s h1 _ => h.rows s h1⟩
theorem Half.next {k n a : Nat} {d0 d d' : Array α} (h : Half lx tie k n a d0 d) (hn : n ≤ d0.size) (hk : a + 2 * k ≤ n) (hp : PermIn a (a + 2 * k) d d') (hs : SortedIn lx a (a + 2 * k) d') : Half lx tie k n (a + 2 * k) d0 d' := by
  have z : d.size = d0.size := h.perm.1
  refine ⟨permIn_trans _ _ _ _ _ h.perm (permIn_mono _ _ _ _ _ _ (by omega) hk (by omega) hp), Nat.dvd_add h.at_ (Nat.dvd_refl _), fun s h1 => ?_, fun s h1 h2 => (h.cuts s h1 (by omega)).perm hp hk (by omega) (.inr h2), fun s h1 h2 => ?_, fun s h1 h2 => ?_⟩
  · by_cases e : s ≤ a
    · exact (h.cuts2 s h1).perm hp hk (by omega) (.inl e)
    · exact (h.cuts2 s h1).perm hp hk (by omega) (.inr (dvd_next h.at_ h1 (by omega)))
  · by_cases e : s < a
    · exact sorted_same (h.rows2 s h1 (dvd_next h1 h.at_ e)) fun i h3 h4 => hp.2.1 i (by have := dvd_next h1 h.at_ e; omega)
    · by_cases e2 : s = a
      · subst e2; exact hs
      · omega
  · exact sorted_same (h.rows s h1 (by omega)) fun i h3 h4 => hp.2.1 i (by omega)
theorem Half.last {k n a : Nat} {d0 d d' : Array α} (h : Half lx tie k n a d0 d) (hn : n ≤ d0.size) (ha : a ≤ n) (hk : n < a + 2 * k) (hp : PermIn a n d d') (hs : SortedIn lx a n d') : Lev lx tie (2 * k) n d0 d' := by
  have z : d.size = d0.size := h.perm.1
  refine ⟨permIn_trans _ _ _ _ _ h.perm (permIn_mono _ _ _ _ _ _ (by omega) (Nat.le_refl _) (by omega) hp), fun s h1 => ?_, fun s h1 => ?_⟩
  · by_cases e : s ≤ a
    · exact (h.cuts2 s h1).perm hp (Nat.le_refl _) (by omega) (.inl e)
    · exact (h.cuts2 s h1).perm hp (Nat.le_refl _) (by omega) (.inr (by have := dvd_next h.at_ h1 (by omega); omega))
  · by_cases e : s < a
    · have := dvd_next h1 h.at_ e
      exact sorted_same (sorted_part (h.rows2 s h1 this) (Nat.le_refl _) (Nat.min_le_left _ _)) fun i h3 h4 => hp.2.1 i (by omega)
    · by_cases e2 : s = a
      · subst e2; exact sorted_part hs (Nat.le_refl _) (Nat.min_le_right _ _)
      · have := dvd_next h.at_ h1 (show a < s by omega)
        intro i j _ _ _; omega
/-- The last blocks, where one stands alone, are sorted as they are. -/
theorem Half.alone {k n a : Nat} {d0 d : Array α} (h : Half lx tie k n a d0 d) (hn : n ≤ d0.size) (ha : a ≤ n) (hk : n ≤ a + k) (k0 : 0 < k) : Lev lx tie (2 * k) n d0 d := by
  refine h.last hn ha (by omega) (permIn_refl _ _ _) ?_
  have := h.rows a (dvd_two h.at_) (Nat.le_refl _)
  rwa [Nat.min_eq_right hk] at this
theorem Half.rowA {k n a : Nat} {d0 d : Array α} (h : Half lx tie k n a d0 d) (hk : a + k ≤ n) : SortedIn lx a (a + k) d := by
  have := h.rows a (dvd_two h.at_) (Nat.le_refl _)
  rwa [Nat.min_eq_left hk] at this
theorem Half.rowB {k n a b : Nat} {d0 d : Array α} (h : Half lx tie k n a d0 d) (hb : b ≤ a + k + k) (hb2 : b ≤ n) : SortedIn lx (a + k) b d :=
  sorted_part (h.rows (a + k) (Nat.dvd_add (dvd_two h.at_) (Nat.dvd_refl _)) (by omega)) (Nat.le_refl _) (by omega)
theorem Half.cutA {k n a : Nat} {d0 d : Array α} (h : Half lx tie k n a d0 d) : Cut tie n (a + k) d := h.cuts (a + k) (Nat.dvd_add (dvd_two h.at_) (Nat.dvd_refl _)) (by omega)
theorem Lev.sorted {k n : Nat} {d0 d : Array α} (h : Lev lx tie k n d0 d) (hk : n ≤ k) : SortedIn lx 0 n d := by
  have := h.rows 0 (Nat.dvd_zero _)
  rwa [show min (0 + k) n = n by omega] at this
theorem First.start (k n : Nat) (d : Array α) (ht : ∀ p q, p < q → q < n → tie d[p]! d[q]!) : First lx tie k n 0 d d :=
  ⟨permIn_refl _ _ _, Nat.dvd_zero _, fun s _ i j h1 h2 h3 => ht i j (by omega) h3, fun s _ i j h1 h2 h3 => ht i j (by omega) h3, fun s _ h2 i j _ _ _ => by omega⟩
end Go.Proofs.Ytadaaoljpeojcaa
