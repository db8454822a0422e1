/-
  Stable sorting, plain: rows exchanged, a rotation, a merge by rotations, blocks that double. No program, no conditions but those of each theorem. The library's stable sort, its small parts: rows exchanged, a rotation, an insertion. Conditions: those of each theorem. The library's stable sort, a rotation. Conditions: those of the theorem. The library's stable sort, an insertion: it is the plain one. Conditions: those of the theorem. The library's stable sort, a merge where one row has one member. Conditions: those of the theorems. The library's stable sort, a merge where the second row has one member. Conditions: those of the theorem.
-/
import Derived.Sort.LotA
import Derived.Test.YtbiompjhenkieaaGreatBase
import Derived.Sort.WalkC
import Derived.RegionTactic
import Derived.BigRegion
import Derived.Lib.Hide
import Derived.Deep.LoopGhost
import Derived.Sort.WalkA
namespace Go.Proofs.YtbiompjhenkieaaGreat
open Go.Sort
variable {α : Type} [Inhabited α]

/-- The rows [a, a + n) and [b, b + n) exchanged. -/
structure Swapped (a b n : Nat) (d d' : Array α) : Prop where
  size : d'.size = d.size
  left : ∀ k l, a ≤ k → k < a + n → l + a = k + b → d'[k]! = d[l]!
  right : ∀ k l, b ≤ k → k < b + n → l + b = k + a → d'[k]! = d[l]!
  other : ∀ k, (k < a ∨ a + n ≤ k) → (k < b ∨ b + n ≤ k) → d'[k]! = d[k]!

theorem Swapped.zero (a b : Nat) (d : Array α) : Swapped a b 0 d d := ⟨rfl, fun _ _ _ _ _ => by omega, fun _ _ _ _ _ => by omega, fun _ _ _ => rfl⟩
theorem Swapped.more {a b n : Nat} {d dk : Array α} (h : Swapped a b n d dk) (hab : a + n < b) (hb : b + n < d.size) : Swapped a b (n + 1) d (swp dk (a + n) (b + n)) := by
  have hs := h.size
  have g := swp_get dk (i := a + n) (j := b + n) (by omega) (by omega)
  refine ⟨by rw [swp_size]; exact hs, fun k l h1 h2 h3 => ?_, fun k l h1 h2 h3 => ?_, fun k h1 h2 => ?_⟩
  · rw [g, if_neg (by omega)]
    by_cases e : k = a + n
    · rw [if_pos e, h.other _ (by omega) (by omega)]
      congr 1; omega
    · rw [if_neg e]; exact h.left k l h1 (by omega) h3
  · rw [g]
    by_cases e : k = b + n
    · rw [if_pos e, h.other _ (by omega) (by omega)]
      congr 1; omega
    · rw [if_neg e, if_neg (by omega)]; exact h.right k l h1 (by omega) h3
  · rw [g, if_neg (by omega), if_neg (by omega)]
    exact h.other k (by omega) (by omega)

/-- The rows [a, m) and [m, b) change places. -/
structure Rot (a m b : Nat) (d d' : Array α) : Prop where
  size : d'.size = d.size
  left : ∀ k l, a ≤ k → k + m < a + b → l + a = k + m → d'[k]! = d[l]!
  right : ∀ k l, a + b ≤ k + m → k < b → l + b = k + m → d'[k]! = d[l]!
  other : ∀ k, k < a ∨ b ≤ k → d'[k]! = d[k]!

theorem Rot.noLeft (m b : Nat) (d : Array α) : Rot m m b d d :=
  ⟨rfl, fun k l _ _ _ => by congr 1; omega, fun _ _ _ _ _ => by omega, fun _ _ => rfl⟩
theorem Rot.noRight (a m : Nat) (d : Array α) : Rot a m m d d :=
  ⟨rfl, fun _ _ _ _ _ => by omega, fun k l _ _ _ => by congr 1; omega, fun _ _ => rfl⟩
theorem Rot.of_swapped {a m b : Nat} {d d' : Array α} (h : Swapped a m (b - m) d d') (h1 : m - a = b - m) (ha : a ≤ m) (hb : m ≤ b) : Rot a m b d d' :=
  ⟨h.size, fun k l _ _ _ => h.left k l (by omega) (by omega) (by omega), fun k l _ _ _ => h.right k l (by omega) (by omega) (by omega), fun k _ => h.other k (by omega) (by omega)⟩
/-- The left row is the longer one: its first part goes to the end. -/
theorem Rot.left_more {s m e j : Nat} {d d2 d' : Array α} (h2 : Swapped s m j d d2) (hr : Rot (s + j) m e d2 d') (hj : m + j = e) (h : s + j ≤ m) : Rot s m e d d' := by
  refine ⟨hr.size.trans h2.size, fun k l _ _ _ => ?_, fun k l _ _ _ => ?_, fun k _ => ?_⟩
  · rw [hr.other k (by omega)]; exact h2.left k l (by omega) (by omega) (by omega)
  · by_cases hk : k < s + j + j
    · rw [hr.left k (k + m - (s + j)) (by omega) (by omega) (by omega)]
      exact h2.right _ l (by omega) (by omega) (by omega)
    · rw [hr.right k (k - j) (by omega) (by omega) (by omega), h2.other _ (by omega) (by omega)]
      congr 1; omega
  · rw [hr.other k (by omega)]; exact h2.other k (by omega) (by omega)
/-- The right row is the longer one: its last part goes to the front. -/
theorem Rot.right_more {s m e i : Nat} {d d2 d' : Array α} (h2 : Swapped s (e - i) i d d2) (hr : Rot s m (e - i) d2 d') (hi : s + i = m) (h : m + i ≤ e) : Rot s m e d d' := by
  refine ⟨hr.size.trans h2.size, fun k l _ _ _ => ?_, fun k l _ _ _ => ?_, fun k _ => ?_⟩
  · by_cases hk : k + m < s + (e - i)
    · rw [hr.left k l (by omega) (by omega) (by omega)]
      exact h2.other _ (by omega) (by omega)
    · rw [hr.right k (k + m - (e - i)) (by omega) (by omega) (by omega)]
      exact h2.left _ l (by omega) (by omega) (by omega)
  · rw [hr.other k (by omega)]; exact h2.right k l (by omega) (by omega) (by omega)
  · rw [hr.other k (by omega)]; exact h2.other k (by omega) (by omega)

theorem Rot.perm {a m b : Nat} {d d' : Array α} (h : Rot a m b d d') (ha : a ≤ m) (hb : m ≤ b) (hs : b ≤ d.size) : PermIn a b d d' := by
  refine ⟨h.size, h.other, ?_⟩
  rw [extract_toList _ a b (by rw [h.size]; exact hs), extract_toList _ a b hs]
  have e0 : List.range' a (b - a) = List.range' a (m - a) ++ List.range' m (b - m) := by
    have := List.range'_append_1 (s := a) (m := m - a) (n := b - m)
    rw [show a + (m - a) = m by omega, show m - a + (b - m) = b - a by omega] at this
    exact this.symm
  have e1 : List.range' a (b - a) = List.range' a (b - m) ++ List.range' (a + (b - m)) (m - a) := by
    have := List.range'_append_1 (s := a) (m := b - m) (n := m - a)
    rw [show b - m + (m - a) = b - a by omega] at this
    exact this.symm
  have f1 : (List.range' a (b - m)).map (fun i => d'[i]!) = (List.range' m (b - m)).map (fun i => d[i]!) := by
    apply List.ext_getElem (by simp)
    intro k h1 _
    simp only [List.length_map, List.length_range'] at h1
    simp only [List.getElem_map, List.getElem_range', Nat.one_mul]
    exact h.left _ _ (by omega) (by omega) (by omega)
  have f2 : (List.range' (a + (b - m)) (m - a)).map (fun i => d'[i]!) = (List.range' a (m - a)).map (fun i => d[i]!) := by
    apply List.ext_getElem (by simp)
    intro k h1 _
    simp only [List.length_map, List.length_range'] at h1
    simp only [List.getElem_map, List.getElem_range', Nat.one_mul]
    exact h.right _ _ (by omega) (by omega) (by omega)
  rw [e1, List.map_append, f1, f2, ← e1, e0, List.map_append]
  exact List.perm_append_comm

/-- One more step of an element's way to the right. -/
theorem Rot.stepRight {a k : Nat} {d dk : Array α} (h : Rot a (a + 1) (k + 1) d dk) (ha : a ≤ k) (hs : k + 1 < d.size) : Rot a (a + 1) (k + 2) d (swp dk k (k + 1)) := by
  have hz := h.size
  have g := swp_get dk (i := k) (j := k + 1) (by omega) (by omega)
  refine ⟨by rw [swp_size]; exact hz, fun p l h1 h2 h3 => ?_, fun p l h1 h2 h3 => ?_, fun p h1 => ?_⟩
  · rw [g, if_neg (by omega)]
    by_cases e : p = k
    · rw [if_pos e, h.other _ (by omega)]; congr 1; omega
    · rw [if_neg e]; exact h.left p l (by omega) (by omega) (by omega)
  · rw [g, if_pos (by omega)]
    exact h.right k l (by omega) (by omega) (by omega)
  · rw [g, if_neg (by omega), if_neg (by omega)]; exact h.other p (by omega)
/-- One more step of an element's way to the left. -/
theorem Rot.stepLeft {k m : Nat} {d dk : Array α} (h : Rot (k + 1) m (m + 1) d dk) (hk : k + 1 ≤ m) (hs : m < d.size) : Rot k m (m + 1) d (swp dk (k + 1) k) := by
  have hz := h.size
  have g := swp_get dk (i := k + 1) (j := k) (by omega) (by omega)
  refine ⟨by rw [swp_size]; exact hz, fun p l h1 h2 h3 => ?_, fun p l h1 h2 h3 => ?_, fun p h1 => ?_⟩
  · rw [g, if_pos (by omega)]
    exact h.left (k + 1) l (by omega) (by omega) (by omega)
  · rw [g, if_neg (by omega)]
    by_cases e : p = k + 1
    · rw [if_pos e, h.other _ (by omega)]; congr 1; omega
    · rw [if_neg e]; exact h.right p l (by omega) (by omega) (by omega)
  · rw [g, if_neg (by omega), if_neg (by omega)]; exact h.other p (by omega)

/-- What 'less' tells of a later one against an earlier one is what the order that parts all tells. -/
structure Two (lt lx : α → α → Bool) (tie : α → α → Prop) : Prop where
  swo : SWO lx
  late : ∀ x y, tie x y → lt y x = lx y x

variable {lt lx : α → α → Bool} {tie : α → α → Prop}

theorem sorted_same {a b : Nat} {d d' : Array α} (h : SortedIn lx a b d) (hd : ∀ i, a ≤ i → i < b → d'[i]! = d[i]!) : SortedIn lx a b d' :=
  fun i j h1 h2 h3 => by rw [hd i h1 (by omega), hd j (by omega) h3]; exact h i j h1 h2 h3
theorem sorted_part {a b a' b' : Nat} {d : Array α} (h : SortedIn lx a b d) (ha : a ≤ a') (hb : b' ≤ b) : SortedIn lx a' b' d := fun i j _ _ _ => h i j (by omega) (by omega) (by omega)
theorem sorted_le (hS : SWO lx) {a b : Nat} {d : Array α} (h : SortedIn lx a b d) {i j : Nat} (hi : a ≤ i) (hij : i ≤ j) (hj : j < b) : lx d[j]! d[i]! = false := by
  by_cases e : i = j
  · subst e; exact hS.irrefl _
  · exact h i j hi (by omega) hj

/-- The first one alone goes to its place behind those that are less. -/
theorem one_right (hS : SWO lx) {a b i : Nat} {d d' : Array α} (h2 : SortedIn lx (a + 1) b d) (hr : Rot a (a + 1) i d d') (hi : a + 1 ≤ i) (hb : i ≤ b)
    (lo : i = a + 1 ∨ lx d[i - 1]! d[a]! = true) (hi' : i = b ∨ lx d[i]! d[a]! = false) : SortedIn lx a b d' := by
  intro p q h1 h3 h4
  by_cases hp : p + 1 < i
  · rw [hr.left p (p + 1) (by omega) (by omega) (by omega)]
    by_cases hq : q + 1 < i
    · rw [hr.left q (q + 1) (by omega) (by omega) (by omega)]; exact h2 _ _ (by omega) (by omega) (by omega)
    · by_cases hq2 : q < i
      · rw [hr.right q a (by omega) (by omega) (by omega)]
        rcases lo with lo | lo
        · omega
        · exact hS.ntrans _ _ _ (hS.asymmA lo) (sorted_le hS h2 (by omega) (by omega) (by omega))
      · rw [hr.other q (by omega)]; exact h2 _ _ (by omega) (by omega) (by omega)
  · by_cases hp2 : p < i
    · rw [hr.right p a (by omega) (by omega) (by omega), hr.other q (by omega)]
      rcases hi' with hi' | hi'
      · omega
      · exact hS.ntrans _ _ _ (sorted_le hS h2 (by omega) (show i ≤ q by omega) (by omega)) hi'
    · rw [hr.other p (by omega), hr.other q (by omega)]; exact h2 _ _ (by omega) (by omega) (by omega)
/-- The last one alone goes to its place ahead of those that are greater. -/
theorem one_left (hS : SWO lx) {a m i : Nat} {d d' : Array α} (h1 : SortedIn lx a m d) (hr : Rot i m (m + 1) d d') (hi : a ≤ i) (hm : i ≤ m)
    (lo : i = a ∨ lx d[m]! d[i - 1]! = false) (hi' : i = m ∨ lx d[m]! d[i]! = true) : SortedIn lx a (m + 1) d' := by
  intro p q h3 h4 h5
  by_cases hp : p < i
  · rw [hr.other p (by omega)]
    by_cases hq : q < i
    · rw [hr.other q (by omega)]; exact h1 _ _ (by omega) (by omega) (by omega)
    · by_cases hq2 : q = i
      · rw [hr.left q m (by omega) (by omega) (by omega)]
        rcases lo with lo | lo
        · omega
        · exact hS.ntrans _ _ _ lo (sorted_le hS h1 (by omega) (show p ≤ i - 1 by omega) (by omega))
      · rw [hr.right q (q - 1) (by omega) (by omega) (by omega)]; exact sorted_le hS h1 (by omega) (by omega) (by omega)
  · rw [hr.right q (q - 1) (by omega) (by omega) (by omega)]
    by_cases hp2 : p = i
    · rw [hr.left p m (by omega) (by omega) (by omega)]
      rcases hi' with hi' | hi'
      · omega
      · exact hS.ntrans _ _ _ (sorted_le hS h1 (by omega) (show i ≤ q - 1 by omega) (by omega)) (hS.asymmA hi')
    · rw [hr.right p (p - 1) (by omega) (by omega) (by omega)]; exact h1 _ _ (by omega) (by omega) (by omega)

/-- Everything left of m comes ahead of everything from m on. -/
def Tie (tie : α → α → Prop) (a m b : Nat) (d : Array α) : Prop := ∀ i j, a ≤ i → i < m → m ≤ j → j < b → tie d[i]! d[j]!

/-- What a rotation leaves of two sorted rows: four sorted rows, two by two in their places. -/
structure Four (lx : α → α → Bool) (tie : α → α → Prop) (a s mid e b : Nat) (d : Array α) : Prop where
  r1 : SortedIn lx a s d
  r2 : SortedIn lx s mid d
  r3 : SortedIn lx mid e d
  r4 : SortedIn lx e b d
  t1 : Tie tie a s mid d
  t2 : Tie tie mid e b d
  cross : ∀ i j, a ≤ i → i < mid → mid ≤ j → j < b → lx d[j]! d[i]! = false

theorem four_of (hS : SWO lx) {a s m e b mid : Nat} {d d1 : Array α} (h1 : SortedIn lx a m d) (h2 : SortedIn lx m b d) (ht : Tie tie a m b d) (hr : Rot s m e d d1)
    (ha : a ≤ s) (hs : s ≤ m) (hm : m ≤ e) (he : e ≤ b) (hmid : mid + m = s + e)
    (lo : s = a ∨ e = b ∨ lx d[e]! d[s - 1]! = false) (hi : s = m ∨ e = m ∨ lx d[e - 1]! d[s]! = true) : Four lx tie a s mid e b d1 := by
  refine ⟨fun p q _ _ _ => ?_, fun p q _ _ _ => ?_, fun p q _ _ _ => ?_, fun p q _ _ _ => ?_, fun p q _ _ _ _ => ?_, fun p q _ _ _ _ => ?_, fun p q _ _ _ _ => ?_⟩
  · rw [hr.other p (by omega), hr.other q (by omega)]; exact h1 _ _ (by omega) (by omega) (by omega)
  · rw [hr.left p (p + m - s) (by omega) (by omega) (by omega), hr.left q (q + m - s) (by omega) (by omega) (by omega)]; exact h2 _ _ (by omega) (by omega) (by omega)
  · rw [hr.right p (p + m - e) (by omega) (by omega) (by omega), hr.right q (q + m - e) (by omega) (by omega) (by omega)]; exact h1 _ _ (by omega) (by omega) (by omega)
  · rw [hr.other p (by omega), hr.other q (by omega)]; exact h2 _ _ (by omega) (by omega) (by omega)
  · rw [hr.other p (by omega), hr.left q (q + m - s) (by omega) (by omega) (by omega)]; exact ht _ _ (by omega) (by omega) (by omega) (by omega)
  · rw [hr.right p (p + m - e) (by omega) (by omega) (by omega), hr.other q (by omega)]; exact ht _ _ (by omega) (by omega) (by omega) (by omega)
  · by_cases hp : p < s
    · rw [hr.other p (by omega)]
      by_cases hq : q < e
      · rw [hr.right q (q + m - e) (by omega) (by omega) (by omega)]; exact h1 _ _ (by omega) (by omega) (by omega)
      · rw [hr.other q (by omega)]
        rcases lo with lo | lo | lo
        · omega
        · omega
        · exact hS.ntrans _ _ _ (sorted_le hS h2 (by omega) (show e ≤ q by omega) (by omega)) (hS.ntrans _ _ _ lo (sorted_le hS h1 (by omega) (show p ≤ s - 1 by omega) (by omega)))
    · rw [hr.left p (p + m - s) (by omega) (by omega) (by omega)]
      by_cases hq : q < e
      · rw [hr.right q (q + m - e) (by omega) (by omega) (by omega)]
        rcases hi with hi | hi | hi
        · omega
        · omega
        · exact hS.ntrans _ _ _ (sorted_le hS h1 (by omega) (show s ≤ q + m - e by omega) (by omega)) (hS.ntrans _ _ _ (hS.asymmA hi) (sorted_le hS h2 (by omega) (show p + m - s ≤ e - 1 by omega) (by omega)))
      · rw [hr.other q (by omega)]; exact h2 _ _ (by omega) (by omega) (by omega)

/-- The left half sorted: what stands right of it is as it was. -/
theorem Four.keep {a s mid e b : Nat} {d1 d2 : Array α} (h : Four lx tie a s mid e b d1) (hp : PermIn a mid d1 d2) (he : mid ≤ e) :
    SortedIn lx mid e d2 ∧ SortedIn lx e b d2 ∧ Tie tie mid e b d2 :=
  ⟨sorted_same h.r3 fun i h1 h2 => hp.2.1 i (by omega), sorted_same h.r4 fun i h1 h2 => hp.2.1 i (by omega),
    fun p q _ _ _ _ => by rw [hp.2.1 p (by omega), hp.2.1 q (by omega)]; exact h.t2 _ _ (by omega) (by omega) (by omega) (by omega)⟩
/-- Both halves sorted: all is. -/
theorem Four.done {a s mid e b : Nat} {d d1 d2 d3 : Array α} (h : Four lx tie a s mid e b d1) (hp : PermIn a mid d1 d2) (s2 : SortedIn lx a mid d2) (hp3 : PermIn mid b d2 d3) (s3 : SortedIn lx mid b d3)
    (hp1 : PermIn a b d d1) (ha : a ≤ mid) (hb : mid ≤ b) (hs : b ≤ d.size) : PermIn a b d d3 ∧ SortedIn lx a b d3 := by
  have z1 : d1.size = d.size := hp1.1
  have z2 : d2.size = d1.size := hp.1
  refine ⟨permIn_trans _ _ _ _ _ (permIn_trans _ _ _ _ _ hp1 (permIn_mono _ _ _ _ _ _ (Nat.le_refl _) hb (by omega) hp)) (permIn_mono _ _ _ _ _ _ ha (Nat.le_refl _) (by omega) hp3), fun i j h1 h2 h3 => ?_⟩
  by_cases hi : i < mid
  · by_cases hj : j < mid
    · rw [hp3.2.1 i (.inl hi), hp3.2.1 j (.inl hj)]; exact s2 i j h1 h2 hj
    · rw [hp3.2.1 i (.inl hi)]
      refine permIn_all d2 d3 mid b (fun y => lx y d2[i]! = false) (by omega) hp3 (fun q hq1 hq2 => ?_) j (by omega) h3
      rw [hp.2.1 q (.inr hq1)]
      exact permIn_all d1 d2 a mid (fun x => lx d1[q]! x = false) (by omega) hp (fun p hp1 hp2 => h.cross p q hp1 hp2 hq1 hq2) i h1 hi
  · exact s3 i j (by omega) h2 h3

/-! ### Insertion, where those from the left come ahead of those from the right -/
theorem insInner_lex (T : Two lt lx tie) (a : Nat) : ∀ (j : Nat) (d : Array α), j < d.size → (∀ p, a ≤ p → p < j → tie d[p]! d[j]!) → insInner lt a j d = insInner lx a j d
  | 0, d, _, _ => by rw [insInner, insInner]
  | j + 1, d, hs, ht => by
    rw [insInner, insInner]
    by_cases hj : j + 1 > a
    · rw [T.late _ _ (ht j (by omega) (by omega))]
      have g := swp_get d (i := j + 1) (j := j) hs (by omega)
      rw [insInner_lex T a j (swp d (j + 1) j) (by rw [swp_size]; omega) (fun p h1 h2 => by rw [g, g, if_pos rfl, if_neg (by omega), if_neg (by omega)]; exact ht p h1 (by omega))]
    · simp [hj]
theorem insOuter_lex (T : Two lt lx tie) (a b : Nat) : ∀ (n i : Nat) (d : Array α), b - i = n → a < i → i ≤ b → b ≤ d.size → SortedIn lx a i d → (∀ p q, a ≤ p → p < q → i ≤ q → q < b → tie d[p]! d[q]!) →
    insOuter lt a b i d = insOuter lx a b i d
  | 0, i, d, hn, _, hib, _, _, _ => by
    rw [insOuter, if_neg (by omega), insOuter, if_neg (by omega)]
  | n + 1, i, d, hn, hai, hib, hb, hs, ht => by
    have hlt : i < b := by omega
    have e1 : insOuter lt a b i d = insOuter lt a b (i + 1) (insInner lt a i d) := by rw [insOuter, if_pos hlt]
    have e2 : insOuter lx a b i d = insOuter lx a b (i + 1) (insInner lx a i d) := by rw [insOuter, if_pos hlt]
    rw [e1, e2, insInner_lex T a i d (by omega) (fun p h1 h2 => ht p i h1 h2 (Nat.le_refl _) hlt)]
    have h1 := insInner_spec T.swo swp_permIn permIn_refl permIn_trans a (i + 1) i (by omega) i d (by omega) (Nat.le_refl _) (by omega) ⟨fun p q hap hpq hqi _ hq => hs p q hap hpq (by omega), fun q h1 h2 => by omega⟩
    refine insOuter_lex T a b n (i + 1) _ (by omega) (by omega) (by omega) (by rw [h1.1.1]; exact hb) h1.2 (fun p q hp hpq hq hqb => ?_)
    rw [h1.1.2.1 q (.inr hq)]
    by_cases hpi : p < i + 1
    · exact permIn_all d _ a (i + 1) (fun x => tie x d[q]!) (by omega) h1.1 (fun r h3 h4 => ht r q h3 (by omega) (by omega) hqb) p hp hpi
    · rw [h1.1.2.1 p (.inr (by omega))]; exact ht p q hp hpq (by omega) hqb
/-- Insertion of a row whose members come one behind the other. -/
theorem ins_lex (T : Two lt lx tie) {a b : Nat} {d : Array α} (hab : a ≤ b) (hb : b ≤ d.size) (ht : ∀ p q, a ≤ p → p < q → q < b → tie d[p]! d[q]!) :
    PermIn a b d (insertionSort lt d a b) ∧ SortedIn lx a b (insertionSort lt d a b) := by
  have e : insertionSort lt d a b = insertionSort lx d a b := by
    unfold insertionSort
    by_cases h : a = b
    · subst h; rw [insOuter, if_neg (by omega), insOuter, if_neg (by omega)]
    · exact insOuter_lex T a b _ (a + 1) d rfl (by omega) (by omega) hb (fun i j _ _ _ => by omega) (fun p q h1 h2 _ h4 => ht p q h1 h2 h4)
  rw [e]
  exact insertionSort_holds T.swo d a b hab hb

/-! ### Blocks that double -/
/-- Everything left of s comes ahead of everything from s on. -/
def Cut (tie : α → α → Prop) (n s : Nat) (d : Array α) : Prop := ∀ i j, i < s → s ≤ j → j < n → tie d[i]! d[j]!
theorem Cut.perm {n s a b : Nat} {d d' : Array α} (h : Cut tie n s d) (hp : PermIn a b d d') (hb : b ≤ n) (hn : n ≤ d.size) (hs : s ≤ a ∨ b ≤ s) : Cut tie n s d' := by
  intro i j h1 h2 h3
  rcases hs with hs | hs
  · rw [hp.2.1 i (by omega)]
    by_cases hj : a ≤ j ∧ j < b
    · exact permIn_all d d' a b (fun y => tie d[i]! y) (by omega) hp (fun q h4 h5 => h i q h1 (by omega) (by omega)) j hj.1 hj.2
    · rw [hp.2.1 j (by omega)]; exact h i j h1 h2 h3
  · rw [hp.2.1 j (by omega)]
    by_cases hi : a ≤ i ∧ i < b
    · exact permIn_all d d' a b (fun x => tie x d[j]!) (by omega) hp (fun q h4 h5 => h q j (by omega) h2 h3) i hi.1 hi.2
    · rw [hp.2.1 i (by omega)]; exact h i j h1 h2 h3
theorem Cut.row {n s a b : Nat} {d : Array α} (h : Cut tie n s d) (hb : b ≤ n) : Tie tie a s b d := fun i j _ h1 h2 _ => h i j h1 h2 (by omega)
theorem dvd_next {k s a : Nat} (hs : k ∣ s) (ha : k ∣ a) (h : s < a) : s + k ≤ a := by
  have := Nat.le_of_dvd (show 0 < a - s by omega) (Nat.dvd_sub ha hs)
  omega

/-- Blocks of k, all sorted up to a; those from a on as they came. -/
structure First (lx : α → α → Bool) (tie : α → α → Prop) (k n a : Nat) (d0 d : Array α) : Prop where
  perm : PermIn 0 n d0 d
  at_ : k ∣ a
  rest : ∀ s, a ≤ s → Cut tie n s d
  cuts : ∀ s, k ∣ s → Cut tie n s d
  rows : ∀ s, k ∣ s → s + k ≤ a → SortedIn lx s (s + k) d
theorem First.asc {k n a : Nat} {d0 d : Array α} (h : First lx tie k n a d0 d) {b : Nat} (hb : b ≤ n) : ∀ p q, a ≤ p → p < q → q < b → tie d[p]! d[q]! :=
  fun p q h1 h2 h3 => h.rest q (by omega) p q h2 (Nat.le_refl _) (by omega)
theorem First.next {k n a : Nat} {d0 d d' : Array α} (h : First lx tie k n a d0 d) (hn : n ≤ d0.size) (hk : a + k ≤ n) (hp : PermIn a (a + k) d d') (hs : SortedIn lx a (a + k) d') : First lx tie k n (a + k) d0 d' := by
  have z : d.size = d0.size := h.perm.1
  refine ⟨permIn_trans _ _ _ _ _ h.perm (permIn_mono _ _ _ _ _ _ (by omega) hk (by omega) hp), Nat.dvd_add h.at_ (Nat.dvd_refl _), fun s h1 => (h.rest s (by omega)).perm hp hk (by omega) (.inr h1), fun s h1 => ?_, fun s h1 h2 => ?_⟩
  · by_cases e : s ≤ a
    · exact (h.cuts s h1).perm hp hk (by omega) (.inl e)
    · exact (h.cuts s h1).perm hp hk (by omega) (.inr (dvd_next h.at_ h1 (by omega)))
  · by_cases e : s + k ≤ a
    · exact sorted_same (h.rows s h1 e) fun i h3 h4 => hp.2.1 i (by omega)
    · by_cases e2 : s = a
      · subst e2; exact hs
      · have := dvd_next h1 h.at_ (show s < a by omega)
        omega

/-- Blocks of k, each sorted. -/
structure Lev (lx : α → α → Bool) (tie : α → α → Prop) (k n : Nat) (d0 d : Array α) : Prop where
  perm : PermIn 0 n d0 d
  cuts : ∀ s, k ∣ s → Cut tie n s d
  rows : ∀ s, k ∣ s → SortedIn lx s (min (s + k) n) d
theorem First.last {k n a : Nat} {d0 d d' : Array α} (h : First lx tie k n a d0 d) (hn : n ≤ d0.size) (ha : a ≤ n) (hk : n < a + k) (hp : PermIn a n d d') (hs : SortedIn lx a n d') : Lev lx tie k n d0 d' := by
  have z : d.size = d0.size := h.perm.1
  refine ⟨permIn_trans _ _ _ _ _ h.perm (permIn_mono _ _ _ _ _ _ (by omega) (Nat.le_refl _) (by omega) hp), fun s h1 => ?_, fun s h1 => ?_⟩
  · by_cases e : s ≤ a
    · exact (h.cuts s h1).perm hp (Nat.le_refl _) (by omega) (.inl e)
    · exact (h.cuts s h1).perm hp (Nat.le_refl _) (by omega) (.inr (by have := dvd_next h.at_ h1 (by omega); omega))
  · by_cases e : s < a
    · have := dvd_next h1 h.at_ e
      exact sorted_same (sorted_part (h.rows s h1 this) (Nat.le_refl _) (Nat.min_le_left _ _)) fun i h3 h4 => hp.2.1 i (by omega)
    · by_cases e2 : s = a
      · subst e2; exact sorted_part hs (Nat.le_refl _) (Nat.min_le_right _ _)
      · have := dvd_next h.at_ h1 (show a < s by omega)
        intro i j _ _ _; omega

/-- Blocks of 2 k up to a, blocks of k from there on. -/
structure Half (lx : α → α → Bool) (tie : α → α → Prop) (k n a : Nat) (d0 d : Array α) : Prop where
  perm : PermIn 0 n d0 d
  at_ : 2 * k ∣ a
  cuts2 : ∀ s, 2 * k ∣ s → Cut tie n s d
  cuts : ∀ s, k ∣ s → a ≤ s → Cut tie n s d
  rows2 : ∀ s, 2 * k ∣ s → s + 2 * k ≤ a → SortedIn lx s (s + 2 * k) d
  rows : ∀ s, k ∣ s → a ≤ s → SortedIn lx s (min (s + k) n) d
theorem dvd_two {k s : Nat} (h : 2 * k ∣ s) : k ∣ s := Nat.dvd_trans ⟨2, Nat.mul_comm _ _⟩ h
theorem Lev.half {k n : Nat} {d0 d : Array α} (h : Lev lx tie k n d0 d) : Half lx tie k n 0 d0 d :=
  ⟨h.perm, Nat.dvd_zero _, fun s h1 => h.cuts s (dvd_two h1), fun s h1 _ => h.cuts s h1, fun s _ h2 => by
    intro i j _ _ _; omega, fun s h1 _ => h.rows s h1⟩
theorem Half.next {k n a : Nat} {d0 d d' : Array α} (h : Half lx tie k n a d0 d) (hn : n ≤ d0.size) (hk : a + 2 * k ≤ n) (hp : PermIn a (a + 2 * k) d d') (hs : SortedIn lx a (a + 2 * k) d') : Half lx tie k n (a + 2 * k) d0 d' := by
  have z : d.size = d0.size := h.perm.1
  refine ⟨permIn_trans _ _ _ _ _ h.perm (permIn_mono _ _ _ _ _ _ (by omega) hk (by omega) hp), Nat.dvd_add h.at_ (Nat.dvd_refl _), fun s h1 => ?_, fun s h1 h2 => (h.cuts s h1 (by omega)).perm hp hk (by omega) (.inr h2), fun s h1 h2 => ?_, fun s h1 h2 => ?_⟩
  · by_cases e : s ≤ a
    · exact (h.cuts2 s h1).perm hp hk (by omega) (.inl e)
    · exact (h.cuts2 s h1).perm hp hk (by omega) (.inr (dvd_next h.at_ h1 (by omega)))
  · by_cases e : s < a
    · exact sorted_same (h.rows2 s h1 (dvd_next h1 h.at_ e)) fun i h3 h4 => hp.2.1 i (by have := dvd_next h1 h.at_ e; omega)
    · by_cases e2 : s = a
      · subst e2; exact hs
      · omega
  · exact sorted_same (h.rows s h1 (by omega)) fun i h3 h4 => hp.2.1 i (by omega)
theorem Half.last {k n a : Nat} {d0 d d' : Array α} (h : Half lx tie k n a d0 d) (hn : n ≤ d0.size) (ha : a ≤ n) (hk : n < a + 2 * k) (hp : PermIn a n d d') (hs : SortedIn lx a n d') : Lev lx tie (2 * k) n d0 d' := by
  have z : d.size = d0.size := h.perm.1
  refine ⟨permIn_trans _ _ _ _ _ h.perm (permIn_mono _ _ _ _ _ _ (by omega) (Nat.le_refl _) (by omega) hp), fun s h1 => ?_, fun s h1 => ?_⟩
  · by_cases e : s ≤ a
    · exact (h.cuts2 s h1).perm hp (Nat.le_refl _) (by omega) (.inl e)
    · exact (h.cuts2 s h1).perm hp (Nat.le_refl _) (by omega) (.inr (by have := dvd_next h.at_ h1 (by omega); omega))
  · by_cases e : s < a
    · have := dvd_next h1 h.at_ e
      exact sorted_same (sorted_part (h.rows2 s h1 this) (Nat.le_refl _) (Nat.min_le_left _ _)) fun i h3 h4 => hp.2.1 i (by omega)
    · by_cases e2 : s = a
      · subst e2; exact sorted_part hs (Nat.le_refl _) (Nat.min_le_right _ _)
      · have := dvd_next h.at_ h1 (show a < s by omega)
        intro i j _ _ _; omega
/-- The last blocks, where one stands alone, are sorted as they are. -/
theorem Half.alone {k n a : Nat} {d0 d : Array α} (h : Half lx tie k n a d0 d) (hn : n ≤ d0.size) (ha : a ≤ n) (hk : n ≤ a + k) (k0 : 0 < k) : Lev lx tie (2 * k) n d0 d := by
  refine h.last hn ha (by omega) (permIn_refl _ _ _) ?_
  have := h.rows a (dvd_two h.at_) (Nat.le_refl _)
  rwa [Nat.min_eq_right hk] at this
theorem Half.rowA {k n a : Nat} {d0 d : Array α} (h : Half lx tie k n a d0 d) (hk : a + k ≤ n) : SortedIn lx a (a + k) d := by
  have := h.rows a (dvd_two h.at_) (Nat.le_refl _)
  rwa [Nat.min_eq_left hk] at this
theorem Half.rowB {k n a b : Nat} {d0 d : Array α} (h : Half lx tie k n a d0 d) (hb : b ≤ a + k + k) (hb2 : b ≤ n) : SortedIn lx (a + k) b d :=
  sorted_part (h.rows (a + k) (Nat.dvd_add (dvd_two h.at_) (Nat.dvd_refl _)) (by omega)) (Nat.le_refl _) (by omega)
theorem Half.cutA {k n a : Nat} {d0 d : Array α} (h : Half lx tie k n a d0 d) : Cut tie n (a + k) d := h.cuts (a + k) (Nat.dvd_add (dvd_two h.at_) (Nat.dvd_refl _)) (by omega)
theorem Lev.sorted {k n : Nat} {d0 d : Array α} (h : Lev lx tie k n d0 d) (hk : n ≤ k) : SortedIn lx 0 n d := by
  have := h.rows 0 (Nat.dvd_zero _)
  rwa [show min (0 + k) n = n by omega] at this
theorem First.start (k n : Nat) (d : Array α) (ht : ∀ p q, p < q → q < n → tie d[p]! d[q]!) : First lx tie k n 0 d d :=
  ⟨permIn_refl _ _ _, Nat.dvd_zero _, fun s _ i j h1 h2 h3 => ht i j (by omega) h3, fun s _ i j h1 h2 h3 => ht i j (by omega) h3, fun s _ h2 i j _ _ _ => by omega⟩
end Go.Proofs.YtbiompjhenkieaaGreat

namespace Go.Proofs.YtbiompjhenkieaaGreat
open Go.RowKit Go.Sort
set_option maxRecDepth 100000
variable {α : Type} [Inhabited α]

/-- The row holds d, so many draws on. -/
structure St (v : α → Int) (w0 : World) (blk off : Nat) (d0 d : Array α) (W : World) : Prop where
  row : Holds (fun x => Value.int .i64 (v x)) w0 blk off d0
  size : d.size = d0.size
  draws : ∃ n, W = (putRow (fun x => Value.int .i64 (v x)) w0 blk off d).drewN n

theorem St.cell {v : α → Int} {w0 : World} {blk off : Nat} {d0 d : Array α} {W : World} (h : St v w0 blk off d0 d W) (t : Nat) (ht : t < d.size) : W.cell? ⟨blk, off + t, none⟩ = some (.int .i64 (v d[t]!)) := by
  obtain ⟨h0, hs, n, rfl⟩ := h
  exact cell?_putRow (fun x => Value.int .i64 (v x)) w0 blk off d0 d h0 hs t ht
theorem St.soft {v : α → Int} {w0 : World} {blk off : Nat} {d0 d : Array α} {W : World} (h : St v w0 blk off d0 d W) (t : Nat) (ht : t < d.size) : W.frozen? ⟨blk, off + t, none⟩ = false := by
  obtain ⟨h0, hs, n, rfl⟩ := h
  show (putRow (fun x => Value.int .i64 (v x)) w0 blk off d).frozen? _ = _
  rw [frozen?_putRow]
  exact (h0 t (by omega)).2
theorem St.drewN {v : α → Int} {w0 : World} {blk off : Nat} {d0 d : Array α} {W : World} (h : St v w0 blk off d0 d W) (q : Nat) : St v w0 blk off d0 d (W.drewN q) := by
  obtain ⟨h0, hs, n, rfl⟩ := h
  exact ⟨h0, hs, n + q, by rw [World.drewN_drewN]⟩
theorem St.swapped {v : α → Int} {w0 : World} {blk off : Nat} {d0 d : Array α} {W : World} (h : St v w0 blk off d0 d W) (i j : Nat) (hi : i < d.size) (hj : j < d.size) :
    St v w0 blk off d0 (swp d i j) ((W.setCell ⟨blk, off + i, none⟩ (.int .i64 (v d[j]!))).setCell ⟨blk, off + j, none⟩ (.int .i64 (v d[i]!))).drew := by
  obtain ⟨h0, hs, n, rfl⟩ := h
  exact ⟨h0, by rw [size_swp]; exact hs, n + 1, swap_worldC (fun x => Value.int .i64 (v x)) w0 blk off d n i j hi hj⟩

def SwapRange (v : α → Int) (w0 : World) (blk off a b n : Nat) (d0 d : Array α) (w' : World) : Prop := ∃ d', Swapped a b n d d' ∧ St v w0 blk off d0 d' w'

set_option maxHeartbeats 1000000 in
theorem sort_swapRange (v : α → Int) (fn : Value) (w0 w : World) (blk off cap a b n sz : Nat) (d0 d : Array α) (S : St v w0 blk off d0 d w) (hz : d.size = sz) (hab : a + n ≤ b) (hb : b + n ≤ sz) (hsz : sz < 4611686018427387904) :
    Calls Tryz.prog 120 #[.slice (some ⟨blk, off, none⟩) sz cap, .int .i64 a, .int .i64 b, .int .i64 n, fn] w fun e w' => e = .returned (.tuple #[]) ∧ SwapRange v w0 blk off a b n d0 d w' := by
  have S0 : Aside (St v w0 blk off d0 d w) := S
  have HZ := Lib.hid hz
  clear S hz
  go_enter Tryz.func120, Tryz.ntmps120
  go_wp2
  go_loopw [10] (fun vi wr => ∃ (i : Nat) (dk : Array α), vi = .int .i64 i ∧ i ≤ n ∧ Hid (dk.size = sz) ∧ Aside (Swapped a b i d dk) ∧ Aside (St v w0 blk off d0 dk wr)) (fun vi _ => n - (intOf vi).toNat)
  case atStart => exact ⟨0, d, rfl, Nat.zero_le _, HZ.out, Swapped.zero a b d, S0.out⟩
  case round =>
    clear S0
    obtain ⟨i, dk, rfl, hi, HK, SW, SK⟩ := hrel
    by_cases hlt : i < n
    · have hk := HK.out
      obtain ⟨G, hG⟩ : ∃ G : Nat → Int, ∀ t, G t = v dk[t]! := ⟨fun t => v dk[t]!, fun _ => rfl⟩
      have hcw : ∀ t, t < sz → wr.cell? ⟨blk, off + t, none⟩ = some (.int .i64 (G t)) := fun t ht => by rw [hG]; exact SK.out.cell t (by omega)
      have hfw : ∀ t, t < sz → wr.frozen? ⟨blk, off + t, none⟩ = false := fun t ht => SK.out.soft t (by omega)
      have HG := Lib.hid hG
      clear hk hG
      go_wp2
      go_region
      go_wp2
      go_roundw
      case rel =>
        refine ⟨i + 1, swp dk (a + i) (b + i), by go_num, hlt, ?_, ?_, ?_⟩
        · show _ = _
          rw [size_swp]; exact HK.out
        · exact SW.out.more (by omega) (by have := HZ.out; omega)
        · have := SK.out.swapped (a + i) (b + i) (by have := HK.out; omega) (by have := HK.out; omega)
          rw [← HG.out, ← HG.out] at this
          exact this
      case measure => simp [intOf]; omega
    · obtain rfl : i = n := by omega
      go_wp2
      go_end0
      exact ⟨rfl, dk, SW.out, SK.out⟩
end Go.Proofs.YtbiompjhenkieaaGreat

namespace Go.Proofs.YtbiompjhenkieaaGreat
open Go.RowKit Go.Sort
set_option maxRecDepth 100000
variable {α : Type} [Inhabited α]

def Rotated (v : α → Int) (w0 : World) (blk off a m b : Nat) (d0 d : Array α) (w' : World) : Prop := ∃ d', Rot a m b d d' ∧ St v w0 blk off d0 d' w'
def RotLeft (a m b i j : Nat) (d dk : Array α) : Prop := ∀ d', Rot (m - i) m (m + j) dk d' → Rot a m b d d'

set_option maxHeartbeats 1000000 in
theorem sort_rotate (v : α → Int) (fn : Value) (w0 w : World) (blk off cap a m b sz : Nat) (d0 d : Array α) (S : St v w0 blk off d0 d w) (hz : d.size = sz) (ham : a < m) (hmb : m < b) (hb : b ≤ sz) (hsz : sz < 4611686018427387904) :
    Calls Tryz.prog 119 #[.slice (some ⟨blk, off, none⟩) sz cap, .int .i64 a, .int .i64 m, .int .i64 b, fn] w fun e w' => e = .returned (.tuple #[]) ∧ Rotated v w0 blk off a m b d0 d w' := by
  have S0 : Aside (St v w0 blk off d0 d w) := S
  have HZ := Lib.hid hz
  clear S hz
  go_enter Tryz.func119, Tryz.ntmps119
  go_wp2
  go_loopw [10, 11] (fun vi vj wr => ∃ (i j : Nat) (dk : Array α), vi = .int .i64 i ∧ vj = .int .i64 j ∧ 0 < i ∧ 0 < j ∧ i + a ≤ m ∧ m + j ≤ b ∧ Hid (dk.size = sz) ∧ Aside (RotLeft a m b i j d dk) ∧ Aside (St v w0 blk off d0 dk wr)) (fun vi vj _ => (intOf vi).toNat + (intOf vj).toNat)
  case atStart =>
    refine ⟨m - a, b - m, d, by congr 1; omega, by congr 1; omega, by omega, by omega, by omega, by omega, HZ.out, ?_, S0.out⟩
    show RotLeft _ _ _ _ _ _ _
    intro d' h
    rwa [show m - (m - a) = a by omega, show m + (b - m) = b by omega] at h
  case round =>
    clear S0
    obtain ⟨i, j, dk, rfl, rfl, hi, hj, him, hjb, HK, RL, SK⟩ := hrel
    have hsi : (m : Int) - (i : Int) = ((m - i : Nat) : Int) := by omega
    by_cases hij : i = j
    · subst hij
      have HI := Lib.hid hsi
      clear hsi
      go_wp2_with fail
      rw [HI.out]
      refine (sort_swapRange v _ w0 wr blk off cap (m - i) m i sz d0 dk SK.out HK.out (by omega) (by omega) hsz).mono ?_
      rintro e w' ⟨rfl, d', SW, ST⟩
      go_wp2
      go_end0
      exact ⟨rfl, d', RL.out d' (Rot.of_swapped (by rwa [show m + i - m = i by omega]) (by omega) (by omega) (by omega)), ST⟩
    · have hne : ¬ (i : Int) = (j : Int) := by omega
      by_cases hgt : j < i
      · have hgt' : (j : Int) < (i : Int) := by omega
        have HI := Lib.hid hsi
        clear hsi
        go_wp2_with fail
        rw [HI.out]
        refine (sort_swapRange v _ w0 wr blk off cap (m - i) m j sz d0 dk SK.out HK.out (by omega) (by omega) hsz).mono ?_
        rintro e w' ⟨rfl, d', SW, ST⟩
        have A1 : Aside (Swapped (m - i) m j dk d') := SW
        have A2 : Aside (St v w0 blk off d0 d' w') := ST
        clear SW ST
        go_wp2
        go_roundw
        case rel =>
          refine ⟨i - j, j, d', by congr 1; omega, rfl, by omega, hj, by omega, hjb, A1.out.size.trans HK.out, ?_, A2.out⟩
          show RotLeft _ _ _ _ _ _ _
          intro d2 h2
          exact RL.out d2 (Rot.left_more A1.out (by rwa [show m - i + j = m - (i - j) by omega]) rfl (by omega))
        case measure => simp [intOf]; omega
      · have hgt' : ¬ (j : Int) < (i : Int) := by omega
        have hsj : (m : Int) + (j : Int) - (i : Int) = ((m + j - i : Nat) : Int) := by omega
        have HI := Lib.hid hsi
        have HJ := Lib.hid hsj
        clear hsi hsj
        go_wp2_with fail
        rw [HI.out, HJ.out]
        refine (sort_swapRange v _ w0 wr blk off cap (m - i) (m + j - i) i sz d0 dk SK.out HK.out (by omega) (by omega) hsz).mono ?_
        rintro e w' ⟨rfl, d', SW, ST⟩
        have A1 : Aside (Swapped (m - i) (m + j - i) i dk d') := SW
        have A2 : Aside (St v w0 blk off d0 d' w') := ST
        clear SW ST
        go_wp2
        go_roundw
        case rel =>
          refine ⟨i, j - i, d', rfl, by congr 1; omega, hi, by omega, him, by omega, A1.out.size.trans HK.out, ?_, A2.out⟩
          show RotLeft _ _ _ _ _ _ _
          intro d2 h2
          exact RL.out d2 (Rot.right_more A1.out (by rwa [show m + j - i = m + (j - i) by omega]) (by omega) (by omega))
        case measure => simp [intOf]; omega
end Go.Proofs.YtbiompjhenkieaaGreat

namespace Go.Proofs.YtbiompjhenkieaaGreat
open Go.RowKit Go.Sort
set_option maxRecDepth 100000
variable {α : Type} [Inhabited α]

/-- What is asked of a comparison, at whatever the row holds. -/
def Cmp (P : Program) (g : Nat) (cb : Array Value) (v : α → Int) (cf : α → α → Int) (w0 : World) (blk off : Nat) (d0 : Array α) : Prop :=
  ∀ (d : Array α) (W : World), St v w0 blk off d0 d W → ∀ x y : α, Calls P g (#[.int .i64 (v x), .int .i64 (v y)] ++ cb) W fun e w' => e = .returned (.int .i64 (cf x y)) ∧ ∃ q, w' = W.drewN q
def less (cf : α → α → Int) (x y : α) : Bool := decide (cf x y < 0)

def Inserted (v : α → Int) (cf : α → α → Int) (w0 : World) (blk off a b : Nat) (d0 d : Array α) (w' : World) : Prop := St v w0 blk off d0 (insertionSort (less cf) d a b) w'

set_option maxHeartbeats 2000000 in
theorem sort_insert (v : α → Int) (cf : α → α → Int) (g : Nat) (cb : Array Value) (w0 w : World) (blk off cap a b sz : Nat) (d0 d : Array α) (S : St v w0 blk off d0 d w)
    (eg : ∀ args w, (callFunc g args).run Tryz.prog w = .ok (.enter g args) w) (hC : Cmp Tryz.prog g cb v cf w0 blk off d0)
    (hz : d.size = sz) (hab : a ≤ b) (hb : b ≤ sz) (hsz : sz < 4611686018427387904) :
    Calls Tryz.prog 117 #[.slice (some ⟨blk, off, none⟩) sz cap, .int .i64 a, .int .i64 b, .func (.func g) #[] cb] w fun e w' => e = .returned (.tuple #[]) ∧ Inserted v cf w0 blk off a b d0 d w' := by
  have S0 : Aside (St v w0 blk off d0 d w) := S
  have HC : Aside (Cmp Tryz.prog g cb v cf w0 blk off d0) := hC
  have HZ := Lib.hid hz
  clear S hz hC
  go_enter Tryz.func117, Tryz.ntmps117
  go_wp2
  go_loopw [8] (fun vi wr => ∃ (i : Nat) (dk : Array α), vi = .int .i64 i ∧ a < i ∧ i ≤ b + 1 ∧ Hid (dk.size = sz) ∧ Hid (insOuter (less cf) a b i dk = insOuter (less cf) a b (a + 1) d) ∧ Aside (St v w0 blk off d0 dk wr)) (fun vi _ => b + 1 - (intOf vi).toNat)
  case atStart => exact ⟨a + 1, d, by go_num, by omega, by omega, HZ.out, rfl, S0.out⟩
  case round =>
    clear S0
    obtain ⟨i, dk, rfl, hai, hib, HK, HO, SK⟩ := hrel
    by_cases hlt : i < b
    · have hlt' : (i : Int) < (b : Int) := by omega
      go_wp2
      go_loopw [9] (fun vj wr2 => ∃ (j : Nat) (dj : Array α), vj = .int .i64 j ∧ a ≤ j ∧ j ≤ i ∧ Hid (dj.size = sz) ∧ Hid (insInner (less cf) a j dj = insInner (less cf) a i dk) ∧ Aside (St v w0 blk off d0 dj wr2)) (fun vj _ => (intOf vj).toNat)
      case atStart => exact ⟨i, dk, rfl, by omega, Nat.le_refl _, HK.out, rfl, SK.out⟩
      case round =>
        clear SK
        obtain ⟨j, dj, rfl, haj, hji, HJ, HI, SJ⟩ := hrel
        have OUT : Aside ((j ≤ a ∨ less cf dj[j]! dj[j - 1]! = false) → insOuter (less cf) a b (i + 1) dj = insOuter (less cf) a b (a + 1) d) := fun hs => by
          rw [← HO.out, insOuter_go _ _ _ _ _ hlt, ← HI.out, insInner_stop _ _ _ _ hs]
        by_cases hja : a < j
        · have hja' : (a : Int) < (j : Int) := by omega
          obtain ⟨jp, rfl⟩ : ∃ jp, j = jp + 1 := ⟨j - 1, by omega⟩
          have hjb : jp + 1 < sz := by omega
          obtain ⟨x, hx⟩ : ∃ x, x = dj[jp + 1]! := ⟨_, rfl⟩
          obtain ⟨y, hy⟩ : ∃ y, y = dj[jp]! := ⟨_, rfl⟩
          have hk := HJ.out
          have hcx := SJ.out.cell (jp + 1) (by omega)
          have hcy := SJ.out.cell jp (by omega)
          have hfx := SJ.out.soft (jp + 1) (by omega)
          have hfy := SJ.out.soft jp (by omega)
          rw [← hx] at hcx
          rw [← hy] at hcy
          have HX := Lib.hid hx
          have HY := Lib.hid hy
          have hcc := fun n => HC.out dj (wr.drewN n) (SJ.out.drewN n) x y
          have jz : (jp : Int) + 1 < (sz : Int) := by omega
          have jz1 : (jp : Int) < (sz : Int) := by omega
          have hja2 : (a : Int) < (jp : Int) + 1 := by omega
          have e0 : ((jp : Int) + 1).toNat = jp + 1 := by omega
          have p0 : (0 : Int) ≤ (jp : Int) + 1 := by omega
          have w1 : IntKind.i64.wrap (jp : Int) = (jp : Int) := by rw [IntKind.wrap_i64]; omega
          clear hx hy hk
          by_cases hl : cf x y < 0
          · have HL : Hid (less cf x y = true) := decide_eq_true hl
            go_wp2_with fail
            go_quiet (refine Calls.quiet_of (hcc _))
            have SJ2 : Aside (St v w0 blk off d0 dj (wr.drewN nq)) := SJ.out.drewN nq
            clear hcx hcy hfx hfy hcc SJ
            generalize wr.drewN nq = w2 at SJ2 ⊢
            obtain ⟨G, hG⟩ : ∃ G : Nat → Int, ∀ t, G t = v dj[t]! := ⟨fun t => v dj[t]!, fun _ => rfl⟩
            have hk := HJ.out
            have hcw : ∀ t, t < sz → w2.cell? ⟨blk, off + t, none⟩ = some (.int .i64 (G t)) := fun t ht => by rw [hG]; exact SJ2.out.cell t (by omega)
            have hfw : ∀ t, t < sz → w2.frozen? ⟨blk, off + t, none⟩ = false := fun t ht => SJ2.out.soft t (by omega)
            have HG := Lib.hid hG
            clear hk hG
            go_wp2_with fail
            go_region
            all_goals go_wp2
            go_roundw
            case rel =>
              refine ⟨jp, swp dj (jp + 1) jp, by first | rfl | go_num, by omega, by omega, ?_, ?_, ?_⟩
              · show _ = _
                rw [size_swp]; exact HJ.out
              · show _ = _
                have := insInner_go (less cf) a (jp + 1) dj hja (by simp only [Nat.add_sub_cancel]; rw [← HX.out, ← HY.out]; exact HL.out)
                simp only [Nat.add_sub_cancel] at this
                rw [← HI.out, this]
              · have := SJ2.out.swapped (jp + 1) jp (by have := HJ.out; omega) (by have := HJ.out; omega)
                rw [← HG.out, ← HG.out] at this
                exact this
            case measure => simp [intOf]
          · have HL : Hid (less cf x y = false) := decide_eq_false hl
            have hl' : decide (cf x y < 0) = false := decide_eq_false hl
            go_wp2_with fail
            go_quiet (refine Calls.quiet_of (hcc _))
            have SJ2 : Aside (St v w0 blk off d0 dj (wr.drewN nq)) := SJ.out.drewN nq
            clear hcx hcy hfx hfy hcc SJ
            generalize wr.drewN nq = w2 at SJ2 ⊢
            go_wp2
            go_roundw
            case rel =>
              refine ⟨i + 1, dj, by go_num, by omega, by omega, HJ.out, ?_, SJ2.out⟩
              show _ = _
              exact OUT.out (.inr (by simp only [Nat.add_sub_cancel]; rw [← HX.out, ← HY.out]; exact HL.out))
            case measure => simp [intOf]; omega
        · obtain rfl : j = a := by omega
          have hja' : decide ((j : Int) < (j : Int)) = false := decide_eq_false (by omega)
          have SJ1 := SJ
          go_wp2_with fail
          go_quiet (fail)
          have SJ2 : Aside (St v w0 blk off d0 dj (wr.drewN nq)) := SJ1.out.drewN nq
          clear SJ SJ1
          generalize wr.drewN nq = w2 at SJ2 ⊢
          go_wp2
          go_roundw
          case rel =>
            refine ⟨i + 1, dj, by go_num, by omega, by omega, HJ.out, ?_, SJ2.out⟩
            show _ = _
            exact OUT.out (.inl (Nat.le_refl _))
          case measure => simp [intOf]; omega
    · go_wp2
      go_end0
      refine ⟨rfl, ?_⟩
      show St _ _ _ _ _ _ _
      unfold Sort.insertionSort
      rw [← HO.out, insOuter_stop _ _ _ _ _ hlt]
      exact SK.out
end Go.Proofs.YtbiompjhenkieaaGreat

namespace Go.Proofs.YtbiompjhenkieaaGreat
open Go.RowKit Go.Sort
set_option maxRecDepth 100000
variable {α : Type} [Inhabited α]

def Merged (v : α → Int) (lx : α → α → Bool) (w0 : World) (blk off a b : Nat) (d0 d : Array α) (w' : World) : Prop := ∃ d', PermIn a b d d' ∧ SortedIn lx a b d' ∧ St v w0 blk off d0 d' w'
/-- What an index i is that a search has come to, from the left and from the right. -/
def Lo (lx : α → α → Bool) (d : Array α) (a m i : Nat) : Prop := i = m ∨ lx d[i - 1]! d[a]! = true
def Hi (lx : α → α → Bool) (d : Array α) (a b j : Nat) : Prop := j = b ∨ lx d[j]! d[a]! = false

set_option maxHeartbeats 2000000 in
theorem sort_merge1 (v : α → Int) (cf : α → α → Int) (lx : α → α → Bool) (tie : α → α → Prop) (T : Two (less cf) lx tie) (g : Nat) (cb : Array Value) (w0 w : World) (blk off cap a m b sz : Nat) (d0 d : Array α) (S : St v w0 blk off d0 d w)
    (eg : ∀ args w, (callFunc g args).run Tryz.prog w = .ok (.enter g args) w) (hC : Cmp Tryz.prog g cb v cf w0 blk off d0)
    (hz : d.size = sz) (ham : m = a + 1) (hmb : m < b) (hb : b ≤ sz) (hsz : sz < 4611686018427387904) (h2 : SortedIn lx m b d) (ht : Tie tie a m b d) :
    Calls Tryz.prog 118 #[.slice (some ⟨blk, off, none⟩) sz cap, .int .i64 a, .int .i64 m, .int .i64 b, .func (.func g) #[] cb] w fun e w' => e = .returned (.tuple #[]) ∧ Merged v lx w0 blk off a b d0 d w' := by
  have S0 : Aside (St v w0 blk off d0 d w) := S
  have HC : Aside (Cmp Tryz.prog g cb v cf w0 blk off d0) := hC
  have HZ := Lib.hid hz
  have H2 : Aside (SortedIn lx m b d) := h2
  have HT : Aside (Tie tie a m b d) := ht
  have HM := Lib.hid ham
  have h1 : (m : Int) - (a : Int) = 1 := by omega
  have ham' : a < m := by omega
  clear S hz hC h2 ht ham
  go_enter Tryz.func118, Tryz.ntmps118
  go_wp2
  clear h1
  go_loopw [10, 11] (fun vi vj wr => ∃ (i j : Nat), vi = .int .i64 i ∧ vj = .int .i64 j ∧ m ≤ i ∧ i ≤ j ∧ j ≤ b ∧ Aside (Lo lx d a m i) ∧ Aside (Hi lx d a b j) ∧ Aside (St v w0 blk off d0 d wr)) (fun vi vj _ => (intOf vj).toNat - (intOf vi).toNat)
  case atStart => exact ⟨m, b, rfl, rfl, Nat.le_refl _, by omega, Nat.le_refl _, .inl rfl, .inl rfl, S0.out⟩
  case round =>
    clear S0
    obtain ⟨i, j, rfl, rfl, hmi, hij, hjb, LO, HI, SK⟩ := hrel
    by_cases hlt : i < j
    · have hlt' : (i : Int) < (j : Int) := by omega
      obtain ⟨h, hh⟩ : ∃ h, h = (i + j) / 2 := ⟨_, rfl⟩
      have hhi : i ≤ h := by omega
      have hhj : h < j := by omega
      have e2 : ((i : Int) + (j : Int)) / 2 = (h : Int) := by omega
      have HH := Lib.hid hh
      have E2 := Lib.hid e2
      clear hh e2
      go_wp2
      rw [E2.out]
      obtain ⟨x, hx⟩ : ∃ x, x = d[h]! := ⟨_, rfl⟩
      obtain ⟨y, hy⟩ : ∃ y, y = d[a]! := ⟨_, rfl⟩
      have hk := HZ.out
      have hcx := SK.out.cell h (by omega)
      have hcy := SK.out.cell a (by omega)
      rw [← hx] at hcx
      rw [← hy] at hcy
      have hcc := fun n => HC.out d (wr.drewN n) (SK.out.drewN n) x y
      have hle : less cf x y = lx x y := T.late _ _ (by rw [hx, hy]; exact HT.out a h (Nat.le_refl _) (by omega) (by omega) (by omega))
      have HX := Lib.hid hx
      have HY := Lib.hid hy
      have HLE := Lib.hid hle
      have jz : (h : Int) < (sz : Int) := by omega
      have jz1 : (a : Int) < (sz : Int) := by omega
      clear hx hy hk hle
      by_cases hl : cf x y < 0
      · have HL : Hid (less cf x y = true) := decide_eq_true hl
        go_wp2_with fail
        go_quiet (refine Calls.quiet_of (hcc _))
        have SJ2 : Aside (St v w0 blk off d0 d (wr.drewN nq)) := SK.out.drewN nq
        clear hcx hcy hcc SK
        generalize wr.drewN nq = w2 at SJ2 ⊢
        go_wp2
        go_roundw
        case rel =>
          refine ⟨h + 1, j, by go_num, rfl, by omega, by omega, hjb, ?_, HI.out, SJ2.out⟩
          show Lo _ _ _ _ _
          refine .inr ?_
          rw [Nat.add_sub_cancel, ← HX.out, ← HY.out, ← HLE.out]
          exact HL.out
        case measure => simp [intOf]; omega
      · have HL : Hid (less cf x y = false) := decide_eq_false hl
        have hl' : decide (cf x y < 0) = false := decide_eq_false hl
        go_wp2_with fail
        go_quiet (refine Calls.quiet_of (hcc _))
        have SJ2 : Aside (St v w0 blk off d0 d (wr.drewN nq)) := SK.out.drewN nq
        clear hcx hcy hcc SK
        generalize wr.drewN nq = w2 at SJ2 ⊢
        go_wp2
        go_roundw
        case rel =>
          refine ⟨i, h, rfl, rfl, hmi, hhi, by omega, LO.out, ?_, SJ2.out⟩
          show Hi _ _ _ _ _
          refine .inr ?_
          rw [← HX.out, ← HY.out, ← HLE.out]
          exact HL.out
        case measure => simp [intOf]; omega
    · obtain rfl : i = j := by omega
      go_wp2
      go_loopw [13] (fun vk wr => ∃ (k : Nat) (dk : Array α), vk = .int .i64 k ∧ a ≤ k ∧ k + 1 ≤ i ∧ Hid (dk.size = sz) ∧ Aside (Rot a (a + 1) (k + 1) d dk) ∧ Aside (St v w0 blk off d0 dk wr)) (fun vk _ => i - (intOf vk).toNat)
      case atStart => exact ⟨a, d, rfl, Nat.le_refl _, by omega, HZ.out, Rot.noRight a (a + 1) d, SK.out⟩
      case round =>
        clear SK
        obtain ⟨k, dk, rfl, hak, hki, HK, RK, SK⟩ := hrel
        by_cases hlt2 : k + 1 < i
        · have hlt3 : (k : Int) < (i : Int) - 1 := by omega
          obtain ⟨G, hG⟩ : ∃ G : Nat → Int, ∀ t, G t = v dk[t]! := ⟨fun t => v dk[t]!, fun _ => rfl⟩
          have hk := HK.out
          have hcw : ∀ t, t < sz → wr.cell? ⟨blk, off + t, none⟩ = some (.int .i64 (G t)) := fun t ht => by rw [hG]; exact SK.out.cell t (by omega)
          have hfw : ∀ t, t < sz → wr.frozen? ⟨blk, off + t, none⟩ = false := fun t ht => SK.out.soft t (by omega)
          have HG := Lib.hid hG
          clear hk hG
          go_wp2
          go_region
          all_goals go_wp2
          go_roundw
          case rel =>
            refine ⟨k + 1, swp dk k (k + 1), by go_num, by omega, by omega, ?_, ?_, ?_⟩
            · show _ = _
              rw [size_swp]; exact HK.out
            · exact RK.out.stepRight hak (by have := HZ.out; omega)
            · have := SK.out.swapped k (k + 1) (by have := HK.out; omega) (by have := HK.out; omega)
              rw [← HG.out, ← HG.out] at this
              exact this
          case measure => simp [intOf]; omega
        · obtain rfl : i = k + 1 := by omega
          have hlt3 : ¬ (k : Int) < ((k + 1 : Nat) : Int) - 1 := by omega
          go_wp2
          (try simp only [Exit.inBlock, Exit.then])
          refine bodyPost_ret (results_none rfl _ _ _) rfl ?_
          have hm := HM.out
          have hz := HZ.out
          subst hm
          exact ⟨rfl, dk, permIn_mono _ _ _ _ _ _ (Nat.le_refl _) hjb (by omega) (RK.out.perm (by omega) (by omega) (by omega)), one_right T.swo H2.out RK.out hmi hjb LO.out HI.out, SK.out⟩
end Go.Proofs.YtbiompjhenkieaaGreat

namespace Go.Proofs.YtbiompjhenkieaaGreat
open Go.RowKit Go.Sort
set_option maxRecDepth 100000
variable {α : Type} [Inhabited α]

def Lo2 (lx : α → α → Bool) (d : Array α) (a m i : Nat) : Prop := i = a ∨ lx d[m]! d[i - 1]! = false
def Hi2 (lx : α → α → Bool) (d : Array α) (m j : Nat) : Prop := j = m ∨ lx d[m]! d[j]! = true

set_option maxHeartbeats 2000000 in
theorem sort_merge2 (v : α → Int) (cf : α → α → Int) (lx : α → α → Bool) (tie : α → α → Prop) (T : Two (less cf) lx tie) (g : Nat) (cb : Array Value) (w0 w : World) (blk off cap a m b sz : Nat) (d0 d : Array α) (S : St v w0 blk off d0 d w)
    (eg : ∀ args w, (callFunc g args).run Tryz.prog w = .ok (.enter g args) w) (hC : Cmp Tryz.prog g cb v cf w0 blk off d0)
    (hz : d.size = sz) (ham : a + 1 < m) (hmb : b = m + 1) (hb : b ≤ sz) (hsz : sz < 4611686018427387904) (h1 : SortedIn lx a m d) (ht : Tie tie a m b d) :
    Calls Tryz.prog 118 #[.slice (some ⟨blk, off, none⟩) sz cap, .int .i64 a, .int .i64 m, .int .i64 b, .func (.func g) #[] cb] w fun e w' => e = .returned (.tuple #[]) ∧ Merged v lx w0 blk off a b d0 d w' := by
  have S0 : Aside (St v w0 blk off d0 d w) := S
  have HC : Aside (Cmp Tryz.prog g cb v cf w0 blk off d0) := hC
  have HZ := Lib.hid hz
  have H1 : Aside (SortedIn lx a m d) := h1
  have HT : Aside (Tie tie a m b d) := ht
  have HM := Lib.hid hmb
  have h2 : (b : Int) - (m : Int) = 1 := by omega
  have h3 : ((m : Int) - (a : Int) == 1) = false := by simp; omega
  have h4 : ¬ (m : Int) - (a : Int) = 1 := by omega
  have hmb' : m < b := by omega
  clear S hz hC h1 ht hmb
  go_enter Tryz.func118, Tryz.ntmps118
  go_wp2
  clear h2 h3
  go_loopw [14, 15] (fun vi vj wr => ∃ (i j : Nat), vi = .int .i64 i ∧ vj = .int .i64 j ∧ a ≤ i ∧ i ≤ j ∧ j ≤ m ∧ Aside (Lo2 lx d a m i) ∧ Aside (Hi2 lx d m j) ∧ Aside (St v w0 blk off d0 d wr)) (fun vi vj _ => (intOf vj).toNat - (intOf vi).toNat)
  case atStart => exact ⟨a, m, rfl, rfl, Nat.le_refl _, by omega, Nat.le_refl _, .inl rfl, .inl rfl, S0.out⟩
  case round =>
    clear S0
    obtain ⟨i, j, rfl, rfl, hmi, hij, hjb, LO, HI, SK⟩ := hrel
    by_cases hlt : i < j
    · have hlt' : (i : Int) < (j : Int) := by omega
      obtain ⟨h, hh⟩ : ∃ h, h = (i + j) / 2 := ⟨_, rfl⟩
      have hhi : i ≤ h := by omega
      have hhj : h < j := by omega
      have e2 : ((i : Int) + (j : Int)) / 2 = (h : Int) := by omega
      have HH := Lib.hid hh
      have E2 := Lib.hid e2
      clear hh e2
      go_wp2
      rw [E2.out]
      obtain ⟨x, hx⟩ : ∃ x, x = d[m]! := ⟨_, rfl⟩
      obtain ⟨y, hy⟩ : ∃ y, y = d[h]! := ⟨_, rfl⟩
      have hk := HZ.out
      have hcx := SK.out.cell m (by omega)
      have hcy := SK.out.cell h (by omega)
      rw [← hx] at hcx
      rw [← hy] at hcy
      have hcc := fun n => HC.out d (wr.drewN n) (SK.out.drewN n) x y
      have hle : less cf x y = lx x y := T.late _ _ (by rw [hx, hy]; exact HT.out h m (by omega) (by omega) (Nat.le_refl _) (by omega))
      have HX := Lib.hid hx
      have HY := Lib.hid hy
      have HLE := Lib.hid hle
      have jz : (h : Int) < (sz : Int) := by omega
      have jz1 : (m : Int) < (sz : Int) := by omega
      clear hx hy hk hle
      by_cases hl : cf x y < 0
      · have HL : Hid (less cf x y = true) := decide_eq_true hl
        go_wp2_with fail
        go_quiet (refine Calls.quiet_of (hcc _))
        have SJ2 : Aside (St v w0 blk off d0 d (wr.drewN nq)) := SK.out.drewN nq
        clear hcx hcy hcc SK
        generalize wr.drewN nq = w2 at SJ2 ⊢
        go_wp2
        go_roundw
        case rel =>
          refine ⟨i, h, rfl, rfl, hmi, hhi, by omega, LO.out, ?_, SJ2.out⟩
          show Hi2 _ _ _ _
          refine .inr ?_
          rw [← HX.out, ← HY.out, ← HLE.out]
          exact HL.out
        case measure => simp [intOf]; omega
      · have HL : Hid (less cf x y = false) := decide_eq_false hl
        have hl' : decide (cf x y < 0) = false := decide_eq_false hl
        go_wp2_with fail
        go_quiet (refine Calls.quiet_of (hcc _))
        have SJ2 : Aside (St v w0 blk off d0 d (wr.drewN nq)) := SK.out.drewN nq
        clear hcx hcy hcc SK
        generalize wr.drewN nq = w2 at SJ2 ⊢
        go_wp2
        go_roundw
        case rel =>
          refine ⟨h + 1, j, by go_num, rfl, by omega, by omega, hjb, ?_, HI.out, SJ2.out⟩
          show Lo2 _ _ _ _ _
          refine .inr ?_
          rw [Nat.add_sub_cancel, ← HX.out, ← HY.out, ← HLE.out]
          exact HL.out
        case measure => simp [intOf]; omega
    · obtain rfl : i = j := by omega
      go_wp2
      go_loopw [17] (fun vk wr => ∃ (k : Nat) (dk : Array α), vk = .int .i64 k ∧ i ≤ k ∧ k ≤ m ∧ Hid (dk.size = sz) ∧ Aside (Rot k m (m + 1) d dk) ∧ Aside (St v w0 blk off d0 dk wr)) (fun vk _ => (intOf vk).toNat)
      case atStart => exact ⟨m, d, rfl, by omega, Nat.le_refl _, HZ.out, Rot.noLeft m (m + 1) d, SK.out⟩
      case round =>
        clear SK
        obtain ⟨k, dk, rfl, hak, hki, HK, RK, SK⟩ := hrel
        by_cases hlt2 : i < k
        · obtain ⟨kp, rfl⟩ : ∃ kp, k = kp + 1 := ⟨k - 1, by omega⟩
          have hlt3 : (i : Int) < (kp : Int) + 1 := by omega
          obtain ⟨G, hG⟩ : ∃ G : Nat → Int, ∀ t, G t = v dk[t]! := ⟨fun t => v dk[t]!, fun _ => rfl⟩
          have hk := HK.out
          have hcw : ∀ t, t < sz → wr.cell? ⟨blk, off + t, none⟩ = some (.int .i64 (G t)) := fun t ht => by rw [hG]; exact SK.out.cell t (by omega)
          have hfw : ∀ t, t < sz → wr.frozen? ⟨blk, off + t, none⟩ = false := fun t ht => SK.out.soft t (by omega)
          have HG := Lib.hid hG
          have w1 : IntKind.i64.wrap (kp : Int) = (kp : Int) := by rw [IntKind.wrap_i64]; omega
          clear hk hG
          go_wp2
          go_region
          all_goals go_wp2
          go_roundw
          case rel =>
            refine ⟨kp, swp dk (kp + 1) kp, by first | rfl | go_num, by omega, by omega, ?_, ?_, ?_⟩
            · show _ = _
              rw [size_swp]; exact HK.out
            · exact RK.out.stepLeft hki (by have := HZ.out; omega)
            · have := SK.out.swapped (kp + 1) kp (by have := HK.out; omega) (by have := HK.out; omega)
              rw [← HG.out, ← HG.out] at this
              exact this
          case measure => simp [intOf]
        · obtain rfl : k = i := by omega
          have hlt3 : ¬ (k : Int) < (k : Int) := by omega
          go_wp2
          (try simp only [Exit.inBlock, Exit.then])
          refine bodyPost_ret (results_none rfl _ _ _) rfl ?_
          have hm := HM.out
          have hz := HZ.out
          subst hm
          exact ⟨rfl, dk, permIn_mono _ _ _ _ _ _ hmi (Nat.le_refl _) (by omega) (RK.out.perm (by omega) (by omega) (by omega)), one_left T.swo H1.out RK.out hmi hki LO.out HI.out, SK.out⟩
end Go.Proofs.YtbiompjhenkieaaGreat
