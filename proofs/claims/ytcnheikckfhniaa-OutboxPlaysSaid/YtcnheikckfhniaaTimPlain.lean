/-
  Timers by day and number: their order; heaps of them in a list (a parent is not behind its children); what an exchange does, on the way up and on the way down. Program-independent. Conditions: those of each theorem.
-/
import Derived.Test.YtcnheikckfhniaaBase
namespace Go.Proofs.Ytcnheikckfhniaa
set_option maxRecDepth 100000

/-- A timer: its day, and its number. -/
abbrev Tm := Int × Int
def tlt (a b : Tm) : Bool := decide (a.1 < b.1 ∨ (a.1 = b.1 ∧ a.2 < b.2))
theorem tlt_iff {a b : Tm} : tlt a b = true ↔ (a.1 < b.1 ∨ (a.1 = b.1 ∧ a.2 < b.2)) := by simp [tlt]
theorem tge_iff {a b : Tm} : tlt a b = false ↔ (b.1 < a.1 ∨ (b.1 = a.1 ∧ b.2 ≤ a.2)) := by
  unfold tlt
  rw [decide_eq_false_iff_not]
  omega
theorem tlt_self (a : Tm) : tlt a a = false := by rw [tge_iff]; omega
theorem tge_of_lt {a b : Tm} (h : tlt a b = true) : tlt b a = false := by rw [tge_iff]; rw [tlt_iff] at h; omega
/-- b is not behind c, a is not behind b: a is not behind c. -/
theorem tge_trans {a b c : Tm} (h : tlt b a = false) (k : tlt c b = false) : tlt c a = false := by rw [tge_iff] at *; omega
theorem tlt_trans {a b c : Tm} (h : tlt a b = true) (k : tlt b c = true) : tlt a c = true := by rw [tlt_iff] at *; omega
theorem tlt_ge_trans {a b c : Tm} (h : tlt a b = true) (k : tlt c b = false) : tlt a c = true := by rw [tge_iff] at k; rw [tlt_iff] at *; omega
def tcmp (a b : Tm) : Int := if a.1 < b.1 then -1 else if b.1 < a.1 then 1 else if a.2 < b.2 then -1 else if b.2 < a.2 then 1 else 0
theorem tcmp_neg (a b : Tm) : decide (tcmp a b < 0) = tlt a b := by
  unfold tcmp tlt
  by_cases h1 : a.1 < b.1
  · simp [h1]
  · by_cases h2 : b.1 < a.1
    · rw [if_neg h1, if_pos h2]
      have : ¬ (a.1 < b.1 ∨ (a.1 = b.1 ∧ a.2 < b.2)) := by omega
      simp [this]
    · have e : a.1 = b.1 := by omega
      rw [if_neg h1, if_neg h2]
      by_cases h3 : a.2 < b.2
      · simp [h3, e]
      · by_cases h4 : b.2 < a.2 <;> simp [h3, h4, e]

def tget (xs : List Tm) (i : Nat) : Tm := xs.getD i (0, 0)
def tswp (xs : List Tm) (i j : Nat) : List Tm := (xs.set i (tget xs j)).set j (tget xs i)
theorem tget_eq {xs : List Tm} {i : Nat} (h : i < xs.length) : tget xs i = xs[i] := by simp [tget, List.getD, h]
@[simp] theorem tswp_length (xs : List Tm) (i j : Nat) : (tswp xs i j).length = xs.length := by simp [tswp]
theorem tget_set {xs : List Tm} {i : Nat} (hi : i < xs.length) (x : Tm) (k : Nat) : tget (xs.set i x) k = if k = i then x else tget xs k := by
  unfold tget
  simp only [List.getD, List.getElem?_set]
  by_cases h : i = k
  · subst h; simp [hi]
  · simp [h, Ne.symm h]
theorem tget_swp {xs : List Tm} {i j : Nat} (hi : i < xs.length) (hj : j < xs.length) (k : Nat) : tget (tswp xs i j) k = if k = j then tget xs i else if k = i then tget xs j else tget xs k := by
  unfold tswp
  rw [tget_set (by simpa using hj), tget_set hi]
theorem tswp_perm {xs : List Tm} {i j : Nat} (hi : i < xs.length) (hj : j < xs.length) : (tswp xs i j).Perm xs := by
  unfold tswp
  rw [tget_eq hi, tget_eq hj]
  exact List.set_set_perm hi hj
theorem tget_append {xs : List Tm} {x : Tm} (k : Nat) : tget (xs ++ [x]) k = if k = xs.length then x else tget xs k := by
  unfold tget
  simp only [List.getD]
  by_cases h : k < xs.length
  · rw [List.getElem?_append_left h, if_neg (by omega)]
  · rw [List.getElem?_append_right (by omega)]
    by_cases e : k = xs.length
    · subst e; simp
    · rw [if_neg e, List.getElem?_eq_none (by simp; omega), List.getElem?_eq_none (by omega)]
theorem tget_take {xs : List Tm} {n : Nat} (k : Nat) (h : k < n) : tget (xs.take n) k = tget xs k := by
  unfold tget
  simp only [List.getD]
  rw [List.getElem?_take, if_pos h]
theorem mem_tget {xs : List Tm} {x : Tm} : x ∈ xs ↔ ∃ i, i < xs.length ∧ tget xs i = x := by
  rw [List.mem_iff_getElem]
  constructor
  · rintro ⟨i, hi, rfl⟩; exact ⟨i, hi, tget_eq hi⟩
  · rintro ⟨i, hi, e⟩; exact ⟨i, hi, by rw [← tget_eq hi]; exact e⟩

def par (k : Nat) : Nat := (k - 1) / 2
/-- The first n of them are a heap. -/
def HeapTo (xs : List Tm) (n : Nat) : Prop := ∀ k, 0 < k → k < n → tlt (tget xs k) (tget xs (par k)) = false
/-- .. but j may be ahead of its parent. -/
structure UpAt (xs : List Tm) (n j : Nat) : Prop where
  but : ∀ k, 0 < k → k < n → k ≠ j → tlt (tget xs k) (tget xs (par k)) = false
  gr : 0 < j → ∀ c, 0 < c → c < n → par c = j → tlt (tget xs c) (tget xs (par j)) = false
/-- .. but i may be behind its children; where it is i0 it may be ahead of its parent, too. -/
structure DownAt (xs : List Tm) (n i0 i : Nat) : Prop where
  but : ∀ k, 0 < k → k < n → k ≠ i → par k ≠ i → tlt (tget xs k) (tget xs (par k)) = false
  gr : 0 < i → ∀ c, 0 < c → c < n → par c = i → tlt (tget xs c) (tget xs (par i)) = false
  le : i0 ≤ i
  own : i ≠ i0 → 0 < i ∧ tlt (tget xs i) (tget xs (par i)) = false

theorem HeapTo.least {xs : List Tm} {n : Nat} (h : HeapTo xs n) : ∀ k, k < n → tlt (tget xs k) (tget xs 0) = false := by
  intro k
  induction k using Nat.strongRecOn with
  | ind k ih =>
    intro hk
    by_cases h0 : k = 0
    · subst h0; exact tlt_self _
    · have hp : par k < k := by unfold par; omega
      exact tge_trans (ih (par k) hp (by omega)) (h k (by omega) hk)
theorem HeapTo.less {xs : List Tm} {n m : Nat} (h : HeapTo xs n) (hm : m ≤ n) : HeapTo xs m := fun k h0 hk => h k h0 (by omega)
theorem HeapTo.congr {xs ys : List Tm} {n : Nat} (h : HeapTo xs n) (e : ∀ k, k < n → tget ys k = tget xs k) : HeapTo ys n := fun k h0 hk => by
  have hp : par k < k := by unfold par; omega
  rw [e k hk, e (par k) (by omega)]
  exact h k h0 hk

theorem UpAt.done {xs : List Tm} {n j : Nat} (h : UpAt xs n j) (hd : j = 0 ∨ tlt (tget xs j) (tget xs (par j)) = false) : HeapTo xs n := by
  intro k h0 hk
  by_cases e : k = j
  · subst e
    rcases hd with hd | hd
    · omega
    · exact hd
  · exact h.but k h0 hk e
theorem UpAt.step {xs : List Tm} {n j : Nat} (h : UpAt xs n j) (h0 : 0 < j) (hj : j < n) (hn : n ≤ xs.length) (hl : tlt (tget xs j) (tget xs (par j)) = true) : UpAt (tswp xs (par j) j) n (par j) := by
  have hp : par j < j := by unfold par; omega
  have G := fun k => tget_swp (xs := xs) (i := par j) (j := j) (by omega) (by omega) k
  constructor
  · intro k k0 kn kp
    have hpk : par k < k := by unfold par; omega
    rw [G k, G (par k)]
    by_cases e : k = j
    · subst e
      rw [if_pos rfl, if_neg (by omega), if_pos rfl]
      exact tge_of_lt hl
    · rw [if_neg e, if_neg kp]
      by_cases e1 : par k = j
      · rw [if_pos e1]
        exact h.gr h0 k k0 kn e1
      · rw [if_neg e1]
        by_cases e2 : par k = par j
        · rw [if_pos e2]
          have := h.but k k0 kn e
          rw [e2] at this
          exact tge_trans (tge_of_lt hl) this
        · rw [if_neg e2]
          exact h.but k k0 kn e
  · intro p0 c c0 cn cp
    have hpp : par (par j) < par j := by unfold par at *; omega
    rw [G c, G (par (par j)), if_neg (by omega : par (par j) ≠ j), if_neg (by omega : par (par j) ≠ par j)]
    have hx := h.but (par j) p0 (by omega) (by omega)
    by_cases e : c = j
    · rw [if_pos e]; exact hx
    · have : c ≠ par j := by intro e2; rw [e2] at cp; omega
      rw [if_neg e, if_neg this]
      have := h.but c c0 cn e
      rw [cp] at this
      exact tge_trans hx this

theorem DownAt.start {xs ys : List Tm} {n i : Nat} (h : HeapTo xs n) (e : ∀ k, k < n → k ≠ i → tget ys k = tget xs k) (hi : i < n) : DownAt ys n i i := by
  refine ⟨fun k k0 kn ki pi => ?_, fun i0 c c0 cn ci => ?_, Nat.le_refl _, fun x => absurd rfl x⟩
  · have hp : par k < k := by unfold par; omega
    rw [e k kn ki, e (par k) (by omega) pi]
    exact h k k0 kn
  · have hp : par i < i := by unfold par; omega
    have hc : par c < c := by unfold par; omega
    rw [e c cn (by omega), e (par i) (by omega) (by omega)]
    have h1 := h c c0 cn
    rw [ci] at h1
    exact tge_trans (h i i0 hi) h1
theorem DownAt.done {xs : List Tm} {n i0 i : Nat} (h : DownAt xs n i0 i) (hc : ∀ c, 0 < c → c < n → par c = i → tlt (tget xs c) (tget xs i) = false) : (i ≠ i0 → HeapTo xs n) ∧ (i = i0 → UpAt xs n i0) := by
  constructor
  · intro hne k k0 kn
    by_cases e : k = i
    · subst e; exact (h.own hne).2
    · by_cases e2 : par k = i
      · rw [e2]; exact hc k k0 kn e2
      · exact h.but k k0 kn e e2
  · rintro rfl
    refine ⟨fun k k0 kn ki => ?_, h.gr⟩
    by_cases e2 : par k = i
    · rw [e2]; exact hc k k0 kn e2
    · exact h.but k k0 kn ki e2
theorem DownAt.step {xs : List Tm} {n i0 i j : Nat} (h : DownAt xs n i0 i) (hj : 0 < j) (hn : j < n) (hp : par j = i) (hx : n ≤ xs.length) (hs : ∀ c, 0 < c → c < n → par c = i → tlt (tget xs c) (tget xs j) = false) (hl : tlt (tget xs j) (tget xs i) = true) : DownAt (tswp xs i j) n i0 j := by
  have hij : i < j := by rw [← hp]; unfold par; omega
  have G := fun k => tget_swp (xs := xs) (i := i) (j := j) (by omega) (by omega) k
  refine ⟨fun k k0 kn kj pj => ?_, fun _ c c0 cn cj => ?_, by have := h.le; omega, fun _ => ⟨hj, ?_⟩⟩
  · have hpk : par k < k := by unfold par; omega
    rw [G k, G (par k), if_neg kj, if_neg pj]
    by_cases e : k = i
    · subst e
      rw [if_pos rfl, if_neg (by omega)]
      exact h.gr k0 j hj hn hp
    · rw [if_neg e]
      by_cases e2 : par k = i
      · rw [if_pos e2]; exact hs k k0 kn e2
      · rw [if_neg e2]; exact h.but k k0 kn e e2
  · have hpc : par c < c := by unfold par; omega
    rw [G c, G (par j), if_neg (by omega), if_neg (by omega), hp, if_neg (by omega), if_pos rfl]
    have := h.but c c0 cn (by omega) (by omega)
    rw [cj] at this
    exact this
  · rw [G j, if_pos rfl, hp, G i, if_neg (by omega), if_pos rfl]
    exact tge_of_lt hl
theorem DownAt.zero {xs ys : List Tm} {n : Nat} (h : HeapTo xs n) (e : ∀ k, k < n → k ≠ 0 → tget ys k = tget xs k) : DownAt ys n 0 0 := by
  refine ⟨fun k k0 kn ki pi => ?_, fun i0 => absurd i0 (Nat.lt_irrefl 0), Nat.le_refl _, fun x => absurd rfl x⟩
  have hp : par k < k := by unfold par; omega
  rw [e k kn ki, e (par k) (by omega) pi]
  exact h k k0 kn
theorem take_last {xs : List Tm} {n : Nat} (h : xs.length = n + 1) : xs.take n ++ [tget xs n] = xs := by
  have e : tget xs n = xs[n] := tget_eq (by omega)
  rw [e]
  have := List.take_append_getElem (l := xs) (i := n) (by omega)
  rw [this]
  exact List.take_of_length_le (by omega)
theorem UpAt.pushed {xs : List Tm} (h : HeapTo xs xs.length) (x : Tm) : UpAt (xs ++ [x]) (xs.length + 1) xs.length := by
  refine ⟨fun k k0 kn ki => ?_, fun _ c c0 cn cp => ?_⟩
  · have hp : par k < k := by unfold par; omega
    rw [tget_append, tget_append, if_neg ki, if_neg (by omega)]
    exact h k k0 (by omega)
  · have hp : par c < c := by unfold par; omega
    omega
theorem HeapTo.of_up0 {xs : List Tm} {n : Nat} (h : UpAt xs n 0) : HeapTo xs n := h.done (.inl rfl)
end Go.Proofs.Ytcnheikckfhniaa
