/-
  The library's Clone, of orders, of lines, of supplies, of policies. Conditions: those of each theorem.
-/
import Derived.Test.YtbiompjhenkieaaGreatOrdInO
import Derived.Test.YtbiompjhenkieaaGreatUnitX
namespace Go.Proofs.YtbiompjhenkieaaGreat
open Go.RowKit
set_option maxRecDepth 100000

/-- Rows of cells, one behind the other. -/
def flatCells (cs : List (Array Value)) : List Value := (cs.map Array.toList).flatten
theorem flat_length {sz : Nat} : ∀ {cs : List (Array Value)}, (∀ c ∈ cs, c.size = sz) → (flatCells cs).length = cs.length * sz
  | [], _ => by simp [flatCells]
  | c :: cs, h => by
    have ih := flat_length (cs := cs) (fun x hx => h x (List.mem_cons_of_mem _ hx))
    have h1 := h c (List.mem_cons_self ..)
    simp only [flatCells, List.map_cons, List.flatten_cons, List.length_append, List.length_cons, Array.length_toList] at ih ⊢
    rw [ih, h1, Nat.add_mul, Nat.one_mul, Nat.add_comm]
theorem flat_get {sz : Nat} : ∀ {cs : List (Array Value)}, (∀ c ∈ cs, c.size = sz) → ∀ (i : Nat) (h : i < cs.length) (j : Nat) (v : Value), cs[i][j]? = some v → (flatCells cs)[i * sz + j]? = some v
  | c :: cs, h, 0, _, j, v, hv => by
    have h1 := h c (List.mem_cons_self ..)
    have hj : j < c.size := (Array.getElem?_eq_some_iff.1 hv).1
    show (c.toList ++ flatCells cs)[0 * sz + j]? = some v
    rw [Nat.zero_mul, Nat.zero_add, List.getElem?_append_left (by simpa using hj), Array.getElem?_toList]
    exact hv
  | c :: cs, h, i + 1, hi, j, v, hv => by
    have h1 := h c (List.mem_cons_self ..)
    show (c.toList ++ flatCells cs)[(i + 1) * sz + j]? = some v
    rw [List.getElem?_append_right (by rw [Array.length_toList, h1, Nat.add_mul]; omega), Array.length_toList, h1, show (i + 1) * sz + j - sz = i * sz + j by rw [Nat.add_mul]; omega]
    exact flat_get (fun x hx => h x (List.mem_cons_of_mem _ hx)) i (by simpa using hi) j v (by simpa using hv)
theorem flat_inv {sz : Nat} : ∀ {cs : List (Array Value)}, (∀ c ∈ cs, c.size = sz) → ∀ (q : Nat) (v : Value), (flatCells cs)[q]? = some v → ∃ (i : Nat) (h : i < cs.length) (j : Nat), q = i * sz + j ∧ cs[i][j]? = some v
  | [], _, q, v, hv => by simp [flatCells] at hv
  | c :: cs, h, q, v, hv => by
    have h1 := h c (List.mem_cons_self ..)
    by_cases hq : q < sz
    · refine ⟨0, by simp, q, by omega, ?_⟩
      have e : (c.toList ++ flatCells cs)[q]? = some v := hv
      rw [List.getElem?_append_left (by rw [Array.length_toList, h1]; exact hq), Array.getElem?_toList] at e
      exact e
    · have e : (c.toList ++ flatCells cs)[q]? = some v := hv
      rw [List.getElem?_append_right (by rw [Array.length_toList, h1]; omega), Array.length_toList, h1] at e
      obtain ⟨i, hi, j, e1, e2⟩ := flat_inv (fun x hx => h x (List.mem_cons_of_mem _ hx)) (q - sz) v e
      exact ⟨i + 1, by simpa using hi, j, by rw [Nat.add_mul]; omega, by simpa using e2⟩
theorem flat_one {cs : List (Array Value)} (h : ∀ c ∈ cs, ∀ v ∈ c.toList, v.oneCell' = true) : ∀ v ∈ flatCells cs, v.oneCell' = true := by
  intro v hv
  unfold flatCells at hv
  rw [List.mem_flatten] at hv
  obtain ⟨l, hl, hv⟩ := hv
  rw [List.mem_map] at hl
  obtain ⟨c, hc, rfl⟩ := hl
  exact h c hc v hv
/-- A row of things as its cells. -/
theorem flat_row {w : World} {b off sz : Nat} {cs : List (Array Value)} (hz : ∀ c ∈ cs, c.size = sz) (h : ∀ i (hi : i < cs.length), ArrAt w b (off + i * sz) cs[i]) : ∀ j v, (flatCells cs)[j]? = some v → w.cell? ((⟨b, off, none⟩ : Addr).add j) = some v := fun q v hv => by
  obtain ⟨i, hi, j, rfl, e⟩ := flat_inv hz q v hv
  have e2 : (⟨b, off, none⟩ : Addr).add (i * sz + j) = ⟨b, off + i * sz + j, none⟩ := by unfold Addr.add; split <;> simp_all [Nat.add_assoc]
  rw [e2]
  exact (h i hi).cells j v e
theorem arr_of_own {w : World} {base sz n g c : Nat} {t : TypeId} {cs : List (Array Value)} (hz : ∀ c ∈ cs, c.size = sz) (hn : cs.length = n) (h : w.ownsRow base t sz (.slice (some ⟨g, 0, none⟩) n c) n (flatCells cs)) (hg : g < w.heap.size) : ∀ i (hi : i < cs.length), ArrAt w g (i * sz) cs[i] := fun i hi =>
  ⟨hg, fun j v hj => by
    have h1 := flat_get hz i hi j v hj
    have hl := (List.getElem?_eq_some_iff.1 h1).1
    rw [flat_length hz, hn] at hl
    rw [World.ownsRow.cellAt h (i * sz + j) hl]
    exact h1⟩
theorem list_choice {α : Type} {P : Nat → α → Prop} : ∀ n, (∀ i, i < n → ∃ x, P i x) → ∃ xs : List α, xs.length = n ∧ ∀ i (h : i < xs.length), P i xs[i]
  | 0, _ => ⟨[], rfl, fun i h => absurd h (Nat.not_lt_zero _)⟩
  | n + 1, h => by
    obtain ⟨xs, h1, h2⟩ := list_choice n (fun i hi => h i (by omega))
    obtain ⟨x, hx⟩ := h n (by omega)
    refine ⟨xs ++ [x], by rw [List.length_append, h1]; rfl, fun i hi => ?_⟩
    by_cases e : i = n
    · subst e
      rw [List.getElem_append_right (by omega)]
      simpa [h1] using hx
    · have hi2 : i < xs.length := by rw [List.length_append, h1] at hi; simp at hi; omega
      rw [List.getElem_append_left hi2]
      exact h2 i hi2
/-- What Clone answers. -/
def Cloned (t : TypeId) (sz n : Nat) (news : List Value) (w : World) (e : Ending) (w' : World) : Prop := (∃ a' c', e = .returned (.slice a' n c') ∧ w'.ownsRow w.heap.size t sz (.slice a' n c') n news) ∧ Below w.heap.size w w'
theorem info_polc : (Tryz.prog.info? 64).map (fun i => (i.zero, i.size, i.bytes)) = some (some (.agg (Pol.arr ⟨0, false, false, false, fun _ => 0, fun _ => 0, fun _ => 0⟩)), 16, 112) := by kernel_rfl

set_option maxHeartbeats 1000000 in
theorem clone_orders (a : Option Addr) (n c : Nat) (news : List Value) (w : World) (hl : news.length = n * 5) (ha : a = none → n = 0) (hrow : ∀ ad, a = some ad → ∀ j v, news[j]? = some v → w.cell? (ad.add j) = some v) (hone : ∀ v ∈ news, v.oneCell' = true) (hn : n ≤ 1000) :
    Calls Tryz.prog 26 #[.slice a n c] w (Cloned 45 5 n news w) := by
  have hnil := fun (w : World) (a : Option Addr) (n c n' c' : Nat) => Lib.run_eql_slice_nil (P := Tryz.prog) w 22 45 a n c n' c' Tryz.underlying22
  cases a with
  | none =>
    obtain rfl := ha rfl
    obtain rfl : news = [] := List.length_eq_zero_iff.1 (by omega)
    clear ha hrow hone hl
    go_enter Tryz.func26, Tryz.ntmps26
    go_wp2
    go_ret
    exact ⟨⟨none, 0, rfl, World.ownsRow_nil _ _ _ _⟩, Below.refl _ _⟩
  | some ad =>
    have hown : (w.alloc (.cells #[] 45)).ownsRow w.heap.size 45 5 (.slice (some ⟨w.heap.size, 0, none⟩) 0 0) 0 [] :=
      World.ownsRow_made w #[] 0 (Nat.le_refl _) (Nat.zero_le _) rfl
    have hb1 : Below w.heap.size w (w.alloc (.cells #[] 45)) := (Below.refl _ _).alloc (Nat.le_refl _) _
    have hrow1 : Aside (∀ j v, news[j]? = some v → (w.alloc (.cells #[] 45)).cell? (ad.add j) = some v) := fun j v hj => by
      have h1 := hrow ad rfl j v hj
      exact (hb1.cell (p := ad.add j) (World.block_lt_of_cell? _ _ h1)).trans h1
    have hbase : w.heap.size ≤ (w.alloc (.cells #[] 45)).heap.size := by simp
    clear hrow ha
    go_enter Tryz.func26, Tryz.ntmps26
    go_wp2_with (at_builtin; refine wpList_append_full rfl _ _ 22 rfl w.heap.size 45 _ 5 56 Tryz.underlying22 info_ordz rfl (by decide) (.slice (some ⟨w.heap.size, 0, none⟩) 0 0) 0 [] rfl hown ad n c news rfl hl hrow1.out hone (by unfold maxLen; omega) (by omega) hbase ?_; intro a' c' w' h1 h2 h3)
    go_ret
    rw [Nat.zero_add] at h1
    refine ⟨⟨a', c', by simp, by simpa using h1⟩, ?_⟩
    exact hb1.grown h2 (by simp) (fun k hk => by simp [Value.ownBlock] at hk; omega)

set_option maxHeartbeats 1000000 in
theorem clone_lines (a : Option Addr) (n c : Nat) (news : List Value) (w : World) (hl : news.length = n * 4) (ha : a = none → n = 0) (hrow : ∀ ad, a = some ad → ∀ j v, news[j]? = some v → w.cell? (ad.add j) = some v) (hone : ∀ v ∈ news, v.oneCell' = true) (hn : n ≤ 1000) :
    Calls Tryz.prog 27 #[.slice a n c] w (Cloned 54 4 n news w) := by
  have hnil := fun (w : World) (a : Option Addr) (n c n' c' : Nat) => Lib.run_eql_slice_nil (P := Tryz.prog) w 43 54 a n c n' c' Tryz.underlying43
  cases a with
  | none =>
    obtain rfl := ha rfl
    obtain rfl : news = [] := List.length_eq_zero_iff.1 (by omega)
    clear ha hrow hone hl
    go_enter Tryz.func27, Tryz.ntmps27
    go_wp2
    go_ret
    exact ⟨⟨none, 0, rfl, World.ownsRow_nil _ _ _ _⟩, Below.refl _ _⟩
  | some ad =>
    have hown : (w.alloc (.cells #[] 54)).ownsRow w.heap.size 54 4 (.slice (some ⟨w.heap.size, 0, none⟩) 0 0) 0 [] :=
      World.ownsRow_made w #[] 0 (Nat.le_refl _) (Nat.zero_le _) rfl
    have hb1 : Below w.heap.size w (w.alloc (.cells #[] 54)) := (Below.refl _ _).alloc (Nat.le_refl _) _
    have hrow1 : Aside (∀ j v, news[j]? = some v → (w.alloc (.cells #[] 54)).cell? (ad.add j) = some v) := fun j v hj => by
      have h1 := hrow ad rfl j v hj
      exact (hb1.cell (p := ad.add j) (World.block_lt_of_cell? _ _ h1)).trans h1
    have hbase : w.heap.size ≤ (w.alloc (.cells #[] 54)).heap.size := by simp
    clear hrow ha
    go_enter Tryz.func27, Tryz.ntmps27
    go_wp2_with (at_builtin; refine wpList_append_full rfl _ _ 43 rfl w.heap.size 54 _ 4 32 Tryz.underlying43 info_lnz rfl (by decide) (.slice (some ⟨w.heap.size, 0, none⟩) 0 0) 0 [] rfl hown ad n c news rfl hl hrow1.out hone (by unfold maxLen; omega) (by omega) hbase ?_; intro a' c' w' h1 h2 h3)
    go_ret
    rw [Nat.zero_add] at h1
    refine ⟨⟨a', c', by simp, by simpa using h1⟩, ?_⟩
    exact hb1.grown h2 (by simp) (fun k hk => by simp [Value.ownBlock] at hk; omega)

set_option maxHeartbeats 1000000 in
theorem clone_sups (a : Option Addr) (n c : Nat) (news : List Value) (w : World) (hl : news.length = n * 3) (ha : a = none → n = 0) (hrow : ∀ ad, a = some ad → ∀ j v, news[j]? = some v → w.cell? (ad.add j) = some v) (hone : ∀ v ∈ news, v.oneCell' = true) (hn : n ≤ 1000) :
    Calls Tryz.prog 28 #[.slice a n c] w (Cloned 42 3 n news w) := by
  have hnil := fun (w : World) (a : Option Addr) (n c n' c' : Nat) => Lib.run_eql_slice_nil (P := Tryz.prog) w 23 42 a n c n' c' Tryz.underlying23
  cases a with
  | none =>
    obtain rfl := ha rfl
    obtain rfl : news = [] := List.length_eq_zero_iff.1 (by omega)
    clear ha hrow hone hl
    go_enter Tryz.func28, Tryz.ntmps28
    go_wp2
    go_ret
    exact ⟨⟨none, 0, rfl, World.ownsRow_nil _ _ _ _⟩, Below.refl _ _⟩
  | some ad =>
    have hown : (w.alloc (.cells #[] 42)).ownsRow w.heap.size 42 3 (.slice (some ⟨w.heap.size, 0, none⟩) 0 0) 0 [] :=
      World.ownsRow_made w #[] 0 (Nat.le_refl _) (Nat.zero_le _) rfl
    have hb1 : Below w.heap.size w (w.alloc (.cells #[] 42)) := (Below.refl _ _).alloc (Nat.le_refl _) _
    have hrow1 : Aside (∀ j v, news[j]? = some v → (w.alloc (.cells #[] 42)).cell? (ad.add j) = some v) := fun j v hj => by
      have h1 := hrow ad rfl j v hj
      exact (hb1.cell (p := ad.add j) (World.block_lt_of_cell? _ _ h1)).trans h1
    have hbase : w.heap.size ≤ (w.alloc (.cells #[] 42)).heap.size := by simp
    clear hrow ha
    go_enter Tryz.func28, Tryz.ntmps28
    go_wp2_with (at_builtin; refine wpList_append_full rfl _ _ 23 rfl w.heap.size 42 _ 3 24 Tryz.underlying23 info_supz rfl (by decide) (.slice (some ⟨w.heap.size, 0, none⟩) 0 0) 0 [] rfl hown ad n c news rfl hl hrow1.out hone (by unfold maxLen; omega) (by omega) hbase ?_; intro a' c' w' h1 h2 h3)
    go_ret
    rw [Nat.zero_add] at h1
    refine ⟨⟨a', c', by simp, by simpa using h1⟩, ?_⟩
    exact hb1.grown h2 (by simp) (fun k hk => by simp [Value.ownBlock] at hk; omega)

set_option maxHeartbeats 1000000 in
theorem clone_pols (a : Option Addr) (n c : Nat) (news : List Value) (w : World) (hl : news.length = n * 16) (ha : a = none → n = 0) (hrow : ∀ ad, a = some ad → ∀ j v, news[j]? = some v → w.cell? (ad.add j) = some v) (hone : ∀ v ∈ news, v.oneCell' = true) (hn : n ≤ 1000) :
    Calls Tryz.prog 29 #[.slice a n c] w (Cloned 64 16 n news w) := by
  have hnil := fun (w : World) (a : Option Addr) (n c n' c' : Nat) => Lib.run_eql_slice_nil (P := Tryz.prog) w 24 64 a n c n' c' Tryz.underlying24
  cases a with
  | none =>
    obtain rfl := ha rfl
    obtain rfl : news = [] := List.length_eq_zero_iff.1 (by omega)
    clear ha hrow hone hl
    go_enter Tryz.func29, Tryz.ntmps29
    go_wp2
    go_ret
    exact ⟨⟨none, 0, rfl, World.ownsRow_nil _ _ _ _⟩, Below.refl _ _⟩
  | some ad =>
    have hown : (w.alloc (.cells #[] 64)).ownsRow w.heap.size 64 16 (.slice (some ⟨w.heap.size, 0, none⟩) 0 0) 0 [] :=
      World.ownsRow_made w #[] 0 (Nat.le_refl _) (Nat.zero_le _) rfl
    have hb1 : Below w.heap.size w (w.alloc (.cells #[] 64)) := (Below.refl _ _).alloc (Nat.le_refl _) _
    have hrow1 : Aside (∀ j v, news[j]? = some v → (w.alloc (.cells #[] 64)).cell? (ad.add j) = some v) := fun j v hj => by
      have h1 := hrow ad rfl j v hj
      exact (hb1.cell (p := ad.add j) (World.block_lt_of_cell? _ _ h1)).trans h1
    have hbase : w.heap.size ≤ (w.alloc (.cells #[] 64)).heap.size := by simp
    clear hrow ha
    go_enter Tryz.func29, Tryz.ntmps29
    go_wp2_with (at_builtin; refine wpList_append_full rfl _ _ 24 rfl w.heap.size 64 _ 16 112 Tryz.underlying24 info_polc rfl (by decide) (.slice (some ⟨w.heap.size, 0, none⟩) 0 0) 0 [] rfl hown ad n c news rfl hl hrow1.out hone (by unfold maxLen; omega) (by omega) hbase ?_; intro a' c' w' h1 h2 h3)
    go_ret
    rw [Nat.zero_add] at h1
    refine ⟨⟨a', c', by simp, by simpa using h1⟩, ?_⟩
    exact hb1.grown h2 (by simp) (fun k hk => by simp [Value.ownBlock] at hk; omega)
end Go.Proofs.YtbiompjhenkieaaGreat
