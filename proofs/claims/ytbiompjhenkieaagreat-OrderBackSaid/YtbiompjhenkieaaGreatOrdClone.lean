/-
  Package order: Clone. Conditions: those of each theorem.
-/
import Derived.Test.YtbiompjhenkieaaGreatOrdClones
import Derived.Test.YtbiompjhenkieaaGreatOrdRight
import Derived.Deep.RegionHeld3
namespace Go.Proofs.YtbiompjhenkieaaGreat
open Go.RowKit
set_option maxRecDepth 100000

/-- An order's cells, and its lines. -/
def OrdHas (w : World) (x : Ord) (c : Array Value) : Prop := ∃ a n k, c = ordCells x.day a n k x.disc x.tax x.ship ∧ x.lines.length = n ∧ n ≤ k ∧ k ≤ maxLen ∧ LnsAt w a x.lines
theorem OrdHas.below {w w' : World} {x : Ord} {c : Array Value} (h : OrdHas w x c) (k : Below w.heap.size w w') : OrdHas w' x c := by
  obtain ⟨a, n, c', h1, h2, h3, h4, h5⟩ := h
  exact ⟨a, n, c', h1, h2, h3, h4, LnsAt.below h5 k⟩
theorem ords_has {w : World} {a : Option Addr} {os : List Ord} (h : OrdsAt w a os) : ∃ cs : List (Array Value), cs.length = os.length ∧ (∀ i (h1 : i < os.length) (h2 : i < cs.length), OrdHas w os[i] cs[i]) ∧ (os = [] ∨ ∃ b off, a = some ⟨b, off, none⟩ ∧ b < w.heap.size ∧ ∀ i (hi : i < cs.length), ArrAt w b (off + i * 5) cs[i]) := by
  rcases h with rfl | ⟨b, off, rfl, hb, hc⟩
  · exact ⟨[], rfl, fun i h => absurd h (Nat.not_lt_zero _), .inl rfl⟩
  · obtain ⟨cs, h1, h2⟩ := list_choice (P := fun i c => ∃ h : i < os.length, OrdHas w os[i] c ∧ ArrAt w b (off + i * 5) c) os.length (fun i hi => by
      obtain ⟨a, n, c, g1, g2, g3, g4, g5⟩ := hc i hi
      exact ⟨_, hi, ⟨a, n, c, rfl, g2, g3, g4, g5⟩, g1⟩)
    exact ⟨cs, h1, fun i hi hi2 => by obtain ⟨_, g, _⟩ := h2 i hi2; exact g, .inr ⟨b, off, rfl, hb, fun i hi => by obtain ⟨_, _, g⟩ := h2 i hi; exact g⟩⟩
theorem has_size {w : World} {os : List Ord} {cs : List (Array Value)} (hl : cs.length = os.length) (h : ∀ i (h1 : i < os.length) (h2 : i < cs.length), OrdHas w os[i] cs[i]) : ∀ c ∈ cs, c.size = 5 := fun c hc => by
  obtain ⟨i, hi, rfl⟩ := List.mem_iff_getElem.1 hc
  obtain ⟨a, n, k, e, -⟩ := h i (by omega) hi
  rw [e]; rfl
theorem has_one {w : World} {os : List Ord} {cs : List (Array Value)} (hl : cs.length = os.length) (h : ∀ i (h1 : i < os.length) (h2 : i < cs.length), OrdHas w os[i] cs[i]) : ∀ c ∈ cs, ∀ v ∈ c.toList, v.oneCell' = true := fun c hc => by
  obtain ⟨i, hi, rfl⟩ := List.mem_iff_getElem.1 hc
  obtain ⟨a, n, k, e, -⟩ := h i (by omega) hi
  rw [e]; exact ordCells_one _ _ _ _ _ _ _
/-- Orders in a row of the call's own. -/
structure OrdRow (w : World) (g : Nat) (os : List Ord) (cs : List (Array Value)) (W : World) : Prop where
  len : cs.length = os.length
  has : ∀ i (h1 : i < os.length) (h2 : i < cs.length), OrdHas W os[i] cs[i]
  arr : ∀ i (h : i < cs.length), ArrAt W g (i * 5) cs[i]
  fz : ∀ j, W.frozen? ⟨g, j, none⟩ = false
  new : w.heap.size ≤ g
  lt : g < W.heap.size
  lines : ∀ i (h1 : i < os.length) (h2 : i < cs.length) a n k, cs[i] = ordCells os[i].day a n k os[i].disc os[i].tax os[i].ship → ∀ x, a = some x → x.block ≠ g
theorem lns_upd {w w' : World} {a : Option Addr} {ls : List Ln} {T : Nat → Prop} (h : LnsAt w a ls) (hu : Upd T w w') (hn : ∀ x, a = some x → ¬ T x.block) : LnsAt w' a ls := by
  rcases h with h | ⟨b, off, rfl, hb, hc⟩
  · exact .inl h
  · have hb' := hn _ rfl
    exact .inr ⟨b, off, rfl, Nat.lt_of_lt_of_le hb hu.size, fun i hi => (hc i hi).upd hu hb'⟩
theorem ordCells_inj {x : Ord} {a b : Option Addr} {n m k l : Nat} (h : ordCells x.day a n k x.disc x.tax x.ship = ordCells x.day b m l x.disc x.tax x.ship) : a = b ∧ n = m ∧ k = l := by
  unfold ordCells at h
  simp at h
  exact ⟨h.1, h.2.1, h.2.2⟩
theorem OrdRow.below {w W W' : World} {g : Nat} {os : List Ord} {cs : List (Array Value)} (h : OrdRow w g os cs W) (k : Below W.heap.size W W') : OrdRow w g os cs W' :=
  ⟨h.len, fun i h1 h2 => (h.has i h1 h2).below k, fun i hi => (h.arr i hi).grown k, fun j => (k.frozen (p := ⟨g, j, none⟩) h.lt).trans (h.fz j), h.new, Nat.lt_of_lt_of_le h.lt k.size, h.lines⟩
/-- One order's lines are laid elsewhere. -/
theorem OrdRow.set {w W : World} {g : Nat} {os : List Ord} {cs : List (Array Value)} (h : OrdRow w g os cs W) (k : Nat) (hk : k < os.length) (hkc : k < cs.length) (a : Option Addr) (n c : Nat) (hl : os[k].lines.length = n) (hc : n ≤ c) (hm : c ≤ maxLen) (hat : LnsAt W a os[k].lines) (hag : ∀ x, a = some x → x.block ≠ g) :
    OrdRow w g os (cs.set k (ordCells os[k].day a n c os[k].disc os[k].tax os[k].ship)) (W.setCell ⟨g, k * 5 + 1, none⟩ (.slice a n c)) := by
  have hu : Upd (fun q => q = g) W (W.setCell ⟨g, k * 5 + 1, none⟩ (.slice a n c)) := upd_gset (Upd.refl _ _)
  refine ⟨by rw [List.length_set]; exact h.len, fun i h1 h2 => ?_, fun i hi => ?_, fun j => by rw [World.frozen?_setCell]; exact h.fz j, h.new, Nat.lt_of_lt_of_le h.lt hu.size, fun i h1 h2 a' n' k' e => ?_⟩
  · have h2' : i < cs.length := by simpa using h2
    by_cases e : i = k
    · subst e
      rw [List.getElem_set_self]
      exact ⟨a, n, c, rfl, hl, hc, hm, lns_upd hat hu hag⟩
    · rw [List.getElem_set_ne (Ne.symm e)]
      obtain ⟨a0, n0, c0, e0, g2, g3, g4, g5⟩ := h.has i h1 h2'
      exact ⟨a0, n0, c0, e0, g2, g3, g4, lns_upd g5 hu (h.lines i h1 h2' a0 n0 c0 e0)⟩
  · have hi' : i < cs.length := by simpa using hi
    refine ⟨Nat.lt_of_lt_of_le h.lt hu.size, fun j v hj => ?_⟩
    by_cases e : i = k
    · subst e
      rw [List.getElem_set_self] at hj
      obtain ⟨a0, n0, c0, e0, -⟩ := h.has i hk hi'
      have h0 := h.arr i hi'
      rw [e0] at h0
      have hj5 : j < 5 := (Array.getElem?_eq_some_iff.1 hj).1
      by_cases ej : j = 1
      · subst ej
        have hv : v = .slice a n c := (Option.some.inj hj).symm
        rw [hv]
        exact World.cell?_setCell_same _ _ _ (h0.cells 1 _ rfl)
      · rw [World.cell?_setCell_other _ _ _ _ (by intro e'; simp only [Addr.mk.injEq] at e'; omega)]
        refine h0.cells j v ?_
        rw [← hj]
        match j, hj5, ej with
        | 0, _, _ => rfl
        | 2, _, _ => rfl
        | 3, _, _ => rfl
        | 4, _, _ => rfl
    · rw [List.getElem_set_ne (Ne.symm e)] at hj
      have hj5 : j < 5 := by
        obtain ⟨a0, n0, c0, e0, -⟩ := h.has i (by have := h.len; omega) hi'
        rw [e0] at hj
        exact (Array.getElem?_eq_some_iff.1 hj).1
      rw [World.cell?_setCell_other _ _ _ _ (by intro e'; simp only [Addr.mk.injEq] at e'; omega)]
      exact (h.arr i hi').cells j v hj
  · have h2' : i < cs.length := by simpa using h2
    by_cases ek : i = k
    · subst ek
      rw [List.getElem_set_self] at e
      obtain ⟨rfl, -, -⟩ := ordCells_inj e
      exact hag
    · rw [List.getElem_set_ne (Ne.symm ek)] at e
      exact h.lines i h1 h2' a' n' k' e
theorem OrdRow.ords {w W : World} {g : Nat} {os : List Ord} {cs : List (Array Value)} (h : OrdRow w g os cs W) {T : Nat → Prop} {W' : World} (hu : Upd T W W') (hT : ∀ k, w.heap.size ≤ k → ¬ T k) (hnew : ∀ i (h1 : i < os.length) (h2 : i < cs.length) a n k, cs[i] = ordCells os[i].day a n k os[i].disc os[i].tax os[i].ship → ∀ x, a = some x → w.heap.size ≤ x.block) : OrdsAt W' (some ⟨g, 0, none⟩) os := by
  refine .inr ⟨g, 0, rfl, Nat.lt_of_lt_of_le h.lt hu.size, fun i hi => ?_⟩
  have hic : i < cs.length := by rw [h.len]; exact hi
  obtain ⟨a, n, c, e, h2, h3, h4, h5⟩ := h.has i hi hic
  have hr := (h.arr i hic).upd hu (hT g h.new)
  rw [e] at hr
  rw [Nat.zero_add]
  exact ⟨a, n, c, hr, h2, h3, h4, lns_upd h5 hu (fun x hx => hT _ (hnew i hi hic a n c e x hx))⟩
/-- The rows of lines, of supplies, of policies that a clone has, whatever turns of what was there before. -/
theorem lns_cloned {w w' : World} {a : Option Addr} {n c : Nat} {ls : List Ln} (hl : ls.length = n) (h : w'.ownsRow w.heap.size 54 4 (.slice a n c) n (flatCells (ls.map Ln.arr))) (h0 : 0 < n) : ∃ g, a = some ⟨g, 0, none⟩ ∧ w.heap.size ≤ g ∧ g < w'.heap.size ∧ n ≤ c ∧ c ≤ maxLen ∧ LnsAt w' a ls := by
  have hz : ∀ c ∈ ls.map Ln.arr, c.size = 4 := fun c hc => by obtain ⟨l, _, rfl⟩ := List.mem_map.1 hc; rfl
  rcases h.2 with ⟨hv, x⟩ | ⟨g, cap, cur, hv, hgb, hgc, hle, hcm, -, -⟩
  · omega
  · injection hv with e1 e2 e3
    subst e1 e3
    have hg : g < w'.heap.size := (Array.getElem?_eq_some_iff.1 hgc).1
    refine ⟨g, rfl, hgb, hg, hle, hcm, .inr ⟨g, 0, rfl, hg, fun i hi => ?_⟩⟩
    have := arr_of_own hz (by simpa using hl) h hg i (by simpa using hi)
    rw [List.getElem_map] at this
    rw [Nat.zero_add]
    exact this
theorem sups_cloned {w w' : World} {a : Option Addr} {n c : Nat} {ls : List Sup} (hl : ls.length = n) (h : w'.ownsRow w.heap.size 42 3 (.slice a n c) n (flatCells (ls.map Sup.arr))) : (n ≤ c ∧ c ≤ maxLen) ∧ ∀ W, Upd (fun k => k < w.heap.size) w' W → SupsAt W a ls := by
  have hz : ∀ c ∈ ls.map Sup.arr, c.size = 3 := fun c hc => by obtain ⟨l, _, rfl⟩ := List.mem_map.1 hc; rfl
  rcases h.2 with ⟨hv, x⟩ | ⟨g, cap, cur, hv, hgb, hgc, hle, hcm, -, -⟩
  · injection hv with e1 e2 e3
    subst e1 e2 e3
    exact ⟨⟨Nat.le_refl _, by decide⟩, fun W _ => .inl (List.length_eq_zero_iff.1 hl)⟩
  · injection hv with e1 e2 e3
    subst e1 e3
    have hg : g < w'.heap.size := (Array.getElem?_eq_some_iff.1 hgc).1
    refine ⟨⟨hle, hcm⟩, fun W hW => .inr ⟨g, 0, rfl, Nat.lt_of_lt_of_le hg hW.size, fun i hi => ?_⟩⟩
    have := (arr_of_own hz (by simpa using hl) h hg i (by simpa using hi)).upd hW (by omega)
    rw [List.getElem_map] at this
    rw [Nat.zero_add]
    exact this
theorem pols_cloned {w w' : World} {a : Option Addr} {n c : Nat} {ls : List Pol} (hl : ls.length = n) (h : w'.ownsRow w.heap.size 64 16 (.slice a n c) n (flatCells (ls.map Pol.arr))) : (n ≤ c ∧ c ≤ maxLen) ∧ ∀ W, Upd (fun k => k < w.heap.size) w' W → PolsAt W a ls := by
  have hz : ∀ c ∈ ls.map Pol.arr, c.size = 16 := fun c hc => by obtain ⟨l, _, rfl⟩ := List.mem_map.1 hc; rfl
  rcases h.2 with ⟨hv, x⟩ | ⟨g, cap, cur, hv, hgb, hgc, hle, hcm, -, -⟩
  · injection hv with e1 e2 e3
    subst e1 e2 e3
    exact ⟨⟨Nat.le_refl _, by decide⟩, fun W _ => .inl (List.length_eq_zero_iff.1 hl)⟩
  · injection hv with e1 e2 e3
    subst e1 e3
    have hg : g < w'.heap.size := (Array.getElem?_eq_some_iff.1 hgc).1
    refine ⟨⟨hle, hcm⟩, fun W hW => .inr ⟨g, 0, rfl, Nat.lt_of_lt_of_le hg hW.size, fun i hi => ?_⟩⟩
    have := (arr_of_own hz (by simpa using hl) h hg i (by simpa using hi)).upd hW (by omega)
    rw [List.getElem_map] at this
    rw [Nat.zero_add]
    exact ⟨this.lt, this.cells⟩
theorem pol_ones (ls : List Pol) : ∀ c ∈ ls.map Pol.arr, ∀ v ∈ c.toList, v.oneCell' = true := fun c hc v hv => by
  obtain ⟨l, _, rfl⟩ := List.mem_map.1 hc
  exact (Array.all_eq_true_iff_forall_mem.1 (pol_all l)) v (by simpa using hv)

/-- Lines, supplies, policies are cloned. -/
theorem clone_lns {w : World} {a : Option Addr} {ls : List Ln} {n c : Nat} (hl : ls.length = n) (h : LnsAt w a ls) (h0 : 0 < n) (h8 : n ≤ 1000) :
    Calls Tryz.prog 27 #[.slice a n c] w fun e w' => (∃ g c', e = .returned (.slice (some ⟨g, 0, none⟩) n c') ∧ w.heap.size ≤ g ∧ g < w'.heap.size ∧ n ≤ c' ∧ c' ≤ maxLen ∧ LnsAt w' (some ⟨g, 0, none⟩) ls) ∧ Below w.heap.size w w' := by
  rcases h with rfl | ⟨b, off, rfl, hb, hc⟩
  · simp at hl; omega
  · have hz : ∀ c ∈ ls.map Ln.arr, c.size = 4 := fun c hc => by obtain ⟨l, _, rfl⟩ := List.mem_map.1 hc; rfl
    refine (clone_lines (some ⟨b, off, none⟩) n c (flatCells (ls.map Ln.arr)) w (by rw [flat_length hz, List.length_map, hl]) (fun e => by cases e) (fun ad e => by
      injection e with e
      subst e
      exact flat_row hz (fun i hi => by have := hc i (by simpa using hi); rw [List.getElem_map]; exact this)) (flat_one (fun c hc => by obtain ⟨l, _, rfl⟩ := List.mem_map.1 hc; exact one_lnz l)) h8).mono ?_
    rintro e w' ⟨⟨a', c', rfl, ho⟩, hb'⟩
    obtain ⟨g, rfl, g1, g2, g3, g4, g5⟩ := lns_cloned hl ho h0
    exact ⟨⟨g, c', rfl, g1, g2, g3, g4, g5⟩, hb'⟩
theorem clone_sps {w : World} {a : Option Addr} {ls : List Sup} {n c : Nat} (hl : ls.length = n) (h : SupsAt w a ls) (h8 : n ≤ 1000) :
    Calls Tryz.prog 28 #[.slice a n c] w fun e w' => (∃ a' c', e = .returned (.slice a' n c') ∧ (n ≤ c' ∧ c' ≤ maxLen) ∧ ∀ W, Upd (fun k => k < w.heap.size) w' W → SupsAt W a' ls) ∧ Below w.heap.size w w' := by
  have hz : ∀ c ∈ ls.map Sup.arr, c.size = 3 := fun c hc => by obtain ⟨l, _, rfl⟩ := List.mem_map.1 hc; rfl
  refine (clone_sups a n c (flatCells (ls.map Sup.arr)) w (by rw [flat_length hz, List.length_map, hl]) (fun e => ?_) (fun ad e => ?_) (flat_one (fun c hc => by obtain ⟨l, _, rfl⟩ := List.mem_map.1 hc; exact one_supz l)) h8).mono ?_
  · rcases h with rfl | ⟨b, off, rfl, hb, hc⟩
    · simpa using hl.symm
    · cases e
  · rcases h with rfl | ⟨b, off, rfl, hb, hc⟩
    · intro j v hj; simp [flatCells] at hj
    · injection e with e
      subst e
      exact flat_row hz (fun i hi => by have := hc i (by simpa using hi); rw [List.getElem_map]; exact this)
  · rintro e w' ⟨⟨a', c', rfl, ho⟩, hb'⟩
    obtain ⟨g1, g2⟩ := sups_cloned hl ho
    exact ⟨⟨a', c', rfl, g1, g2⟩, hb'⟩
theorem clone_pls {w : World} {a : Option Addr} {ls : List Pol} {n c : Nat} (hl : ls.length = n) (h : PolsAt w a ls) (h8 : n ≤ 1000) :
    Calls Tryz.prog 29 #[.slice a n c] w fun e w' => (∃ a' c', e = .returned (.slice a' n c') ∧ (n ≤ c' ∧ c' ≤ maxLen) ∧ ∀ W, Upd (fun k => k < w.heap.size) w' W → PolsAt W a' ls) ∧ Below w.heap.size w w' := by
  have hz : ∀ c ∈ ls.map Pol.arr, c.size = 16 := fun c hc => by obtain ⟨l, _, rfl⟩ := List.mem_map.1 hc; rfl
  refine (clone_pols a n c (flatCells (ls.map Pol.arr)) w (by rw [flat_length hz, List.length_map, hl]) (fun e => ?_) (fun ad e => ?_) (flat_one (pol_ones ls)) h8).mono ?_
  · rcases h with rfl | ⟨b, off, rfl, hb, hc⟩
    · simpa using hl.symm
    · cases e
  · rcases h with rfl | ⟨b, off, rfl, hb, hc⟩
    · intro j v hj; simp [flatCells] at hj
    · injection e with e
      subst e
      exact flat_row hz (fun i hi => by have := hc i (by simpa using hi); rw [List.getElem_map]; exact ⟨this.lt, this.cells⟩)
  · rintro e w' ⟨⟨a', c', rfl, ho⟩, hb'⟩
    obtain ⟨g1, g2⟩ := pols_cloned hl ho
    exact ⟨⟨a', c', rfl, g1, g2⟩, hb'⟩
end Go.Proofs.YtbiompjhenkieaaGreat
