/-
  Package stock: Pick, and the library's IndexFunc under it. Conditions: those of each theorem.
-/
import Derived.Test.YtakdodcdgmbhaaaStkMove
namespace Go.Proofs.Ytakdodcdgmbhaaa
open Go.RowKit
set_option maxRecDepth 100000

/-- Is it a sellable unit of a SKU? -/
def pickB (u : Nat → Itm) (s : Int) (k : Nat) : Bool := (u k).sku == s && (u k).place == 3
/-- The least that is so, or -1. -/
def LeastAt (P : Nat → Bool) (n : Nat) (i : Int) : Prop := (∃ k : Nat, i = k ∧ k < n ∧ P k = true ∧ ∀ j, j < k → P j = false) ∨ (i = -1 ∧ ∀ j, j < n → P j = false)
theorem least_any (P : Nat → Bool) : ∀ n, (∃ k, k < n ∧ P k = true ∧ ∀ j, j < k → P j = false) ∨ ∀ j, j < n → P j = false
  | 0 => .inr fun j h => absurd h (Nat.not_lt_zero _)
  | n + 1 => by
    rcases least_any P n with ⟨k, h1, h2, h3⟩ | h
    · exact .inl ⟨k, by omega, h2, h3⟩
    · cases e : P n
      · refine .inr fun j hj => ?_
        by_cases h9 : j = n
        · subst h9; exact e
        · exact h j (by omega)
      · exact .inl ⟨n, by omega, e, h⟩
theorem least_same {P : Nat → Bool} {n : Nat} {i : Int} (h : LeastAt P n i) {k : Nat} (hk : k < n) (hp : P k = true) (hl : ∀ j, j < k → P j = false) : i = k := by
  rcases h with ⟨m, rfl, h1, h2, h3⟩ | ⟨-, h⟩
  · rcases Nat.lt_trichotomy m k with x | x | x
    · have := hl m x; rw [h2] at this; cases this
    · rw [x]
    · have := h3 k x; rw [hp] at this; cases this
  · have := h k hk; rw [hp] at this; cases this
theorem least_no {P : Nat → Bool} {n : Nat} {i : Int} (h : LeastAt P n i) (hn : ∀ j, j < n → P j = false) : i = -1 := by
  rcases h with ⟨m, rfl, h1, h2, h3⟩ | ⟨h, -⟩
  · have := hn m h1; rw [h2] at this; cases this
  · exact h

theorem stk_pick1 (x : Itm) (B : Nat) (s : Int) (w : World) (hB : w.cell? ⟨B, 0, none⟩ = some (.int .i64 s)) :
    Calls Try.prog 22 #[.agg x.arr, .pointer (some ⟨B, 0, none⟩)] w fun e w' => e = .returned (.bool (x.sku == s && x.place == 3)) ∧ Below w.heap.size w w' := by
  have hlt : B < w.heap.size := World.block_lt_of_cell? _ _ hB
  have hB2 : (w.alloc (.cells x.arr 52)).cell? ⟨B, 0, none⟩ = some (.int .i64 s) := ((Below.refl w.heap.size w).alloc (Nat.le_refl _) (.cells x.arr 52)).cell (p := ⟨B, 0, none⟩) hlt |>.trans hB
  obtain ⟨sku, pl, r, g⟩ := x
  unfold Itm.arr at *
  dsimp only at *
  by_cases h1 : sku = s
  · subst h1
    by_cases h2 : pl = 3
    · subst h2
      go_enter Try.func22, Try.ntmps22
      go_wp2
      go_ret
      exact ⟨by simp, (Below.refl _ _).alloc (Nat.le_refl _) _⟩
    · have g2 : (pl == 3) = false := by simpa using h2
      go_enter Try.func22, Try.ntmps22
      go_wp2
      go_ret
      exact ⟨by simp [g2], (Below.refl _ _).alloc (Nat.le_refl _) _⟩
  · have g1 : (sku == s) = false := by simpa using h1
    rw [g1, Bool.false_and]
    go_enter Try.func22, Try.ntmps22
    go_wp2
    go_ret
    exact ⟨by simp, (Below.refl _ _).alloc (Nat.le_refl _) _⟩

set_option maxHeartbeats 1000000 in
theorem stk_index (B : Nat) (s : Int) (a : Option Addr) (G n c : Nat) (u : Nat → Itm) (w : World) (hm : n ≤ 200) (ha : 0 < n → a = some ⟨G, 0, none⟩) (hr : 0 < n → Row4 w G n (fun k => (u k).arr)) (hB : w.cell? ⟨B, 0, none⟩ = some (.int .i64 s)) :
    Calls Try.prog 21 #[.slice a n c, .func (.func 22) #[] #[.pointer (some ⟨B, 0, none⟩)]] w fun e w' => (∃ i : Int, e = .returned (.int .i64 i) ∧ LeastAt (pickB u s) n i) ∧ Below w.heap.size w w' := by
  have hlt : B < w.heap.size := World.block_lt_of_cell? _ _ hB
  have HBX := Lib.hid hB
  have HR : Aside (0 < n → Row4 w G n (fun k => (u k).arr)) := hr
  clear hB hr
  go_enter Try.func21, Try.ntmps21
  go_wp2
  go_loopw [8] (fun i wr => ∃ k : Nat, k ≤ n ∧ i = .int .i64 k ∧ Aside (Below w.heap.size w wr) ∧ Hid (∀ j, j < k → pickB u s j = false)) (fun i _ => n - (intOf i).toNat)
  case atStart => exact ⟨0, Nat.zero_le _, rfl, Below.refl _ _, fun j h => absurd h (Nat.not_lt_zero _)⟩
  case round =>
    obtain ⟨k, hk, rfl, HB, HK⟩ := hrel
    by_cases hlt2 : k < n
    · have hkn : (k : Int) < (n : Int) := by omega
      have hn0 : 0 < n := by omega
      obtain rfl := ha hn0
      have hr := ((HR.out hn0).below HB.out).row k hlt2
      have z0 : wr.cell? ⟨G, k * 4, none⟩ = some (.int .i64 (u k).sku) := hr.cells 0 _ rfl
      have z1 : wr.cell? ⟨G, k * 4 + 1, none⟩ = some (.int .i64 (u k).place) := hr.cells 1 _ rfl
      have z2 : wr.cell? ⟨G, k * 4 + 2, none⟩ = some (.bool (u k).rcv) := hr.cells 2 _ rfl
      have z3 : wr.cell? ⟨G, k * 4 + 3, none⟩ = some (.bool (u k).grd) := hr.cells 3 _ rfl
      have HF : Hid (pickB u s k = true → LeastAt (pickB u s) n k) := fun e => .inl ⟨k, rfl, hlt2, e, HK.out⟩
      have HT : Hid (pickB u s k = false → ∀ j, j < k + 1 → pickB u s j = false) := fun e j h => by
        by_cases hj : j = k
        · subst hj; exact e
        · exact HK.out j (by omega)
      have hBr : wr.cell? ⟨B, 0, none⟩ = some (.int .i64 s) := (HB.out.cell (p := ⟨B, 0, none⟩) hlt).trans HBX.out
      have HG : Aside _ := stk_pick1 (u k) B s wr hBr
      obtain ⟨q, hq⟩ : ∃ q, q = pickB u s k := ⟨_, rfl⟩
      rw [show ((u k).sku == s && (u k).place == 3) = pickB u s k from rfl] at HG
      rw [← hq] at HF HT HG
      clear hq hr ha
      generalize u k = x at *
      obtain ⟨sku, pl, rc, gr⟩ := x
      unfold Itm.arr at HG
      dsimp only at HG z0 z1 z2 z3
      go_wp2_with fail
      refine Calls.mono HG.out ?_
      rintro e w2 ⟨rfl, b2⟩
      have HB2 : Aside (Below w.heap.size w w2) := HB.out.trans (b2.mono HB.out.size)
      clear b2 z0 z1 z2 z3 hBr HG
      cases q with
      | true =>
        have HA := Lib.hid (HF.out rfl)
        go_wp2
        go_ret
        exact ⟨⟨_, rfl, HA.out⟩, HB2.out⟩
      | false =>
        have HA := Lib.hid (HT.out rfl)
        go_wp2
        go_roundw
        case rel => exact ⟨k + 1, by omega, by go_num, HB2.out, HA.out⟩
        case measure => simp [intOf]; omega
    · obtain rfl : k = n := by omega
      have HA : Hid (LeastAt (pickB u s) k (-1)) := .inr ⟨rfl, HK.out⟩
      go_wp2
      go_ret
      exact ⟨⟨_, rfl, HA.out⟩, HB.out⟩

set_option maxHeartbeats 1000000 in
theorem stk_pick_found {w : World} {p G n : Nat} {u : Nat → Itm} (h : StockAt w p G n u) (s : Int) {k : Nat} (hk : k < n) (hp : pickB u s k = true) (hl : ∀ j, j < k → pickB u s j = false) :
    Calls Try.prog 10 #[.pointer (some ⟨p, 0, none⟩), .int .i64 s] w fun e w' => e = .returned (.tuple #[.int .i64 k, .int .i64 0]) ∧ StockAt w' p G n (putAt u k ((u k).moved 7)) ∧ Upd (fun b => b = G) w w' := by
  have HB : Aside (Below w.heap.size w (w.alloc (.cells #[.int .i64 s] 3))) := (Below.refl _ _).alloc (Nat.le_refl _) _
  have h1 := h.below HB.out
  obtain ⟨a, c, hx, ha, -⟩ := h1.box
  have HI : Aside _ := stk_index w.heap.size s a G n c u (w.alloc (.cells #[.int .i64 s] 3)) h1.few ha h1.row (by simp)
  have hm : mayB (u k).place 7 = true := by
    unfold pickB at hp
    simp only [Bool.and_eq_true, beq_iff_eq] at hp
    rw [hp.2]; rfl
  have E1 : Hid (moveE u k 7 = 0) := by unfold moveE; rw [if_pos hm]; rfl
  have E2 : Hid (moveU u k 7 = putAt u k ((u k).moved 7)) := by unfold moveU; rw [if_pos hm]; rfl
  have HP : Hid (pickB u s k = true) := hp
  have HL : Hid (∀ j, j < k → pickB u s j = false) := hl
  have H1 : Aside _ := h1
  have hk0 : ¬ (k : Int) < 0 := by omega
  clear h h1 hp hl hm ha
  go_enter Try.func10, Try.ntmps10
  go_wp2_with fail
  refine Calls.mono HI.out ?_
  rintro e w2 ⟨⟨i, rfl, hi⟩, b2⟩
  obtain rfl := least_same hi hk HP.out HL.out
  have HM : Aside _ := stk_move (H1.out.below b2) hk 7
  have HU : Aside (Upd (fun b => b = G) w w2) := Upd.below (HB.out.trans (b2.mono HB.out.size))
  clear hi b2 HI hx H1
  go_wp2_with fail
  refine Calls.mono HM.out ?_
  rintro e w3 ⟨rfl, s3, u3⟩
  rw [E1.out]
  have HS3 : Aside (StockAt w3 p G n (putAt u k ((u k).moved 7))) := by rw [E2.out] at s3; exact s3
  have HU3 : Aside (Upd (fun b => b = G) w w3) := HU.out.trans u3 (fun _ _ x => x)
  clear s3 u3 HM HU
  go_wp2
  go_ret2
  exact ⟨rfl, HS3.out, HU3.out⟩

theorem stk_pick_none {w : World} {p G n : Nat} {u : Nat → Itm} (h : StockAt w p G n u) (s : Int) (hn : ∀ j, j < n → pickB u s j = false) :
    Calls Try.prog 10 #[.pointer (some ⟨p, 0, none⟩), .int .i64 s] w fun e w' => e = .returned (.tuple #[.int .i64 0, .int .i64 14]) ∧ Below w.heap.size w w' := by
  have HB : Aside (Below w.heap.size w (w.alloc (.cells #[.int .i64 s] 3))) := (Below.refl _ _).alloc (Nat.le_refl _) _
  have h1 := h.below HB.out
  obtain ⟨a, c, hx, ha, -⟩ := h1.box
  have HI : Aside _ := stk_index w.heap.size s a G n c u (w.alloc (.cells #[.int .i64 s] 3)) h1.few ha h1.row (by simp)
  have HN : Hid (∀ j, j < n → pickB u s j = false) := hn
  clear h h1 ha hn
  go_enter Try.func10, Try.ntmps10
  go_wp2_with fail
  refine Calls.mono HI.out ?_
  rintro e w2 ⟨⟨i, rfl, hi⟩, b2⟩
  obtain rfl := least_no hi HN.out
  have HB2 : Aside (Below w.heap.size w w2) := HB.out.trans (b2.mono HB.out.size)
  clear hi b2 HI hx
  go_wp2
  go_ret2
  exact ⟨rfl, HB2.out⟩
end Go.Proofs.Ytakdodcdgmbhaaa
