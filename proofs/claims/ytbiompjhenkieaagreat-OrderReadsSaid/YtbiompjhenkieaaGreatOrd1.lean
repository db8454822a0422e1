/-
  Package order: isFrom, isPrice, isSold, first. Conditions: those of each theorem. Package order: areRightLines, areRightSupplies. Conditions: those of each theorem. Package order: areRightSupplies. Conditions: those of each theorem. Package order: isRight, areRight. Conditions: those of each theorem. Package order: areRight, howMany. Conditions: those of each theorem.
-/
import Derived.Test.YtbiompjhenkieaaGreatCfgX
import Derived.Test.YtbiompjhenkieaaGreatTabOf
import Derived.Test.YtbiompjhenkieaaGreatUnitX
namespace Go.Proofs.YtbiompjhenkieaaGreat
open Go.RowKit
set_option maxRecDepth 100000

theorem ord_fromInt (l v m : Int) (w : World) : Calls Tryz.prog 84 #[.int .i64 l, .int .i64 v, .int .i64 m] w fun e w' => e = .returned (.bool (decide (l ≤ v ∧ v ≤ m))) ∧ w' = w := by
  by_cases h1 : l ≤ v
  · by_cases h2 : v ≤ m
    · rw [decide_eq_true ⟨h1, h2⟩]
      go_enter Tryz.func84, Tryz.ntmps84
      go_wp2
      go_ret
      exact ⟨rfl, rfl⟩
    · rw [decide_eq_false (fun h => h2 h.2)]
      go_enter Tryz.func84, Tryz.ntmps84
      go_wp2
      go_ret
      exact ⟨rfl, rfl⟩
  · rw [decide_eq_false (fun h => h1 h.1)]
    go_enter Tryz.func84, Tryz.ntmps84
    go_wp2
    go_ret
    exact ⟨rfl, rfl⟩
theorem ord_fromI64 (l v m : Int) (w : World) : Calls Tryz.prog 103 #[.int .i64 l, .int .i64 v, .int .i64 m] w fun e w' => e = .returned (.bool (decide (l ≤ v ∧ v ≤ m))) ∧ w' = w := by
  by_cases h1 : l ≤ v
  · by_cases h2 : v ≤ m
    · rw [decide_eq_true ⟨h1, h2⟩]
      go_enter Tryz.func103, Tryz.ntmps103
      go_wp2
      go_ret
      exact ⟨rfl, rfl⟩
    · rw [decide_eq_false (fun h => h2 h.2)]
      go_enter Tryz.func103, Tryz.ntmps103
      go_wp2
      go_ret
      exact ⟨rfl, rfl⟩
  · rw [decide_eq_false (fun h => h1 h.1)]
    go_enter Tryz.func103, Tryz.ntmps103
    go_wp2
    go_ret
    exact ⟨rfl, rfl⟩
theorem ord_isPrice (v : Int) (w : World) : Calls Tryz.prog 85 #[.int .i64 v] w fun e w' => e = .returned (.bool (priceB v)) ∧ w' = w := by
  have h := ord_fromI64 0 v 1073741824 w
  rw [show decide (0 ≤ v ∧ v ≤ 1073741824) = priceB v from rfl] at h
  generalize priceB v = q at *
  have H : Aside _ := h
  clear h
  go_enter Tryz.func85, Tryz.ntmps85
  go_wp2_with fail
  refine (Calls.mono H.out ?_)
  rintro e w1 ⟨rfl, rfl⟩
  go_wp2
  go_ret
  exact ⟨rfl, rfl⟩

def soldB (s p c : Int) : Bool := skuB s && priceB p && countB c
theorem supB_sold (s : Sup) : supB s = soldB s.sku s.price s.count := rfl
set_option maxHeartbeats 1000000 in
theorem ord_isSold (s p c : Int) (w : World) : Calls Tryz.prog 57 #[.int .i64 s, .int .i64 p, .int .i64 c] w fun e w' => e = .returned (.bool (soldB s p c)) ∧ w' = w := by
  have HS : Aside (Calls Tryz.prog 84 #[.int .i64 1, .int .i64 s, .int .i64 1000] w fun e w' => e = .returned (.bool (skuB s)) ∧ w' = w) := ord_fromInt 1 s 1000 w
  have HP : Aside (Calls Tryz.prog 85 #[.int .i64 p] w fun e w' => e = .returned (.bool (priceB p)) ∧ w' = w) := ord_isPrice p w
  have HC : Aside (Calls Tryz.prog 84 #[.int .i64 1, .int .i64 c, .int .i64 50] w fun e w' => e = .returned (.bool (countB c)) ∧ w' = w) := ord_fromInt 1 c 50 w
  unfold soldB
  generalize skuB s = q1 at *
  generalize priceB p = q2 at *
  generalize countB c = q3 at *
  cases q1 with
  | false =>
    go_enter Tryz.func57, Tryz.ntmps57
    go_wp2_with fail
    refine (Calls.mono HS.out ?_)
    rintro e w1 ⟨rfl, rfl⟩
    go_wp2
    go_ret
    exact ⟨rfl, rfl⟩
  | true =>
    cases q2 with
    | false =>
      go_enter Tryz.func57, Tryz.ntmps57
      go_wp2_with fail
      refine (Calls.mono HS.out ?_)
      rintro e w1 ⟨rfl, rfl⟩
      go_wp2_with fail
      refine (Calls.mono HP.out ?_)
      rintro e w1 ⟨rfl, rfl⟩
      go_wp2
      go_ret
      exact ⟨rfl, rfl⟩
    | true =>
      go_enter Tryz.func57, Tryz.ntmps57
      go_wp2_with fail
      refine (Calls.mono HS.out ?_)
      rintro e w1 ⟨rfl, rfl⟩
      go_wp2_with fail
      refine (Calls.mono HP.out ?_)
      rintro e w1 ⟨rfl, rfl⟩
      go_wp2_with fail
      refine (Calls.mono HC.out ?_)
      rintro e w1 ⟨rfl, rfl⟩
      go_wp2
      go_ret
      exact ⟨by simp, rfl⟩

/-- Where the first supply of a SKU is. -/
def FirstAt (ss : List Sup) (sku i : Int) : Prop := (∃ k : Nat, i = k ∧ (∃ h : k < ss.length, ss[k].sku = sku) ∧ ∀ j (h : j < k) (h2 : j < ss.length), ss[j].sku ≠ sku) ∨ (i = -1 ∧ ∀ j (h : j < ss.length), ss[j].sku ≠ sku)

theorem ord_first1 (s : Sup) (B : Nat) (sku : Int) (w : World) (hB : w.cell? ⟨B, 0, none⟩ = some (.int .i64 sku)) :
    Calls Tryz.prog 88 #[.agg s.arr, .pointer (some ⟨B, 0, none⟩)] w fun e w' => e = .returned (.bool (s.sku == sku)) ∧ Below w.heap.size w w' := by
  have hlt : B < w.heap.size := World.block_lt_of_cell? _ _ hB
  have hB2 : (w.alloc (.cells s.arr 42)).cell? ⟨B, 0, none⟩ = some (.int .i64 sku) := ((Below.refl w.heap.size w).alloc (Nat.le_refl _) (.cells s.arr 42)).cell (p := ⟨B, 0, none⟩) hlt |>.trans hB
  unfold Sup.arr at *
  go_enter Tryz.func88, Tryz.ntmps88
  go_wp2
  go_ret
  exact ⟨rfl, (Below.refl _ _).alloc (Nat.le_refl _) _⟩

set_option maxHeartbeats 1000000 in
theorem ord_index (B : Nat) (sku : Int) (a : Option Addr) (ss : List Sup) (n c : Nat) (w : World) (hm : n ≤ maxLen) (hn : ss.length = n) (hp : SupsAt w a ss) (hB : w.cell? ⟨B, 0, none⟩ = some (.int .i64 sku)) :
    Calls Tryz.prog 87 #[.slice a n c, .func (.func 88) #[] #[.pointer (some ⟨B, 0, none⟩)]] w fun e w' => (∃ i : Int, e = .returned (.int .i64 i) ∧ FirstAt ss sku i) ∧ Below w.heap.size w w' := by
  have HN := Lib.hid hn
  unfold maxLen at hm
  have hlt : B < w.heap.size := World.block_lt_of_cell? _ _ hB
  have HBX := Lib.hid hB
  clear hn hB
  go_enter Tryz.func87, Tryz.ntmps87
  go_wp2
  go_loopw [8] (fun i wr => ∃ k : Nat, k ≤ n ∧ i = .int .i64 k ∧ Aside (Below w.heap.size w wr) ∧ Hid (∀ j (h : j < k) (h2 : j < ss.length), ss[j].sku ≠ sku)) (fun i _ => n - (intOf i).toNat)
  case atStart => exact ⟨0, Nat.zero_le _, rfl, Below.refl _ _, fun j h => absurd h (Nat.not_lt_zero _)⟩
  case round =>
    obtain ⟨k, hk, rfl, HB, HK⟩ := hrel
    by_cases hlt2 : k < n
    · have hkn : (k : Int) < (n : Int) := by omega
      rcases hp with rfl | ⟨b, off, rfl, hb, hc⟩
      · have := HN.out; simp at this; omega
      have hlk : k < ss.length := by rw [HN.out]; exact hlt2
      have hpk := (hc k hlk).below HB.out hb
      obtain ⟨z0, z1, z2⟩ := SupAt.all hpk
      have HF : Hid ((ss[k].sku == sku) = true → FirstAt ss sku k) := fun e => .inl ⟨k, rfl, ⟨hlk, by simpa using e⟩, fun j h h2 => HK.out j h h2⟩
      have HT : Hid ((ss[k].sku == sku) = false → ∀ j (h : j < k + 1) (h2 : j < ss.length), ss[j].sku ≠ sku) := fun e j h h2 => by
        by_cases hj : j = k
        · subst hj; simpa using e
        · exact HK.out j (by omega) h2
      have hBr : wr.cell? ⟨B, 0, none⟩ = some (.int .i64 sku) := (HB.out.cell (p := ⟨B, 0, none⟩) hlt).trans HBX.out
      have HG : Aside _ := ord_first1 ss[k] B sku wr hBr
      clear hpk hc
      generalize ss[k] = s at *
      obtain ⟨q, hq⟩ : ∃ q, q = (s.sku == sku) := ⟨_, rfl⟩
      rw [← hq] at HF HT HG
      clear hq
      go_wp2_with fail
      refine (Calls.mono HG.out ?_)
      rintro e w2 ⟨rfl, b2⟩
      have HB2 : Aside (Below w.heap.size w w2) := HB.out.trans (b2.mono HB.out.size)
      clear b2 z0 z1 z2 hBr HG
      cases q with
      | true =>
        have HA := Lib.hid (HF.out rfl)
        go_wp2
        go_ret
        exact ⟨⟨_, rfl, HA.out⟩, HB2.out⟩
      | false =>
        have HA := Lib.hid (HT.out rfl)
        go_wp2
        go_roundw
        case rel => exact ⟨k + 1, by omega, by go_num, HB2.out, HA.out⟩
        case measure => simp [intOf]; omega
    · obtain rfl : k = n := by omega
      have HA : Hid (FirstAt ss sku (-1)) := .inr ⟨rfl, fun j h => HK.out j (by have := HN.out; omega) h⟩
      go_wp2
      go_ret
      exact ⟨⟨_, rfl, HA.out⟩, HB.out⟩

theorem ord_first (sku : Int) (a : Option Addr) (ss : List Sup) (n c : Nat) (w : World) (hm : n ≤ maxLen) (hn : ss.length = n) (hp : SupsAt w a ss) :
    Calls Tryz.prog 58 #[.slice a n c, .int .i64 sku] w fun e w' => (∃ i : Int, e = .returned (.int .i64 i) ∧ FirstAt ss sku i) ∧ Below w.heap.size w w' := by
  have hb := (Below.refl w.heap.size w).alloc (Nat.le_refl _) (.cells #[.int .i64 sku] 3)
  have H : Aside _ := ord_index w.heap.size sku a ss n c (w.alloc (.cells #[.int .i64 sku] 3)) hm hn (hp.below hb) (by simp)
  have HB : Aside _ := hb
  clear hp hn hb
  go_enter Tryz.func58, Tryz.ntmps58
  go_wp2_with fail
  refine (Calls.mono H.out ?_)
  rintro e w1 ⟨⟨i, rfl, hi⟩, b1⟩
  have HI : Hid (FirstAt ss sku i) := hi
  have HB1 : Aside _ := HB.out.trans (b1.mono HB.out.size)
  clear hi H b1
  go_wp2
  go_ret
  exact ⟨⟨_, rfl, HI.out⟩, HB1.out⟩
end Go.Proofs.YtbiompjhenkieaaGreat

namespace Go.Proofs.YtbiompjhenkieaaGreat
open Go.RowKit
set_option maxRecDepth 100000

theorem lineB_sold (cats : Nat) (l : Ln) : lineB cats l = (decide (0 ≤ l.cat ∧ l.cat < cats) && soldB l.sku l.price l.count) := by
  unfold lineB soldB
  generalize skuB l.sku = a
  generalize decide (0 ≤ l.cat ∧ l.cat < cats) = b
  cases a <;> cases b <;> simp


set_option maxHeartbeats 4000000 in
theorem ord_lines (a aT : Option Addr) (ls : List Ln) (ps : List Pol) (n c nt ct : Nat) (w : World) (hm : n ≤ maxLen) (hn : ls.length = n) (hp : LnsAt w a ls) (ht : ps.length = nt) (hpt : PolsAt w aT ps) (hmt : nt ≤ maxLen) :
    Calls Tryz.prog 86 #[.slice a n c, .slice aT nt ct] w fun e w' => e = .returned (.bool (ls.all (lineB nt))) ∧ Below w.heap.size w w' := by
  unfold maxLen at hm
  have HN := Lib.hid hn
  have HPT : Aside (∀ (W : World) (i : Int), Below w.heap.size w W → Calls Tryz.prog 104 #[.slice aT nt ct, .int .i64 i] W fun e w' => ∃ q : Pol, e = .returned (.tuple #[.agg q.arr, .int .i64 (if decide (0 ≤ i ∧ i < nt) then 0 else 10)]) ∧ Below W.heap.size W w') := fun W i h => by
    refine (table_of aT ps nt ct i W ht (hpt.below h) hmt).mono ?_
    rintro e w' ⟨(⟨rfl, h1, h2⟩ | ⟨rfl, h1⟩), hb⟩
    · exact ⟨_, by rw [decide_eq_true ⟨h1, h2⟩]; rfl, hb⟩
    · exact ⟨_, by rw [decide_eq_false h1]; rfl, hb⟩
  clear hn ht hpt hmt
  go_enter Tryz.func86, Tryz.ntmps86
  go_wp2
  go_loopw [11] (fun i wr => ∃ k : Nat, k ≤ n ∧ i = .int .i64 k ∧ Aside (Below w.heap.size w wr) ∧ Hid ((ls.take k).all (lineB nt) = true)) (fun i _ => n - (intOf i).toNat)
  case atStart => exact ⟨0, Nat.zero_le _, rfl, Below.refl _ _, rfl⟩
  case round =>
    obtain ⟨k, hk, rfl, HB, HK⟩ := hrel
    by_cases hlt2 : k < n
    · have hkn : (k : Int) < (n : Int) := by omega
      rcases hp with rfl | ⟨b, off, rfl, hb, hc⟩
      · have := HN.out; simp at this; omega
      have hlk : k < ls.length := by rw [HN.out]; exact hlt2
      have hpk := (hc k hlk).below HB.out hb
      obtain ⟨z0, z1, z2, z3⟩ := LnAt.all hpk
      have HF : Hid (lineB nt ls[k] = false → ls.all (lineB nt) = false) := fun e => List.all_eq_false.2 ⟨_, List.getElem_mem hlk, by simp [e]⟩
      have HT : Hid (lineB nt ls[k] = true → (ls.take (k + 1)).all (lineB nt) = true) := fun e => by
        rw [List.take_succ_eq_append_getElem hlk, List.all_append, HK.out]
        simp [e]
      clear hpk hc
      rw [lineB_sold] at HF HT
      generalize ls[k] = l at *
      have HB1 : Aside (Below w.heap.size w (wr.alloc (.cells l.arr 54))) := HB.out.alloc HB.out.size _
      have HA1 : Aside (ArrAt (wr.alloc (.cells l.arr 54)) wr.heap.size 0 l.arr) := arr_new wr l.arr _
      go_upto_region 4 with (fail)
      show Code.wp _ _ _ _ (wr.alloc (.cells l.arr 54))
      clear z0 z1 z2 z3 HK
      generalize wr.alloc (.cells l.arr 54) = w1 at *
      generalize wr.heap.size = g at *
      obtain ⟨y0, y1, y2, y3⟩ := LnAt.all HA1.out
      simp only [Nat.zero_add] at y1 y2 y3
      have HO : Aside _ := HPT.out w1 l.cat HB1.out
      clear y0 y2 y3
      generalize hq : decide (0 ≤ l.cat ∧ l.cat < nt) = q at *
      clear hq
      go_wp2_with fail
      refine (Calls.mono HO.out ?_)
      rintro e w2 ⟨p, rfl, b2⟩
      have HB2 : Aside (Below w.heap.size w w2) := HB1.out.trans (b2.mono HB1.out.size)
      have HA2 : Aside (ArrAt w2 g 0 l.arr) := HA1.out.grown b2
      clear b2 HO HB1 HA1 y1
      cases q with
      | false =>
        have HX := Lib.hid (HF.out rfl)
        clear HF HT
        unfold Pol.arr
        go_wp2
        go_ret
        exact ⟨by rw [HX.out]; rfl, HB2.out.alloc HB2.out.size _⟩
      | true =>
        have HB3 : Aside (Below w.heap.size w (w2.alloc (.cells p.arr 64))) := HB2.out.alloc HB2.out.size _
        have HA3 : Aside (ArrAt (w2.alloc (.cells p.arr 64)) g 0 l.arr) := HA2.out.grown (upd_box _)
        unfold Pol.arr at *
        go_upto_region 5 with (fail)
        show Code.wp _ _ _ _ (w2.alloc (.cells _ 64))
        clear HB2 HA2
        generalize w2.alloc (.cells _ 64) = w3 at *
        obtain ⟨y0, y1, y2, y3⟩ := LnAt.all HA3.out
        simp only [Nat.zero_add] at y1 y2 y3
        clear y1
        have HS : Aside _ := ord_isSold l.sku l.price l.count w3
        rw [Bool.true_and] at HF HT
        generalize soldB l.sku l.price l.count = q at *
        go_wp2_with fail
        refine (Calls.mono HS.out ?_)
        rintro e w4 ⟨rfl, rfl⟩
        clear HS y0 y2 y3
        cases q with
        | false =>
          have HX := Lib.hid (HF.out rfl)
          clear HF HT
          go_wp2
          go_ret
          exact ⟨by rw [HX.out]; rfl, HB3.out⟩
        | true =>
          have HX := Lib.hid (HT.out rfl)
          clear HF HT
          go_wp2
          go_roundw
          case rel => exact ⟨k + 1, by omega, by go_num, HB3.out, HX.out⟩
          case measure => simp [intOf]; omega
    · obtain rfl : k = n := by omega
      have HA : Hid (ls.all (lineB nt) = true) := by
        have := HK.out
        rwa [List.take_of_length_le (by rw [HN.out]; exact Nat.le_refl _)] at this
      go_wp2
      go_ret
      exact ⟨by rw [HA.out]; rfl, HB.out⟩
end Go.Proofs.YtbiompjhenkieaaGreat

namespace Go.Proofs.YtbiompjhenkieaaGreat
open Go.RowKit
set_option maxRecDepth 100000

theorem getD_sup {ss : List Sup} {k : Nat} (h : k < ss.length) : (ss[k]?).getD ⟨0, 0, 0⟩ = ss[k] := by simp [h]
theorem freshB_yes {ss : List Sup} {k : Nat} (h : k < ss.length) (hf : ∀ j (hj : j < k), (ss[j]'(by omega)).sku ≠ ss[k].sku) : freshB ss k = true := by
  unfold freshB
  rw [List.all_eq_true]
  intro j hj
  have hj' := List.mem_range.1 hj
  rw [getD_sup h, getD_sup (show j < ss.length by omega)]
  exact decide_eq_true (hf j hj')
theorem freshB_no {ss : List Sup} {k j : Nat} (h : k < ss.length) (hj : j < k) (hf : (ss[j]'(by omega)).sku = ss[k].sku) : freshB ss k = false := by
  unfold freshB
  rw [List.all_eq_false]
  refine ⟨j, List.mem_range.2 hj, ?_⟩
  rw [getD_sup h, getD_sup (show j < ss.length by omega), decide_eq_false (fun x => x hf)]
  decide
theorem first_fresh {ss : List Sup} {k : Nat} {i : Int} (h : k < ss.length) (hi : FirstAt ss ss[k].sku i) : (i != (k : Int)) = !freshB ss k := by
  rcases hi with ⟨m, rfl, ⟨hm, e⟩, hb⟩ | ⟨rfl, hb⟩
  · by_cases hk : m = k
    · subst hk
      rw [freshB_yes h (fun j hj => hb j hj (by omega))]
      simp
    · rcases Nat.lt_or_ge m k with x | x
      · rw [freshB_no h x e]
        simp; omega
      · exact absurd rfl (hb k (by omega) h)
  · exact absurd rfl (hb k h)

set_option maxHeartbeats 4000000 in
theorem ord_sups (a : Option Addr) (ss : List Sup) (n c : Nat) (w : World) (hm : n ≤ maxLen) (hn : ss.length = n) (hp : SupsAt w a ss) :
    Calls Tryz.prog 34 #[.slice a n c] w fun e w' => e = .returned (.bool (ss.all supB && freshAll ss)) ∧ Below w.heap.size w w' := by
  have HN := Lib.hid hn
  have hmm := hm
  unfold maxLen at hm
  have HFI : Aside (∀ (W : World) (s : Int), Below w.heap.size w W → Calls Tryz.prog 58 #[.slice a n c, .int .i64 s] W fun e w' => (∃ i : Int, e = .returned (.int .i64 i) ∧ FirstAt ss s i) ∧ Below W.heap.size W w') := fun W s h => ord_first s a ss n c W hmm hn (hp.below h)
  clear hn hmm
  go_enter Tryz.func34, Tryz.ntmps34
  go_wp2
  go_loopw [7] (fun i wr => ∃ k : Nat, k ≤ n ∧ i = .int .i64 k ∧ Aside (Below w.heap.size w wr) ∧ Hid ((ss.take k).all supB = true ∧ (List.range k).all (freshB ss) = true)) (fun i _ => n - (intOf i).toNat)
  case atStart => exact ⟨0, Nat.zero_le _, rfl, Below.refl _ _, rfl, rfl⟩
  case round =>
    obtain ⟨k, hk, rfl, HB, HK⟩ := hrel
    by_cases hlt2 : k < n
    · have hkn : (k : Int) < (n : Int) := by omega
      rcases hp with rfl | ⟨b, off, rfl, hb, hc⟩
      · have := HN.out; simp at this; omega
      have hlk : k < ss.length := by rw [HN.out]; exact hlt2
      have hpk := (hc k hlk).below HB.out hb
      obtain ⟨z0, z1, z2⟩ := SupAt.all hpk
      have HF : Hid (supB ss[k] = false → (ss.all supB && freshAll ss) = false) := fun e => by
        rw [show ss.all supB = false from List.all_eq_false.2 ⟨_, List.getElem_mem hlk, by simp [e]⟩, Bool.false_and]
      have HFR : Hid (freshB ss k = false → (ss.all supB && freshAll ss) = false) := fun e => by
        rw [show freshAll ss = false from List.all_eq_false.2 ⟨k, List.mem_range.2 hlk, by simp [e]⟩, Bool.and_false]
      have HT : Hid (supB ss[k] = true → freshB ss k = true → (ss.take (k + 1)).all supB = true ∧ (List.range (k + 1)).all (freshB ss) = true) := fun e f => by
        rw [List.take_succ_eq_append_getElem hlk, List.all_append, HK.out.1, List.range_succ, List.all_append, HK.out.2]
        simp [e, f]
      have HI : Hid (∀ i, FirstAt ss ss[k].sku i → (i != (k : Int)) = !freshB ss k) := fun i h => first_fresh hlk h
      clear hpk hc
      rw [supB_sold] at HF HT
      generalize ss[k] = s at *
      have HB1 : Aside (Below w.heap.size w (wr.alloc (.cells s.arr 42))) := HB.out.alloc HB.out.size _
      have HA1 : Aside (ArrAt (wr.alloc (.cells s.arr 42)) wr.heap.size 0 s.arr) := arr_new wr s.arr _
      go_upto_region 4 with (fail)
      show Code.wp _ _ _ _ (wr.alloc (.cells s.arr 42))
      clear z0 z1 z2 HK
      generalize wr.alloc (.cells s.arr 42) = w1 at *
      generalize wr.heap.size = g at *
      obtain ⟨y0, y1, y2⟩ := SupAt.all HA1.out
      simp only [Nat.zero_add] at y1 y2
      have HS : Aside _ := ord_isSold s.sku s.price s.count w1
      have HO : Aside _ := HFI.out w1 s.sku HB1.out
      generalize soldB s.sku s.price s.count = q at *
      generalize freshB ss k = f at *
      go_wp2_with fail
      refine (Calls.mono HS.out ?_)
      rintro e w2 ⟨rfl, rfl⟩
      clear HS y1 y2
      cases q with
      | false =>
        have HX := Lib.hid (HF.out rfl)
        clear HF HT HFR HO y0 HI
        go_wp2
        go_ret
        exact ⟨by rw [HX.out]; rfl, HB1.out⟩
      | true =>
        go_wp2_with fail
        refine (Calls.mono HO.out ?_)
        rintro e w3 ⟨⟨i, rfl, hi⟩, b3⟩
        have hne := HI.out i hi
        have HB3 : Aside (Below w.heap.size w w3) := HB1.out.trans (b3.mono HB1.out.size)
        clear hi b3 HO HI HB1 HA1 y0
        cases f with
        | false =>
          have HX := Lib.hid (HFR.out rfl)
          clear HF HT HFR
          simp only [Bool.not_false] at hne
          go_wp2
          go_ret
          exact ⟨by rw [HX.out]; rfl, HB3.out⟩
        | true =>
          have HX : Hid ((ss.take (k + 1)).all supB = true ∧ (List.range (k + 1)).all (freshB ss) = true) := by first | exact HT.out (by decide) (by decide) | exact HT.out (by decide)
          clear HF HT HFR
          simp only [Bool.not_true] at hne
          go_wp2
          go_roundw
          case rel => exact ⟨k + 1, by omega, by go_num, HB3.out, HX.out⟩
          case measure => simp [intOf]; omega
    · obtain rfl : k = n := by omega
      have HA : Hid ((ss.all supB && freshAll ss) = true) := by
        have h1 := HK.out.1
        have h2 := HK.out.2
        rw [List.take_of_length_le (by rw [HN.out]; exact Nat.le_refl _)] at h1
        show _ = _
        unfold freshAll
        rw [HN.out, h1, h2]
        rfl
      go_wp2
      go_ret
      exact ⟨by rw [HA.out]; rfl, HB.out⟩
end Go.Proofs.YtbiompjhenkieaaGreat

namespace Go.Proofs.YtbiompjhenkieaaGreat
open Go.RowKit
set_option maxRecDepth 100000

theorem ordB_parts (nt : Nat) (x : Ord) : ordB nt x = (decide (0 ≤ x.day ∧ x.day ≤ 100000) && (priceB x.disc && (priceB x.tax && (priceB x.ship && (decide (1 ≤ (x.lines.length : Int) ∧ (x.lines.length : Int) ≤ 8) && (x.lines.all (lineB nt) && decide (x.disc ≤ total x.lines))))))) := by
  unfold ordB headB
  have e : decide (1 ≤ x.lines.length ∧ x.lines.length ≤ 8) = decide (1 ≤ (x.lines.length : Int) ∧ (x.lines.length : Int) ≤ 8) := by
    rw [decide_eq_decide]; omega
  rw [e]
  generalize decide (0 ≤ x.day ∧ x.day ≤ 100000) = a
  generalize decide (1 ≤ (x.lines.length : Int) ∧ (x.lines.length : Int) ≤ 8) = b
  generalize priceB x.disc = c
  generalize priceB x.tax = d
  generalize priceB x.ship = f
  cases a <;> cases b <;> cases c <;> cases d <;> cases f <;> rfl
theorem lines_counts {nt : Nat} {ls : List Ln} (h : ls.all (lineB nt) = true) : ∀ l ∈ ls, 1 ≤ l.count ∧ l.count ≤ 50 := fun l hl => (line_ok (List.all_eq_true.1 h l hl)).count
theorem prices_told {nt : Nat} {ls : List Ln} (h : ls.all (lineB nt) = true) (hn : ls.length ≤ 8) : sumOf 0 (prices ls) = some (total ls) := by
  have hb := total_bounds h
  rw [← prices_sum h] at *
  refine sum_right (List.all_eq_true.2 fun p hp => ?_) (by omega)
  have := prices_all h p hp
  exact decide_eq_true (by omega)

set_option maxHeartbeats 4000000 in
theorem ord_isRight (x : Ord) (a aT : Option Addr) (n c nt ct : Nat) (ps : List Pol) (w : World) (hl : x.lines.length = n) (hm : n ≤ maxLen) (hp : LnsAt w a x.lines) (ht : ps.length = nt) (hpt : PolsAt w aT ps) (hmt : nt ≤ maxLen) :
    Calls Tryz.prog 56 #[.agg (ordCells x.day a n c x.disc x.tax x.ship), .slice aT nt ct] w fun e w' => e = .returned (.bool (ordB nt x)) ∧ Below w.heap.size w w' := by
  have HQ := Lib.hid (ordB_parts nt x)
  rw [hl] at HQ
  have HL := Lib.hid hl
  have hb1 : Below w.heap.size w (w.alloc (.cells (ordCells x.day a n c x.disc x.tax x.ship) 45)) := (Below.refl _ _).alloc (Nat.le_refl _) _
  have HB1 : Aside _ := hb1
  have HA1 : Aside _ := arr_new w (ordCells x.day a n c x.disc x.tax x.ship) 45
  have HP1 : Aside _ := hp.below hb1
  have HLN : Aside _ := ord_lines a aT x.lines ps n c nt ct (w.alloc (.cells (ordCells x.day a n c x.disc x.tax x.ship) 45)) hm hl (hp.below hb1) ht (hpt.below hb1) hmt
  have hm' := hm
  unfold maxLen at hm'
  clear hb1 hp hpt ht hmt hm
  go_enter Tryz.func56, Tryz.ntmps56
  go_upto_region 1 with (fail)
  show Code.wp _ _ _ _ (w.alloc (.cells (ordCells x.day a n c x.disc x.tax x.ship) 45))
  generalize w.alloc (.cells (ordCells x.day a n c x.disc x.tax x.ship) 45) = w1 at *
  obtain ⟨y0, y1, y2, y3, y4⟩ := ordAt_all HA1.out
  simp only [Nat.zero_add] at y1 y2 y3 y4
  have HD : Aside _ := ord_fromInt 0 x.day 100000 w1
  have H1 : Aside _ := ord_isPrice x.disc w1
  have H2 : Aside _ := ord_isPrice x.tax w1
  have H3 : Aside _ := ord_isPrice x.ship w1
  have H5 : Aside _ := ord_fromInt 1 n 8 w1
  have E5 := Lib.hid (show decide (1 ≤ (n : Int) ∧ (n : Int) ≤ 8) = decide (1 ≤ (n : Int) ∧ (n : Int) ≤ 8) from rfl)
  have E6 := Lib.hid (show x.lines.all (lineB nt) = x.lines.all (lineB nt) from rfl)
  generalize decide (0 ≤ x.day ∧ x.day ≤ 100000) = qd at *
  generalize priceB x.disc = q1 at *
  generalize priceB x.tax = q2 at *
  generalize priceB x.ship = q3 at *
  obtain ⟨q5, h5⟩ : ∃ q, decide (1 ≤ (n : Int) ∧ (n : Int) ≤ 8) = q := ⟨_, rfl⟩
  obtain ⟨q6, h6⟩ : ∃ q, x.lines.all (lineB nt) = q := ⟨_, rfl⟩
  rw [h5] at HQ H5
  rw [h6] at HQ HLN
  have E5 := Lib.hid h5
  have E6 := Lib.hid h6
  clear h5 h6
  go_wp2_with fail
  refine (Calls.mono HD.out ?_)
  rintro e w2 ⟨rfl, rfl⟩
  clear HD
  cases qd with
  | false =>
    go_wp2
    go_ret
    exact ⟨by rw [HQ.out]; rfl, HB1.out⟩
  | true =>
  go_wp2_with fail
  refine (Calls.mono H1.out ?_)
  rintro e w2 ⟨rfl, rfl⟩
  clear H1
  cases q1 with
  | false =>
    go_wp2
    go_ret
    exact ⟨by rw [HQ.out]; rfl, HB1.out⟩
  | true =>
  go_wp2_with fail
  refine (Calls.mono H2.out ?_)
  rintro e w2 ⟨rfl, rfl⟩
  clear H2
  cases q2 with
  | false =>
    go_wp2
    go_ret
    exact ⟨by rw [HQ.out]; rfl, HB1.out⟩
  | true =>
  go_wp2_with fail
  refine (Calls.mono H3.out ?_)
  rintro e w2 ⟨rfl, rfl⟩
  clear H3
  cases q3 with
  | false =>
    go_wp2
    go_ret
    exact ⟨by rw [HQ.out]; rfl, HB1.out⟩
  | true =>
  go_wp2_with fail
  refine (Calls.mono H5.out ?_)
  rintro e w2 ⟨rfl, rfl⟩
  clear H5
  cases q5 with
  | false =>
    go_wp2
    go_ret
    exact ⟨by rw [HQ.out]; rfl, HB1.out⟩
  | true =>
  have hn8 : n ≤ 8 := by have := of_decide_eq_true E5.out; omega
  go_wp2_with fail
  refine (Calls.mono HLN.out ?_)
  rintro e w2 ⟨rfl, b2⟩
  have HB2 : Aside (Below w.heap.size w w2) := HB1.out.trans (b2.mono (by have := HA1.out.lt; omega))
  have HA2 : Aside _ := HA1.out.grown b2
  have HP2 : Aside _ := LnsAt.below HP1.out b2
  clear HLN y0 y1 y2 y3 y4 b2 HB1 HA1 HP1
  cases q6 with
  | false =>
    go_wp2
    go_ret
    exact ⟨by rw [HQ.out]; rfl, HB2.out⟩
  | true =>
  have HPR : Aside _ := ord_prices x.day x.disc x.tax x.ship a x.lines n c w2 HL.out hn8 HP2.out (lines_counts E6.out)
  have hcs := HA2.out.cells
  obtain ⟨y0, y1, y2, y3, y4⟩ := ordAt_all HA2.out
  simp only [Nat.zero_add] at y1 y2 y3 y4
  go_wp2_with fail
  refine (Calls.mono HPR.out ?_)
  rintro e w3 ⟨⟨a', m, c', rfl, hm1, hm2, hm3, hm4⟩, b3⟩
  have HB3 : Aside (Below w.heap.size w w3) := HB2.out.trans (b3.mono (by have := HA2.out.lt; omega))
  have HA3 : Aside _ := HA2.out.grown b3
  have hsum := cents_sum a' (prices x.lines) m c' w3 hm1 hm4 (by omega)
  rw [prices_told E6.out (by rw [HL.out]; exact hn8)] at hsum
  have HS : Aside (Calls _ _ _ w3 fun e w' => e = .returned (.tuple #[.int .i64 (total x.lines), .int .i64 0]) ∧ w3 = w') := hsum
  clear HPR hcs y0 y1 y2 y3 y4 HB2 HA2 HP2 b3 hsum hm1 hm2 hm3 hm4
  obtain ⟨y0, y1, y2, y3, y4⟩ := ordAt_all HA3.out
  simp only [Nat.zero_add] at y1 y2 y3 y4
  clear y0 y1 y3 y4
  generalize total x.lines = T at *
  go_wp2_with fail
  refine (Calls.mono HS.out ?_)
  rintro e w4 ⟨rfl, rfl⟩
  go_wp2
  go_ret
  exact ⟨by rw [HQ.out]; simp, HB3.out⟩
end Go.Proofs.YtbiompjhenkieaaGreat

namespace Go.Proofs.YtbiompjhenkieaaGreat
open Go.RowKit
set_option maxRecDepth 100000

set_option maxHeartbeats 4000000 in
theorem ord_areRight (a aT : Option Addr) (os : List Ord) (ps : List Pol) (n c nt ct : Nat) (w : World) (hm : n ≤ maxLen) (hn : os.length = n) (hp : OrdsAt w a os) (ht : ps.length = nt) (hpt : PolsAt w aT ps) (hmt : nt ≤ maxLen) :
    Calls Tryz.prog 33 #[.slice a n c, .slice aT nt ct] w fun e w' => e = .returned (.bool (os.all (ordB nt))) ∧ Below w.heap.size w w' := by
  unfold maxLen at hm
  have HN := Lib.hid hn
  have HPT : Aside (∀ (W : World) (x : Ord) (a' : Option Addr) (n' c' : Nat), Below w.heap.size w W → x.lines.length = n' → n' ≤ maxLen → LnsAt W a' x.lines → Calls Tryz.prog 56 #[.agg (ordCells x.day a' n' c' x.disc x.tax x.ship), .slice aT nt ct] W fun e w' => e = .returned (.bool (ordB nt x)) ∧ Below W.heap.size W w') := fun W x a' n' c' h h1 h2 h3 =>
    ord_isRight x a' aT n' c' nt ct ps W h1 h2 h3 ht (hpt.below h) hmt
  clear hn ht hpt hmt
  go_enter Tryz.func33, Tryz.ntmps33
  go_wp2
  go_loopw [9] (fun i wr => ∃ k : Nat, k ≤ n ∧ i = .int .i64 k ∧ Aside (Below w.heap.size w wr) ∧ Hid ((os.take k).all (ordB nt) = true)) (fun i _ => n - (intOf i).toNat)
  case atStart => exact ⟨0, Nat.zero_le _, rfl, Below.refl _ _, rfl⟩
  case round =>
    obtain ⟨k, hk, rfl, HB, HK⟩ := hrel
    by_cases hlt2 : k < n
    · have hkn : (k : Int) < (n : Int) := by omega
      rcases hp with rfl | ⟨b, off, rfl, hb, hc⟩
      · have := HN.out; simp at this; omega
      have hlk : k < os.length := by rw [HN.out]; exact hlt2
      obtain ⟨a', n', c', hA, h2, h3, h4, h5⟩ := hc k hlk
      have hA2 := hA.below HB.out hb
      obtain ⟨z0, z1, z2, z3, z4⟩ := ordAt_all hA2
      have HF : Hid (ordB nt os[k] = false → os.all (ordB nt) = false) := fun e => List.all_eq_false.2 ⟨_, List.getElem_mem hlk, by simp [e]⟩
      have HT : Hid (ordB nt os[k] = true → (os.take (k + 1)).all (ordB nt) = true) := fun e => by
        rw [List.take_succ_eq_append_getElem hlk, List.all_append, HK.out]
        simp [e]
      have HLN : Aside (LnsAt wr a' os[k].lines) := h5.below HB.out
      have HL := Lib.hid h2
      have hnm : n' ≤ maxLen := Nat.le_trans h3 h4
      have HNM := Lib.hid hnm
      clear hc hA hA2 h2 h3 h4 h5 hnm
      generalize os[k] = x at *
      have HB1 : Aside (Below w.heap.size w (wr.alloc (.cells (ordCells x.day a' n' c' x.disc x.tax x.ship) 45))) := HB.out.alloc HB.out.size _
      have HA1 : Aside (ArrAt (wr.alloc (.cells (ordCells x.day a' n' c' x.disc x.tax x.ship) 45)) wr.heap.size 0 (ordCells x.day a' n' c' x.disc x.tax x.ship)) := arr_new wr _ _
      have HL1 : Aside (LnsAt (wr.alloc (.cells (ordCells x.day a' n' c' x.disc x.tax x.ship) 45)) a' x.lines) := LnsAt.below HLN.out (upd_box _)
      go_upto_region 4 with (fail)
      show Code.wp _ _ _ _ (wr.alloc (.cells (ordCells x.day a' n' c' x.disc x.tax x.ship) 45))
      clear z0 z1 z2 z3 z4 HK HLN
      generalize wr.alloc (.cells (ordCells x.day a' n' c' x.disc x.tax x.ship) 45) = w1 at *
      generalize wr.heap.size = g at *
      obtain ⟨y0, y1, y2, y3, y4⟩ := ordAt_all HA1.out
      simp only [Nat.zero_add] at y1 y2 y3 y4
      have HO : Aside _ := HPT.out w1 x a' n' c' HB1.out HL.out HNM.out HL1.out
      generalize ordB nt x = q at *
      go_wp2_with fail
      refine (Calls.mono HO.out ?_)
      rintro e w2 ⟨rfl, b2⟩
      have HB2 : Aside (Below w.heap.size w w2) := HB1.out.trans (b2.mono HB1.out.size)
      clear b2 HO HB1 HA1 y0 y1 y2 y3 y4 HL1
      cases q with
      | false =>
        have HX := Lib.hid (HF.out rfl)
        clear HF HT
        go_wp2
        go_ret
        exact ⟨by rw [HX.out]; rfl, HB2.out⟩
      | true =>
        have HX := Lib.hid (HT.out rfl)
        clear HF HT
        go_wp2
        go_roundw
        case rel => exact ⟨k + 1, by omega, by go_num, HB2.out, HX.out⟩
        case measure => simp [intOf]; omega
    · obtain rfl : k = n := by omega
      have HA : Hid (os.all (ordB nt) = true) := by
        have := HK.out
        rwa [List.take_of_length_le (by rw [HN.out]; exact Nat.le_refl _)] at this
      go_wp2
      go_ret
      exact ⟨by rw [HA.out]; rfl, HB.out⟩

theorem counts_range {cats : Nat} : ∀ {os : List Ord}, os.all (ordB cats) = true → 0 ≤ countsO os ∧ countsO os ≤ 400 * os.length
  | [], _ => by simp [countsO]
  | x :: os, h => by
    rw [List.all_cons, Bool.and_eq_true] at h
    have hb := h.1
    unfold ordB headB at hb
    simp only [Bool.and_eq_true, decide_eq_true_eq] at hb
    have h1 := total_bounds hb.1.2
    have ih := counts_range h.2
    have h2 := hb.1.1.1.1.1.2
    simp only [countsO, List.length_cons]
    omega
theorem countsS_range : ∀ {ss : List Sup}, ss.all supB = true → 0 ≤ countsS ss ∧ countsS ss ≤ 50 * ss.length
  | [], _ => by simp [countsS]
  | x :: ss, h => by
    rw [List.all_cons, Bool.and_eq_true] at h
    have h1 := (sup_ok h.1).count
    have ih := countsS_range h.2
    simp only [countsS, List.length_cons]
    omega

set_option maxHeartbeats 4000000 in
theorem ord_howMany (aO aS aT : Option Addr) (no co ns cs nt ct : Nat) (C : Cfg) (w : World) (hC : CfgIs w aO no aS ns aT nt C) (h1 : C.orders.all (ordB nt) = true) (h2 : C.sups.all supB = true) (h3 : no ≤ 20) (h4 : ns ≤ 20) :
    Calls Tryz.prog 35 #[.agg (cfgCells aO no co aS ns cs aT nt ct)] w fun e w' => e = .returned (.int .i64 (countsO C.orders + countsS C.sups)) ∧ Below w.heap.size w w' := by
  have H1 := Lib.hid h1
  have H2 := Lib.hid h2
  have hb0 : Below w.heap.size w (w.alloc (.cells (cfgCells aO no co aS ns cs aT nt ct) 26)) := (Below.refl _ _).alloc (Nat.le_refl _) _
  have HB0 : Aside _ := hb0
  have HC : Aside _ := hC.below hb0
  have HA0 : Aside _ := arr_new w (cfgCells aO no co aS ns cs aT nt ct) 26
  clear h1 h2 hC hb0
  go_enter Tryz.func35, Tryz.ntmps35
  go_upto_region 1 with (fail)
  show Code.wp _ _ _ _ (w.alloc (.cells (cfgCells aO no co aS ns cs aT nt ct) 26))
  generalize w.alloc (.cells (cfgCells aO no co aS ns cs aT nt ct) 26) = w0 at *
  have hoa := HC.out.oa
  have HN := Lib.hid HC.out.ol
  obtain ⟨y0, y1, y2⟩ := cfgAt_all HA0.out
  simp only [Nat.zero_add] at y1 y2
  go_wp2
  clear y0 y1 y2
  go_loopw [3, 13] (fun v i wr => ∃ (k : Nat) (s : Int), k ≤ no ∧ i = .int .i64 k ∧ v = .int .i64 s ∧ 0 ≤ s ∧ s ≤ 400 * k ∧ Hid (s = countsO (C.orders.take k)) ∧ Aside (Below w.heap.size w wr) ∧ Aside (Below w0.heap.size w0 wr)) (fun _ i _ => no - (intOf i).toNat)
  case atStart => exact ⟨0, 0, Nat.zero_le _, rfl, rfl, Int.le_refl _, Int.le_refl _, rfl, HB0.out, Below.refl _ _⟩
  case round =>
    obtain ⟨k, s, hk, rfl, rfl, hs0, hs1, HS, HB, HBW⟩ := hrel
    by_cases hlt2 : k < no
    · have hkn : (k : Int) < (no : Int) := by omega
      rcases hoa with hnil | ⟨b, off, rfl, hb, hc⟩
      · have := HN.out; rw [hnil] at this; simp at this; omega
      have hlk : k < C.orders.length := by rw [HN.out]; exact hlt2
      obtain ⟨a', n', c', hA, h2, h3, h4, h5⟩ := hc k hlk
      have hA2 := hA.below HBW.out hb
      obtain ⟨z0, z1, z2, z3, z4⟩ := ordAt_all hA2
      have hob := List.all_eq_true.1 H1.out _ (List.getElem_mem hlk)
      have HTK := Lib.hid (countsO_take C.orders k hlk)
      have hlns := h5.below HBW.out
      have hL := h2
      have hlall : C.orders[k].lines.all (lineB nt) = true ∧ C.orders[k].lines.length ≤ 8 := by
        unfold ordB headB at hob
        simp only [Bool.and_eq_true, decide_eq_true_eq] at hob
        exact ⟨hob.1.2, hob.1.1.1.1.1.2.2⟩
      clear hc hA hA2 h2 h3 h4 h5 hob
      generalize C.orders[k] = x at *
      have hn8 : n' ≤ 8 := by omega
      have HLA := Lib.hid hlall.1
      have HL := Lib.hid hL
      have hbn : Below wr.heap.size wr (wr.alloc (.cells (ordCells x.day a' n' c' x.disc x.tax x.ship) 45)) := upd_box _
      have HB1 : Aside (Below w.heap.size w (wr.alloc (.cells (ordCells x.day a' n' c' x.disc x.tax x.ship) 45))) := HB.out.alloc HB.out.size _
      have HBW1 : Aside (Below w0.heap.size w0 (wr.alloc (.cells (ordCells x.day a' n' c' x.disc x.tax x.ship) 45))) := HBW.out.alloc HBW.out.size _
      have HA1 : Aside (ArrAt (wr.alloc (.cells (ordCells x.day a' n' c' x.disc x.tax x.ship) 45)) wr.heap.size 0 (ordCells x.day a' n' c' x.disc x.tax x.ship)) := arr_new wr _ _
      have hL1 := hlns.below hbn
      go_upto_region 5 with (fail)
      show Code.wp _ _ _ _ (wr.alloc (.cells (ordCells x.day a' n' c' x.disc x.tax x.ship) 45))
      clear z0 z1 z2 z3 z4 hlns hbn HB HBW hL hlall
      generalize wr.alloc (.cells (ordCells x.day a' n' c' x.disc x.tax x.ship) 45) = w1 at *
      generalize wr.heap.size = g at *
      obtain ⟨y0, y1, y2, y3, y4⟩ := ordAt_all HA1.out
      simp only [Nat.zero_add] at y1 y2 y3 y4
      go_wp2
      clear y0 y1 y2 y3 y4
      go_loopw [3, 20] (fun v i wr => ∃ (j : Nat) (t : Int), j ≤ n' ∧ i = .int .i64 j ∧ v = .int .i64 t ∧ s ≤ t ∧ t ≤ s + 50 * j ∧ Hid (t = s + counts (x.lines.take j)) ∧ Aside (Below w1.heap.size w1 wr)) (fun _ i _ => n' - (intOf i).toNat)
      case atStart => exact ⟨0, s, Nat.zero_le _, rfl, rfl, Int.le_refl _, by omega, by show s = s + 0; omega, Below.refl _ _⟩
      case round =>
        obtain ⟨j, t, hj, rfl, rfl, ht0, ht1, HT, HBI⟩ := hrel
        by_cases hlt3 : j < n'
        · have hjn : (j : Int) < (n' : Int) := by omega
          rcases hL1 with hnil | ⟨bl, ol, rfl, hbl, hcl⟩
          · have := HL.out; rw [hnil] at this; simp at this; omega
          have hlj : j < x.lines.length := by rw [HL.out]; exact hlt3
          obtain ⟨z0, z1, z2, z3⟩ := LnAt.all ((hcl j hlj).below HBI.out hbl)
          have hcn := lines_counts HLA.out _ (List.getElem_mem hlj)
          have HTK2 := Lib.hid (counts_take x.lines j hlj)
          clear hcl
          generalize x.lines[j] = l at *
          have HBI2 : Aside (Below w1.heap.size w1 (wr.alloc (.cells l.arr 54))) := HBI.out.alloc HBI.out.size _
          have HA2 : Aside (ArrAt (wr.alloc (.cells l.arr 54)) wr.heap.size 0 l.arr) := arr_new wr l.arr _
          go_upto_region 8 with (fail)
          show Code.wp _ _ _ _ (wr.alloc (.cells l.arr 54))
          clear z0 z1 z2 z3 HBI
          generalize wr.alloc (.cells l.arr 54) = w2 at *
          generalize wr.heap.size = g2 at *
          obtain ⟨y0, y1, y2, y3⟩ := LnAt.all HA2.out
          simp only [Nat.zero_add] at y1 y2 y3
          clear y0 y1 y2
          generalize l.count = ct2 at *
          have hw : IntKind.i64.wrap (t + ct2) = t + ct2 := by rw [IntKind.wrap_i64]; omega
          go_wp2
          go_roundw
          case rel => exact ⟨j + 1, t + ct2, by omega, by go_num, by go_num, by omega, by omega, by show _ = _; rw [HTK2.out, HT.out]; omega, HBI2.out⟩
          case measure => simp [intOf]; omega
        · obtain rfl : j = n' := by omega
          have HT2 : Hid (t = countsO (C.orders.take (k + 1))) := by
            show _ = _
            have := HT.out
            rw [List.take_of_length_le (by rw [HL.out]; exact Nat.le_refl _)] at this
            rw [HTK.out, this, HS.out]
          have HB3 : Aside (Below w.heap.size w wr) := HB1.out.trans (HBI.out.mono HB1.out.size)
          have HB4 : Aside (Below w0.heap.size w0 wr) := HBW1.out.trans (HBI.out.mono HBW1.out.size)
          go_wp2
          go_roundw
          case rel => exact ⟨k + 1, t, by omega, by go_num, rfl, by omega, by omega, HT2.out, HB3.out, HB4.out⟩
          case measure => simp [intOf]; omega
    · obtain rfl : k = no := by omega
      have HS2 : Hid (s = countsO C.orders) := by
        have := HS.out
        rwa [List.take_of_length_le (by rw [HN.out]; exact Nat.le_refl _)] at this
      have HA3 : Aside _ := HA0.out.grown HBW.out
      have hsa := (HC.out.sa).below HBW.out
      have HNS := Lib.hid HC.out.sl
      obtain ⟨y0, y1, y2⟩ := cfgAt_all HA3.out
      simp only [Nat.zero_add] at y1 y2
      clear HBW HS hoa
      generalize wr = wo at *
      go_wp2
      clear y0 y1 y2
      go_loopw [3, 33] (fun v i wr => ∃ (j : Nat) (t : Int), j ≤ ns ∧ i = .int .i64 j ∧ v = .int .i64 t ∧ s ≤ t ∧ t ≤ s + 50 * j ∧ Hid (t = s + countsS (C.sups.take j)) ∧ Aside (Below wo.heap.size wo wr)) (fun _ i _ => ns - (intOf i).toNat)
      case atStart => exact ⟨0, s, Nat.zero_le _, rfl, rfl, Int.le_refl _, by omega, by show s = s + 0; omega, Below.refl _ _⟩
      case round =>
        obtain ⟨j, t, hj, rfl, rfl, ht0, ht1, HT, HBI⟩ := hrel
        by_cases hlt3 : j < ns
        · have hjn : (j : Int) < (ns : Int) := by omega
          rcases hsa with hnil | ⟨bl, ol, rfl, hbl, hcl⟩
          · have := HNS.out; rw [hnil] at this; simp at this; omega
          have hlj : j < C.sups.length := by rw [HNS.out]; exact hlt3
          obtain ⟨z0, z1, z2⟩ := SupAt.all ((hcl j hlj).below HBI.out hbl)
          have hcn := (sup_ok (List.all_eq_true.1 H2.out _ (List.getElem_mem hlj))).count
          have HTK2 := Lib.hid (countsS_take C.sups j hlj)
          clear hcl
          generalize C.sups[j] = l at *
          have HBI2 : Aside (Below wo.heap.size wo (wr.alloc (.cells l.arr 42))) := HBI.out.alloc HBI.out.size _
          have HA2 : Aside (ArrAt (wr.alloc (.cells l.arr 42)) wr.heap.size 0 l.arr) := arr_new wr l.arr _
          go_upto_region 14 with (fail)
          show Code.wp _ _ _ _ (wr.alloc (.cells l.arr 42))
          clear z0 z1 z2 HBI
          generalize wr.alloc (.cells l.arr 42) = w2 at *
          generalize wr.heap.size = g2 at *
          obtain ⟨y0, y1, y2⟩ := SupAt.all HA2.out
          simp only [Nat.zero_add] at y1 y2
          clear y0 y1
          generalize l.count = ct2 at *
          have hw : IntKind.i64.wrap (t + ct2) = t + ct2 := by rw [IntKind.wrap_i64]; omega
          go_wp2
          go_roundw
          case rel => exact ⟨j + 1, t + ct2, by omega, by go_num, by go_num, by omega, by omega, by show _ = _; rw [HTK2.out, HT.out]; omega, HBI2.out⟩
          case measure => simp [intOf]; omega
        · obtain rfl : j = ns := by omega
          have HT2 : Hid (t = countsO C.orders + countsS C.sups) := by
            show _ = _
            have := HT.out
            rw [List.take_of_length_le (by rw [HNS.out]; exact Nat.le_refl _)] at this
            rw [this, HS2.out]
          have HB3 : Aside (Below w.heap.size w wr) := HB.out.trans (HBI.out.mono HB.out.size)
          go_wp2
          go_ret
          exact ⟨by rw [← HT2.out]; rfl, HB3.out⟩
end Go.Proofs.YtbiompjhenkieaaGreat
