/-
  The document's right configs: recoupref05.price, RightConfig. Conditions: those of each theorem.
-/
import Derived.Test.YtbiompjhenkieaaGreatCfgX
import Derived.Test.YtbiompjhenkieaaGreatPolX
import Derived.BigQuiet
import Derived.Deep.DeepCutAuto
namespace Go.Proofs.YtbiompjhenkieaaGreat
open Go.RowKit
set_option maxRecDepth 100000

theorem ref_price (n : Int) (w : World) : Calls Tryz.prog 18 #[.int .i64 n] w fun e w' => e = .returned (.bool (priceB n)) ∧ w' = w := by
  by_cases h1 : 0 ≤ n
  · by_cases h2 : n ≤ 1073741824
    · rw [show priceB n = true from decide_eq_true ⟨h1, h2⟩]
      go_enter Tryz.func18, Tryz.ntmps18
      go_wp2
      go_ret
      exact ⟨rfl, rfl⟩
    · rw [show priceB n = false from decide_eq_false (fun h => h2 h.2)]
      go_enter Tryz.func18, Tryz.ntmps18
      go_wp2
      go_ret
      exact ⟨rfl, rfl⟩
  · rw [show priceB n = false from decide_eq_false (fun h => h1 h.1)]
    go_enter Tryz.func18, Tryz.ntmps18
    go_wp2
    go_ret
    exact ⟨rfl, rfl⟩

theorem right_table {C : Cfg} (h : rightT C.table = false) : rightC C = false := by simp [rightC, h]
theorem right_orders {C : Cfg} (h : ¬ C.orders.length ≤ 20) : rightC C = false := by simp [rightC, h]
theorem right_sups {C : Cfg} (h : ¬ C.sups.length ≤ 20) : rightC C = false := by simp [rightC, h]
theorem right_order {C : Cfg} {x : Ord} (hx : x ∈ C.orders) (h : ordB C.table.length x = false) : rightC C = false := by
  have : C.orders.all (ordB C.table.length) = false := List.all_eq_false.2 ⟨x, hx, by rw [h]; decide⟩
  simp [rightC, this]
theorem right_sup {C : Cfg} {x : Sup} (hx : x ∈ C.sups) (h : supB x = false) : rightC C = false := by
  have : C.sups.all supB = false := List.all_eq_false.2 ⟨x, hx, by rw [h]; decide⟩
  simp [rightC, this]
theorem right_fresh {C : Cfg} {i : Nat} (hi : i < C.sups.length) (h : freshB C.sups i = false) : rightC C = false := by
  have : freshAll C.sups = false := List.all_eq_false.2 ⟨i, List.mem_range.2 hi, by rw [h]; decide⟩
  simp [rightC, this]
theorem ord_head {cats : Nat} {x : Ord} (h : headB x = false) : ordB cats x = false := by simp [ordB, h]
theorem ord_line {cats : Nat} {x : Ord} {l : Ln} (hl : l ∈ x.lines) (h : lineB cats l = false) : ordB cats x = false := by
  have : x.lines.all (lineB cats) = false := List.all_eq_false.2 ⟨l, hl, by rw [h]; decide⟩
  simp [ordB, this]
theorem ord_disc {cats : Nat} {x : Ord} (h : ¬ x.disc ≤ total x.lines) : ordB cats x = false := by simp [ordB, h]
theorem all_take {α : Type} {f : α → Bool} {xs : List α} {k : Nat} (h : (xs.take k).all f = true) (hk : k < xs.length) (hf : f xs[k] = true) : (xs.take (k + 1)).all f = true := by
  rw [List.take_succ_eq_append_getElem hk, List.all_append, h]
  simp [hf]

theorem countsO_bounds (cats : Nat) : ∀ {os : List Ord} {k : Nat}, os.all (ordB cats) = true → os.length ≤ k → 0 ≤ countsO os ∧ countsO os ≤ 400 * k
  | [], k, _, _ => by simp only [countsO]; omega
  | x :: os, k, h, hk => by
    rw [List.all_cons, Bool.and_eq_true] at h
    obtain ⟨h1, h2⟩ := h
    unfold ordB headB at h1
    simp only [Bool.and_eq_true] at h1
    have hb := total_bounds h1.1.2
    have hl := of_decide_eq_true h1.1.1.1.1.1.2
    have ih := countsO_bounds cats (k := k - 1) h2 (by simp at hk; omega)
    simp only [countsO]
    simp at hk
    omega

theorem countsS_bounds : ∀ {os : List Sup} {k : Nat}, os.all supB = true → os.length ≤ k → 0 ≤ countsS os ∧ countsS os ≤ 50 * k
  | [], k, _, _ => by simp only [countsS]; omega
  | x :: os, k, h, hk => by
    rw [List.all_cons, Bool.and_eq_true] at h
    obtain ⟨h1, h2⟩ := h
    have hb := (sup_ok h1).count
    have ih := countsS_bounds (k := k - 1) h2 (by simp at hk; omega)
    simp only [countsS]
    simp at hk
    omega

set_option maxHeartbeats 8000000 in
theorem ref_rightConfig (aO aS aT : Option Addr) (no co ns cs nt ct : Nat) (C : Cfg) (w : World) (hC : CfgIs w aO no aS ns aT nt C) :
    Calls Tryz.prog 8 #[.agg (cfgCells aO no co aS ns cs aT nt ct)] w fun e w' => e = .returned (.bool (rightC C)) ∧ Below w.heap.size w w' := by
  have hbox := arr_new w (cfgCells aO no co aS ns cs aT nt ct) 26
  have HBX : Aside _ := hbox
  have HB : Aside (Below w.heap.size w (w.alloc (.cells (cfgCells aO no co aS ns cs aT nt ct) 26))) := (Below.refl _ _).alloc (Nat.le_refl _) _
  have hwl : w.heap.size < (w.alloc (.cells (cfgCells aO no co aS ns cs aT nt ct) 26)).heap.size := by simp
  have HC : Aside (CfgIs (w.alloc (.cells (cfgCells aO no co aS ns cs aT nt ct) 26)) aO no aS ns aT nt C) := hC.below (Below.alloc (Below.refl _ _) (Nat.le_refl _) _)
  clear hbox hC
  obtain ⟨q, hq⟩ : ∃ q, q = rightC C := ⟨_, rfl⟩
  rw [← hq]
  have HQ := Lib.hid hq
  clear hq
  go_enter Tryz.func8, Tryz.ntmps8
  go_upto_region 1 with (fail)
  show Code.wp _ _ _ _ (w.alloc (.cells (cfgCells aO no co aS ns cs aT nt ct) 26))
  generalize w.alloc (.cells (cfgCells aO no co aS ns cs aT nt ct) 26) = w1 at *
  have HRT : Aside _ := ref_rightTable aT C.table nt ct w1 HC.out.tl HC.out.ta HC.out.tm
  obtain ⟨c0, c1, c2⟩ := cfgAt_all HBX.out
  simp only [Nat.zero_add] at c0 c1 c2
  cases ht : rightT C.table with
  | false =>
    obtain rfl : q = false := HQ.out.trans (right_table ht)
    have HRT2 := HRT.out
    rw [ht] at HRT2
    have HRT3 : Aside _ := HRT2
    clear HRT HRT2 ht
    go_wp2_with fail
    refine Calls.mono HRT3.out ?_
    rintro e w2 ⟨rfl, b2⟩
    go_wp2
    go_ret
    exact ⟨rfl, HB.out.trans (b2.mono HB.out.size)⟩
  | true =>
    have HRT2 := HRT.out
    rw [ht] at HRT2
    have HRT3 : Aside _ := HRT2
    have HTF := Lib.hid ht
    clear HRT HRT2 ht
    go_wp2_with fail
    refine Calls.mono HRT3.out ?_
    rintro e w2 ⟨rfl, b2⟩
    have HB2 : Aside _ := HB.out.trans (b2.mono HB.out.size)
    have HBX2 : Aside _ := HBX.out.grown b2
    have HC2 : Aside _ := HC.out.below b2
    clear HRT3 b2 HB HBX HC c0 c1 c2 hwl
    obtain ⟨c0, c1, c2⟩ := cfgAt_all HBX2.out
    simp only [Nat.zero_add] at c0 c1 c2
    by_cases h20 : no ≤ 20
    · have h20' : ¬ (20 : Int) < no := by omega
      by_cases s20 : ns ≤ 20
      · have s20' : ¬ (20 : Int) < ns := by omega
        have hwl : w.heap.size < w2.heap.size := HBX2.out.lt
        go_wp2
        go_loopw [3, 31] (fun s i wr => ∃ k : Nat, k ≤ no ∧ i = .int .i64 k ∧ s = .int .i64 (countsO (C.orders.take k)) ∧ Aside (Below w2.heap.size w2 wr) ∧ Hid ((C.orders.take k).all (ordB C.table.length) = true)) (fun _ i _ => no - (intOf i).toNat)
        case atStart => exact ⟨0, Nat.zero_le _, rfl, rfl, Below.refl _ _, rfl⟩
        case round =>
          obtain ⟨k, hk, rfl, rfl, HR, HK⟩ := hrel
          have HBr : Aside (Below w.heap.size w wr) := HB2.out.trans (HR.out.mono HB2.out.size)
          have HBXr : Aside _ := HBX2.out.grown HR.out
          have HCr : Aside _ := HC2.out.below HR.out
          clear c0 c1 c2 hwl
          obtain ⟨c0, c1, c2⟩ := cfgAt_all HBXr.out
          simp only [Nat.zero_add] at c0 c1 c2
          have hwl : w.heap.size < wr.heap.size := HBXr.out.lt
          by_cases hlt : k < no
          · have hkn : (k : Int) < (no : Int) := by omega
            obtain ⟨b, off, rfl, hb, hrow⟩ := HCr.out.oa.at HCr.out.ol (by omega)
            have hlk : k < C.orders.length := by rw [HCr.out.ol]; exact hlt
            have hx := hrow k hlk
            have HX : Hid (ordB C.table.length C.orders[k] = false → q = false) := fun h => HQ.out.trans (right_order (List.getElem_mem hlk) h)
            have HT : Hid (ordB C.table.length C.orders[k] = true → (C.orders.take (k + 1)).all (ordB C.table.length) = true) := fun h => all_take HK.out hlk h
            have HU : Hid (countsO (C.orders.take (k + 1)) = countsO (C.orders.take k) + counts C.orders[k].lines) := countsO_take _ _ hlk
            have HUB : Hid (0 ≤ countsO (C.orders.take k) ∧ countsO (C.orders.take k) ≤ 400 * k) := countsO_bounds C.table.length HK.out (by rw [List.length_take]; omega)
            have hub := HUB.out
            clear hrow HUB
            generalize C.orders[k] = x at *
            generalize countsO (C.orders.take k) = U at *
            obtain ⟨al, nl, cl, hcells, hnl, hncl, hclm, hla⟩ := hx
            obtain ⟨o0, o1, o2, o3, o4⟩ := ordAt_all hcells
            have HL : Aside (LnsAt wr al x.lines) := hla
            have HNL := Lib.hid hnl
            clear hcells hnl hla
            go_upto_region 8 with (fail)
            have hbo := arr_new wr (ordCells x.day al nl cl x.disc x.tax x.ship) 45
            have HXB : Aside _ := hbo
            have hBw : Below wr.heap.size wr (wr.alloc (.cells (ordCells x.day al nl cl x.disc x.tax x.ship) 45)) := (Below.refl _ _).alloc (Nat.le_refl _) _
            have HB3 : Aside (Below w2.heap.size w2 _) := HR.out.trans (hBw.mono HR.out.size)
            have HL3 : Aside (LnsAt _ al x.lines) := LnsAt.below HL.out hBw
            have HBX3 : Aside _ := HBXr.out.grown hBw
            clear hbo hBw o0 o1 o2 o3 o4 c0 c1 c2 HL HBXr HCr HBr HR HK
            show Code.wp _ _ _ _ (wr.alloc (.cells (ordCells x.day al nl cl x.disc x.tax x.ship) 45))
            generalize wr.alloc (.cells (ordCells x.day al nl cl x.disc x.tax x.ship) 45) = w3 at *
            generalize wr.heap.size = go at *
            obtain ⟨o0, o1, o2, o3, o4⟩ := ordAt_all HXB.out
            simp only [Nat.zero_add] at o0 o1 o2 o3 o4
            go_cut [76] (fun s wx => s = .bool (!headB x) ∧ w3 = wx)
            case first =>
              as_aux_lemma =>
                have HH : Hid (headB x = (decide (0 ≤ x.day ∧ x.day ≤ 100000) && decide (1 ≤ nl ∧ nl ≤ 8) && priceB x.disc && priceB x.tax && priceB x.ship)) := by
                  show _ = _
                  unfold headB
                  rw [HNL.out]
                have HP1 : Aside (∀ W, _) := ref_price x.disc
                have HP2 : Aside (∀ W, _) := ref_price x.tax
                have HP3 : Aside (∀ W, _) := ref_price x.ship
                clear HQ HX HT HU HB3 HL3 HBX3 HXB hub HTF HNL
                generalize headB x = hh at *
                generalize x.day = dd at *
                generalize x.disc = x1 at *
                generalize x.tax = x2 at *
                generalize x.ship = x3 at *
                by_cases d0 : dd < 0
                · obtain rfl : hh = false := HH.out.trans (by rw [decide_eq_false (by omega)]; rfl)
                  clear HH
                  go_wp2_with fail
                  go_meet
                  exact ⟨rfl, rfl⟩
                by_cases d1 : 100000 < dd
                · obtain rfl : hh = false := HH.out.trans (by rw [decide_eq_false (by omega)]; rfl)
                  clear HH
                  go_wp2_with fail
                  go_meet
                  exact ⟨rfl, rfl⟩
                by_cases l0 : (nl : Int) < 1
                · obtain rfl : hh = false := HH.out.trans (by rw [decide_eq_false (p := 1 ≤ nl ∧ nl ≤ 8) (by omega)]; simp)
                  clear HH
                  go_wp2_with fail
                  go_meet
                  exact ⟨rfl, rfl⟩
                by_cases l1 : 8 < (nl : Int)
                · obtain rfl : hh = false := HH.out.trans (by rw [decide_eq_false (p := 1 ≤ nl ∧ nl ≤ 8) (by omega)]; simp)
                  clear HH
                  go_wp2_with fail
                  go_meet
                  exact ⟨rfl, rfl⟩
                have hh1 := HH.out
                rw [decide_eq_true (p := 0 ≤ dd ∧ dd ≤ 100000) (by omega), decide_eq_true (p := 1 ≤ nl ∧ nl ≤ 8) (by omega)] at hh1
                have HH1 := Lib.hid hh1
                clear hh1 HH
                cases k1 : priceB x1 with
                | false =>
                  obtain rfl : hh = false := HH1.out.trans (by rw [k1]; rfl)
                  rw [k1] at HP1
                  clear HH1 k1
                  go_wp2_with fail
                  refine Calls.mono (HP1.out _) ?_
                  rintro e w4 ⟨rfl, rfl⟩
                  go_wp2_with fail
                  go_meet
                  exact ⟨rfl, rfl⟩
                | true =>
                  rw [k1] at HP1
                  cases k2 : priceB x2 with
                  | false =>
                    obtain rfl : hh = false := HH1.out.trans (by rw [k1, k2]; rfl)
                    rw [k2] at HP2
                    clear HH1 k1 k2
                    go_wp2_with fail
                    refine Calls.mono (HP1.out _) ?_
                    rintro e w4 ⟨rfl, rfl⟩
                    go_wp2_with fail
                    refine Calls.mono (HP2.out _) ?_
                    rintro e w4 ⟨rfl, rfl⟩
                    go_wp2_with fail
                    go_meet
                    exact ⟨rfl, rfl⟩
                  | true =>
                    rw [k2] at HP2
                    obtain rfl : hh = priceB x3 := HH1.out.trans (by rw [k1, k2]; simp)
                    generalize priceB x3 = hh at *
                    clear HH1 k1 k2
                    go_wp2_with fail
                    refine Calls.mono (HP1.out _) ?_
                    rintro e w4 ⟨rfl, rfl⟩
                    go_wp2_with fail
                    refine Calls.mono (HP2.out _) ?_
                    rintro e w4 ⟨rfl, rfl⟩
                    go_wp2_with fail
                    refine Calls.mono (HP3.out _) ?_
                    rintro e w4 ⟨rfl, rfl⟩
                    go_wp2_with fail
                    go_meet
                    exact ⟨rfl, rfl⟩
            case rest =>
              obtain ⟨rfl, rfl⟩ := hcut
              cases hh : headB x with
              | false =>
                obtain rfl : q = false := HX.out (ord_head hh)
                clear hh
                go_wp2
                go_ret
                exact ⟨rfl, HB2.out.trans (HB3.out.mono HB2.out.size)⟩
              | true =>
                have HHB := Lib.hid hh
                have hnl8 : nl ≤ 8 := by
                  have h9 := hh
                  unfold headB at h9
                  simp only [Bool.and_eq_true] at h9
                  have := (of_decide_eq_true h9.1.1.1.2).2
                  have := HNL.out
                  omega
                clear hh
                generalize wr = wo1 at *
                go_wp2
                go_loopw [3, 6, 80] (fun s3 s6 i wq => ∃ m : Nat, m ≤ nl ∧ i = .int .i64 m ∧ s3 = .int .i64 (U + counts (x.lines.take m)) ∧ s6 = .int .i64 (total (x.lines.take m)) ∧ Aside (Below w3.heap.size w3 wq) ∧ Hid ((x.lines.take m).all (lineB nt) = true)) (fun _ _ i _ => nl - (intOf i).toNat)
                case atStart => exact ⟨0, Nat.zero_le _, rfl, by rw [show counts (x.lines.take 0) = 0 from rfl, Int.add_zero], rfl, Below.refl _ _, rfl⟩
                case round =>
                  obtain ⟨m, hm, rfl, rfl, rfl, HRq, HKq⟩ := hrel
                  have HBXq : Aside _ := HBX3.out.grown HRq.out
                  have HXBq : Aside _ := HXB.out.grown HRq.out
                  have HLq : Aside (LnsAt wr al x.lines) := LnsAt.below HL3.out HRq.out
                  have HTLq : Hid (C.table.length = nt) := HC2.out.tl
                  clear o0 o1 o2 o3 o4
                  obtain ⟨o0, o1, o2, o3, o4⟩ := ordAt_all HXBq.out
                  obtain ⟨c0, c1, c2⟩ := cfgAt_all HBXq.out
                  simp only [Nat.zero_add] at o0 o1 o2 o3 o4 c0 c1 c2
                  clear o0 o3 o4 c0 c1
                  by_cases hltm : m < nl
                  · have hmn : (m : Int) < (nl : Int) := by omega
                    obtain ⟨lb, lo, rfl, hlb, hlrow⟩ := HLq.out.at HNL.out (by omega)
                    have hlm : m < x.lines.length := by rw [HNL.out]; exact hltm
                    have hl := hlrow m hlm
                    have HLX : Hid (lineB nt x.lines[m] = false → q = false) := fun h => HX.out (ord_line (List.getElem_mem hlm) (by rw [HTLq.out]; exact h))
                    have HLT : Hid (lineB nt x.lines[m] = true → (x.lines.take (m + 1)).all (lineB nt) = true) := fun h => all_take HKq.out hlm h
                    have HCT : Hid (counts (x.lines.take (m + 1)) = counts (x.lines.take m) + x.lines[m].count) := counts_take _ _ hlm
                    have HTT : Hid (total (x.lines.take (m + 1)) = total (x.lines.take m) + x.lines[m].price * x.lines[m].count) := total_take _ _ hlm
                    have htb := total_bounds HKq.out
                    rw [List.length_take, HNL.out, Nat.min_eq_left hm] at htb
                    clear hlrow
                    generalize x.lines[m] = l at *
                    generalize counts (x.lines.take m) = cn at *
                    generalize total (x.lines.take m) = tn at *
                    obtain ⟨l0, l1, l2, l3⟩ := LnAt.all hl
                    clear hl
                    go_upto_region 15 with (fail)
                    have hbo := arr_new wr l.arr 54
                    have HLB : Aside _ := hbo
                    have hBw : Below wr.heap.size wr (wr.alloc (.cells l.arr 54)) := (Below.refl _ _).alloc (Nat.le_refl _) _
                    have HR5 : Aside (Below w3.heap.size w3 _) := HRq.out.trans (hBw.mono HRq.out.size)
                    have HBX5 : Aside _ := HBXq.out.grown hBw
                    clear hbo hBw o1 o2 c2 l0 l1 l2 l3 HBXq HXBq HLq HRq HKq
                    show Code.wp _ _ _ _ (wr.alloc (.cells l.arr 54))
                    generalize wr.alloc (.cells l.arr 54) = w5 at *
                    generalize wr.heap.size = gl at *
                    obtain ⟨l0, l1, l2, l3⟩ := LnAt.all HLB.out
                    obtain ⟨c0, c1, c2⟩ := cfgAt_all HBX5.out
                    simp only [Nat.zero_add] at l0 l1 l2 l3 c0 c1 c2
                    clear c0 c1
                    go_cut [124] (fun s wx => s = .bool (!lineB nt l) ∧ w5 = wx)
                    case first =>
                      as_aux_lemma =>
                        have HH : Hid (lineB nt l = (skuB l.sku && decide (0 ≤ l.cat ∧ l.cat < nt) && priceB l.price && countB l.count)) := rfl
                        have HP : Aside (∀ W, _) := ref_price l.price
                        clear HQ HX HT HU HB3 HL3 HBX3 HXB hub HTF HNL HLX HLT HCT HTT HBX5 HR5 HLB htb HHB HTLq
                        generalize lineB nt l = hh at *
                        generalize l.sku = y1 at *
                        generalize l.cat = y2 at *
                        generalize l.price = y3 at *
                        generalize l.count = y4 at *
                        by_cases a0 : y1 < 1
                        · obtain rfl : hh = false := HH.out.trans (by rw [show skuB y1 = false from decide_eq_false (by omega)]; rfl)
                          clear HH
                          go_wp2_with fail
                          go_meet
                          exact ⟨rfl, rfl⟩
                        by_cases a1 : 1000 < y1
                        · obtain rfl : hh = false := HH.out.trans (by rw [show skuB y1 = false from decide_eq_false (by omega)]; rfl)
                          clear HH
                          go_wp2_with fail
                          go_meet
                          exact ⟨rfl, rfl⟩
                        by_cases b0 : y2 < 0
                        · obtain rfl : hh = false := HH.out.trans (by rw [decide_eq_false (p := 0 ≤ y2 ∧ y2 < nt) (by omega)]; simp)
                          clear HH
                          go_wp2_with fail
                          go_meet
                          exact ⟨rfl, rfl⟩
                        by_cases b1 : (nt : Int) ≤ y2
                        · obtain rfl : hh = false := HH.out.trans (by rw [decide_eq_false (p := 0 ≤ y2 ∧ y2 < nt) (by omega)]; simp)
                          clear HH
                          go_wp2_with fail
                          go_meet
                          exact ⟨rfl, rfl⟩
                        have hh1 := HH.out
                        rw [show skuB y1 = true from decide_eq_true (by omega), decide_eq_true (p := 0 ≤ y2 ∧ y2 < nt) (by omega)] at hh1
                        have HH1 := Lib.hid hh1
                        clear hh1 HH
                        cases k1 : priceB y3 with
                        | false =>
                          obtain rfl : hh = false := HH1.out.trans (by rw [k1]; rfl)
                          rw [k1] at HP
                          clear HH1 k1
                          go_wp2_with fail
                          refine Calls.mono (HP.out _) ?_
                          rintro e w4 ⟨rfl, rfl⟩
                          go_wp2_with fail
                          go_meet
                          exact ⟨rfl, rfl⟩
                        | true =>
                          rw [k1] at HP
                          by_cases e0 : y4 < 1
                          · obtain rfl : hh = false := HH1.out.trans (by rw [show countB y4 = false from decide_eq_false (by omega)]; simp)
                            clear HH1 k1
                            go_wp2_with fail
                            refine Calls.mono (HP.out _) ?_
                            rintro e w4 ⟨rfl, rfl⟩
                            go_wp2_with fail
                            go_meet
                            exact ⟨rfl, rfl⟩
                          by_cases e1 : 50 < y4
                          · obtain rfl : hh = false := HH1.out.trans (by rw [show countB y4 = false from decide_eq_false (by omega)]; simp)
                            clear HH1 k1
                            go_wp2_with fail
                            refine Calls.mono (HP.out _) ?_
                            rintro e w4 ⟨rfl, rfl⟩
                            go_wp2_with fail
                            go_meet
                            exact ⟨rfl, rfl⟩
                          obtain rfl : hh = true := HH1.out.trans (by rw [k1, show countB y4 = true from decide_eq_true (by omega)]; rfl)
                          clear HH1 k1
                          go_wp2_with fail
                          refine Calls.mono (HP.out _) ?_
                          rintro e w4 ⟨rfl, rfl⟩
                          go_wp2_with fail
                          go_meet
                          exact ⟨by simp; omega, rfl⟩
                    case rest =>
                      obtain ⟨rfl, rfl⟩ := hcut
                      cases hh : lineB nt l with
                      | false =>
                        as_aux_lemma =>
                          obtain rfl : q = false := HLX.out hh
                          clear hh
                          go_wp2
                          go_ret
                          exact ⟨rfl, HB2.out.trans ((HB3.out.trans (HR5.out.mono HB3.out.size)).mono HB2.out.size)⟩
                      | true =>
                        have hlo := line_ok hh
                        have hlw := line_worth hlo
                        have hlc := hlo.count
                        have HLT2 : Hid ((x.lines.take (m + 1)).all (lineB nt) = true) := HLT.out hh
                        have hw1 : wrap64 (U + cn + l.count) = U + cn + l.count := by unfold wrap64; omega
                        have hw2 : wrap64 (l.price * l.count) = l.price * l.count := by unfold wrap64; omega
                        have hw3 : wrap64 (tn + l.price * l.count) = tn + l.price * l.count := by unfold wrap64; omega
                        have hw4 : IntKind.i64.wrap l.count = l.count := by rw [IntKind.wrap_i64]; omega
                        clear hh hlo hlw HLX HLT
                        as_aux_lemma =>
                          go_wp2
                          refine ⟨⟨m + 1, by omega, by go_num, ?_, ?_, HR5.out, HLT2.out⟩, ?_⟩
                          · rw [HCT.out, Int.add_assoc]
                          · rw [hw3, HTT.out]
                          · simp [intOf]; omega
                  · obtain rfl : m = nl := by omega
                    have hall := HKq.out
                    rw [List.take_of_length_le (by rw [HNL.out]; exact Nat.le_refl _)] at hall
                    rw [List.take_of_length_le (l := x.lines) (by rw [HNL.out]; exact Nat.le_refl _)]
                    have hno : ¬ m < m := Nat.lt_irrefl m
                    have HBq : Aside (Below w2.heap.size w2 wr) := HB3.out.trans (HRq.out.mono HB3.out.size)
                    clear HBXq HXBq HLq HKq HL3 HBX3 HXB c2 o1
                    by_cases hd : x.disc ≤ total x.lines
                    · have hT2 := HT.out (by
                        unfold ordB
                        rw [HHB.out, HTLq.out, hall, decide_eq_true hd]; rfl)
                      have HT2 := Lib.hid hT2
                      clear hall hT2 HT HX HHB
                      generalize total x.lines = tl at *
                      generalize hcl : counts x.lines = cl2 at *
                      as_aux_lemma =>
                        go_wp2
                        go_roundw
                        case rel => exact ⟨k + 1, by omega, by go_num, by rw [HU.out], HBq.out, HT2.out⟩
                        case measure => simp [intOf]; omega
                    · obtain rfl : q = false := HX.out (ord_disc hd)
                      clear hall HT HX HHB
                      generalize total x.lines = tl at *
                      generalize counts x.lines = cl2 at *
                      as_aux_lemma =>
                        go_wp2
                        go_ret
                        exact ⟨rfl, HB2.out.trans (HBq.out.mono HB2.out.size)⟩
          · obtain rfl : k = no := by omega
            have hall := HK.out
            have hOL := HCr.out.ol
            rw [List.take_of_length_le (by rw [hOL]; exact Nat.le_refl _)] at hall
            rw [List.take_of_length_le (l := C.orders) (by rw [hOL]; exact Nat.le_refl _)]
            have hub := countsO_bounds C.table.length (k := k) hall (by rw [hOL]; exact Nat.le_refl _)
            have HOA := Lib.hid hall
            have hUe : Hid (countsO C.orders = countsO C.orders) := rfl
            generalize hU : countsO C.orders = U at hUe hub ⊢
            have HU := Lib.hid hU
            clear hall hUe hU HB2 HBX2 HC2 HK HR hOL
            generalize wr = wo1 at *
            go_wp2
            go_loopw [3, 145] (fun s i wr => ∃ k2 : Nat, k2 ≤ ns ∧ i = .int .i64 k2 ∧ s = .int .i64 (U + countsS (C.sups.take k2)) ∧ Aside (Below wo1.heap.size wo1 wr) ∧ Hid ((C.sups.take k2).all supB = true ∧ (List.range k2).all (freshB C.sups) = true)) (fun _ i _ => ns - (intOf i).toNat)
            case atStart => exact ⟨0, Nat.zero_le _, rfl, by rw [show countsS (C.sups.take 0) = 0 from rfl, Int.add_zero], Below.refl _ _, rfl, rfl⟩
            case round =>
              obtain ⟨k2, hk2, rfl, rfl, HR, HK⟩ := hrel
              have HBX3 : Aside _ := HBXr.out.grown HR.out
              have HC3 : Aside _ := HCr.out.below HR.out
              have HB3 : Aside (Below w.heap.size w wr) := HBr.out.trans (HR.out.mono HBr.out.size)
              clear c0 c1 c2
              obtain ⟨c0, c1, c2⟩ := cfgAt_all HBX3.out
              simp only [Nat.zero_add] at c0 c1 c2
              clear c0 c2
              by_cases hlt2 : k2 < ns
              · have hkn2 : (k2 : Int) < (ns : Int) := by omega
                obtain ⟨sb, so, rfl, hsb, hsrow⟩ := HC3.out.sa.at HC3.out.sl (by omega)
                have hlk2 : k2 < C.sups.length := by rw [HC3.out.sl]; exact hlt2
                have hs := hsrow k2 hlk2
                have hgd : C.sups[k2] = (C.sups[k2]?).getD ⟨0, 0, 0⟩ := by simp [hlk2]
                have HX : Hid (supB C.sups[k2] = false → q = false) := fun h => HQ.out.trans (right_sup (List.getElem_mem hlk2) h)
                have HF : Hid (freshB C.sups k2 = false → q = false) := fun h => HQ.out.trans (right_fresh hlk2 h)
                have HT : Hid (supB C.sups[k2] = true → (C.sups.take (k2 + 1)).all supB = true) := fun h => all_take HK.out.1 hlk2 h
                have HT2 : Hid (freshB C.sups k2 = true → (List.range (k2 + 1)).all (freshB C.sups) = true) := fun h => by
                  rw [List.range_succ, List.all_append, HK.out.2]; simp [h]
                have HU2 : Hid (countsS (C.sups.take (k2 + 1)) = countsS (C.sups.take k2) + C.sups[k2].count) := countsS_take _ _ hlk2
                have hsb2 := countsS_bounds (k := k2) HK.out.1 (by rw [List.length_take]; omega)
                have HGD : Hid (C.sups[k2].sku = ((C.sups[k2]?).getD ⟨0, 0, 0⟩).sku) := by show _ = _; rw [← hgd]
                have HSR : Hid (∀ i, i < ns → wr.cell? ⟨sb, so + i * 3, none⟩ = some (.int .i64 ((C.sups[i]?).getD ⟨0, 0, 0⟩).sku)) := fun i hi => by
                  have hli : i < C.sups.length := by rw [HC3.out.sl]; exact hi
                  have := (SupAt.all (hsrow i hli)).1
                  rw [this]
                  simp [hli]
                clear hsrow hgd
                generalize C.sups[k2] = v at *
                generalize countsS (C.sups.take k2) = cs2 at *
                obtain ⟨s0, s1, s2⟩ := SupAt.all hs
                clear hs
                go_upto_region 27 with (fail)
                have hbo := arr_new wr v.arr 42
                have HVB : Aside _ := hbo
                have hBw : Below wr.heap.size wr (wr.alloc (.cells v.arr 42)) := (Below.refl _ _).alloc (Nat.le_refl _) _
                have HR5 : Aside (Below wo1.heap.size wo1 _) := HR.out.trans (hBw.mono HR.out.size)
                have HBX5 : Aside _ := HBX3.out.grown hBw
                have HSR5 : Hid (∀ i, i < ns → (wr.alloc (.cells v.arr 42)).cell? ⟨sb, so + i * 3, none⟩ = some (.int .i64 ((C.sups[i]?).getD ⟨0, 0, 0⟩).sku)) := fun i hi => (hBw.cell (p := ⟨sb, so + i * 3, none⟩) hsb).trans (HSR.out i hi)
                clear hbo hBw s0 s1 s2 c1 HBX3 HC3 HB3 HR HK HSR
                show Code.wp _ _ _ _ (wr.alloc (.cells v.arr 42))
                generalize wr.alloc (.cells v.arr 42) = w5 at *
                generalize wr.heap.size = gl at *
                obtain ⟨s0, s1, s2⟩ := SupAt.all HVB.out
                simp only [Nat.zero_add] at s0 s1 s2
                go_cut [176] (fun s wx => s = .bool (!supB v) ∧ w5 = wx)
                case first =>
                  as_aux_lemma =>
                    have HH : Hid (supB v = (skuB v.sku && priceB v.price && countB v.count)) := rfl
                    have HP : Aside (∀ W, _) := ref_price v.price
                    clear HQ HX HF HT HT2 HU2 HTF HGD HSR5 HBX5 HR5 HVB hsb2 hub HOA HU
                    generalize supB v = hh at *
                    generalize v.sku = y1 at *
                    generalize v.price = y3 at *
                    generalize v.count = y4 at *
                    by_cases a0 : y1 < 1
                    · obtain rfl : hh = false := HH.out.trans (by rw [show skuB y1 = false from decide_eq_false (by omega)]; rfl)
                      clear HH
                      go_wp2_with fail
                      go_meet
                      exact ⟨rfl, rfl⟩
                    by_cases a1 : 1000 < y1
                    · obtain rfl : hh = false := HH.out.trans (by rw [show skuB y1 = false from decide_eq_false (by omega)]; rfl)
                      clear HH
                      go_wp2_with fail
                      go_meet
                      exact ⟨rfl, rfl⟩
                    have hh1 := HH.out
                    rw [show skuB y1 = true from decide_eq_true (by omega)] at hh1
                    have HH1 := Lib.hid hh1
                    clear hh1 HH
                    cases k1 : priceB y3 with
                    | false =>
                      obtain rfl : hh = false := HH1.out.trans (by rw [k1]; rfl)
                      rw [k1] at HP
                      clear HH1 k1
                      go_wp2_with fail
                      refine Calls.mono (HP.out _) ?_
                      rintro e w4 ⟨rfl, rfl⟩
                      go_wp2_with fail
                      go_meet
                      exact ⟨rfl, rfl⟩
                    | true =>
                      rw [k1] at HP
                      by_cases e0 : y4 < 1
                      · obtain rfl : hh = false := HH1.out.trans (by rw [show countB y4 = false from decide_eq_false (by omega)]; simp)
                        clear HH1 k1
                        go_wp2_with fail
                        refine Calls.mono (HP.out _) ?_
                        rintro e w4 ⟨rfl, rfl⟩
                        go_wp2_with fail
                        go_meet
                        exact ⟨rfl, rfl⟩
                      by_cases e1 : 50 < y4
                      · obtain rfl : hh = false := HH1.out.trans (by rw [show countB y4 = false from decide_eq_false (by omega)]; simp)
                        clear HH1 k1
                        go_wp2_with fail
                        refine Calls.mono (HP.out _) ?_
                        rintro e w4 ⟨rfl, rfl⟩
                        go_wp2_with fail
                        go_meet
                        exact ⟨rfl, rfl⟩
                      obtain rfl : hh = true := HH1.out.trans (by rw [k1, show countB y4 = true from decide_eq_true (by omega)]; rfl)
                      clear HH1 k1
                      go_wp2_with fail
                      refine Calls.mono (HP.out _) ?_
                      rintro e w4 ⟨rfl, rfl⟩
                      go_wp2_with fail
                      go_meet
                      exact ⟨by simp; omega, rfl⟩
                case rest =>
                  obtain ⟨rfl, rfl⟩ := hcut
                  cases hh : supB v with
                  | false =>
                    as_aux_lemma =>
                      obtain rfl : q = false := HX.out hh
                      clear hh
                      go_wp2
                      go_ret
                      exact ⟨rfl, HBr.out.trans (HR5.out.mono HBr.out.size)⟩
                  | true =>
                    have hvo := (sup_ok hh).count
                    have HT1 : Hid ((C.sups.take (k2 + 1)).all supB = true) := HT.out hh
                    have hw1 : wrap64 (U + cs2 + v.count) = U + cs2 + v.count := by unfold wrap64; omega
                    clear hh HX HT
                    generalize wr = wo2 at *
                    go_wp2
                    go_loopw [178] (fun i wq => ∃ j : Nat, j ≤ k2 ∧ i = .int .i64 j ∧ Aside (Below w5.heap.size w5 wq) ∧ Hid (∀ k, k < j → ((C.sups[k]?).getD ⟨0, 0, 0⟩).sku ≠ ((C.sups[k2]?).getD ⟨0, 0, 0⟩).sku)) (fun i _ => k2 - (intOf i).toNat)
                    case atStart => exact ⟨0, Nat.zero_le _, rfl, Below.refl _ _, fun k hk => by omega⟩
                    case round =>
                      obtain ⟨j, hj, rfl, HRq, HKq⟩ := hrel
                      have HBXq : Aside _ := HBX5.out.grown HRq.out
                      have HVq : Aside _ := HVB.out.grown HRq.out
                      have hsl := Nat.lt_trans hsb (show gl < w5.heap.size from HVB.out.lt)
                      clear s0 s1 s2
                      obtain ⟨s0, s1, s2⟩ := SupAt.all HVq.out
                      obtain ⟨c0, c1, c2⟩ := cfgAt_all HBXq.out
                      simp only [Nat.zero_add] at s0 s1 s2 c0 c1 c2
                      clear s1 c0 c2
                      by_cases hjk : j < k2
                      · have hjk' : (j : Int) < (k2 : Int) := by omega
                        have hjs : (j : Int) < (ns : Int) := by omega
                        have hj0 : (0 : Int) ≤ (j : Int) := by omega
                        have cj := (HRq.out.cell (p := ⟨sb, so + j * 3, none⟩) hsl).trans (HSR5.out j (by omega))
                        have HG : Hid (v.sku = ((C.sups[k2]?).getD ⟨0, 0, 0⟩).sku) := HGD.out
                        have HFJ : Hid (((C.sups[j]?).getD ⟨0, 0, 0⟩).sku = v.sku → q = false) := fun h => HF.out (by
                          unfold freshB
                          rw [List.all_eq_false]
                          exact ⟨j, List.mem_range.2 hjk, by rw [h, HG.out]; simp⟩)
                        have HNJ : Hid (((C.sups[j]?).getD ⟨0, 0, 0⟩).sku ≠ v.sku → ∀ k, k < j + 1 → ((C.sups[k]?).getD ⟨0, 0, 0⟩).sku ≠ ((C.sups[k2]?).getD ⟨0, 0, 0⟩).sku) := fun h k hk => by
                          by_cases e : k = j
                          · subst e; rw [← HG.out]; exact h
                          · exact HKq.out k (by omega)
                        have HBq : Aside (Below wo1.heap.size wo1 wr) := HR5.out.trans (HRq.out.mono HR5.out.size)
                        generalize ((C.sups[j]?).getD ⟨0, 0, 0⟩).sku = z at *
                        generalize v.sku = y at *
                        clear HG HKq HF HT2 HGD HSR5
                        by_cases he : z = y
                        · obtain rfl : q = false := HFJ.out he
                          have heb : (z == y) = true := by simpa using he
                          clear he HNJ HFJ
                          as_aux_lemma =>
                            go_upto_region 32 with (fail)
                            go_quiet (fail)
                            go_wp2
                            go_ret
                            exact ⟨rfl, (HBr.out.trans (HBq.out.mono HBr.out.size)).trans ⟨rfl, rfl, rfl, Nat.le_refl _, fun _ _ => rfl⟩⟩
                        · have hnj := Lib.hid (HNJ.out he)
                          have heb : (z == y) = false := by simpa using he
                          clear he HNJ HFJ
                          as_aux_lemma =>
                            go_upto_region 32 with (fail)
                            go_quiet (fail)
                            go_wp2
                            go_roundw
                            case rel => exact ⟨j + 1, by omega, by go_num, HRq.out.trans ⟨rfl, rfl, rfl, Nat.le_refl _, fun _ _ => rfl⟩, hnj.out⟩
                            case measure => simp [intOf]; omega
                      · obtain rfl : j = k2 := by omega
                        have hfr : freshB C.sups j = true := by
                          unfold freshB
                          rw [List.all_eq_true]
                          intro k hk
                          exact decide_eq_true (HKq.out k (List.mem_range.1 hk))
                        have HT3 := Lib.hid (HT2.out hfr)
                        have HBq : Aside (Below wo1.heap.size wo1 wr) := HR5.out.trans (HRq.out.mono HR5.out.size)
                        have hjno : ¬ j < j := Nat.lt_irrefl j
                        clear HF HT2 HGD HSR5 HKq hfr c1 s0
                        as_aux_lemma =>
                          go_wp2
                          go_roundw
                          case rel => exact ⟨j + 1, by omega, by go_num, by rw [HU2.out, Int.add_assoc], HBq.out, HT1.out, HT3.out⟩
                          case measure => simp [intOf]; omega
              · obtain rfl : k2 = ns := by omega
                have hall := HK.out
                have hSL := HC3.out.sl
                rw [List.take_of_length_le (by rw [hSL]; exact Nat.le_refl _)] at hall
                rw [List.take_of_length_le (l := C.sups) (by rw [hSL]; exact Nat.le_refl _)]
                have hqe : q = decide (U + countsS C.sups ≤ 200) := by
                  rw [HQ.out]
                  unfold rightC
                  have e1 : C.orders.length ≤ 20 := by have := HC3.out.ol; omega
                  have e2 : C.sups.length ≤ 20 := by omega
                  rw [HTF.out, HOA.out, hall.1, decide_eq_true e1, decide_eq_true e2, show freshAll C.sups = true from by unfold freshAll; rw [hSL]; exact hall.2, HU.out]
                  rfl
                have HQE := Lib.hid hqe
                have hno : ¬ k2 < k2 := Nat.lt_irrefl k2
                clear hall hSL hqe c1
                generalize countsS C.sups = cs2 at *
                as_aux_lemma =>
                  go_wp2
                  go_ret
                  exact ⟨by rw [HQE.out]; rfl, HB3.out⟩
      · obtain rfl : q = false := HQ.out.trans (right_sups (by rw [HC2.out.sl]; exact s20))
        have s20' : (20 : Int) < ns := by omega
        go_wp2
        go_ret
        exact ⟨rfl, HB2.out⟩
    · obtain rfl : q = false := HQ.out.trans (right_orders (by rw [HC2.out.ol]; exact h20))
      have h20' : (20 : Int) < no := by omega
      go_wp2
      go_ret
      exact ⟨rfl, HB2.out⟩
end Go.Proofs.YtbiompjhenkieaaGreat
