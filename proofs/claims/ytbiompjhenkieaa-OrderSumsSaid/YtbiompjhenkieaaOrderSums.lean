/-
  OrderSums: the shares of an order's units come to all that was paid for it; none is below 0. No conditions: every input.
-/
import Derived.Test.YtbiompjhenkieaaOrderLaw
import Derived.BigQuiet
namespace Go.Proofs.Ytbiompjhenkieaa
open Go.RowKit Go.WideShapes
set_option maxRecDepth 100000

theorem all_of_take {α : Type} {f : α → Bool} {xs : List α} (h : xs.all f = true) (k : Nat) : (xs.take k).all f = true := by
  rw [List.all_eq_true] at h ⊢
  exact fun x hx => h x (List.mem_of_mem_take hx)

set_option maxHeartbeats 8000000 in
theorem orderSums_law (aO aS aT : Option Addr) (no co ns cs nt ct : Nat) (C : Cfg) (w : World) (hC : CfgIs w aO no aS ns aT nt C) (hf : CfgFit C) (hk : CfgCaps no co ns cs nt ct) :
    Calls Try.prog 4 #[.agg (cfgCells aO no co aS ns cs aT nt ct)] w fun e w' => e = .returned (.bool true) ∧ Below w.heap.size w w' := by
  have hbox := arr_new w (cfgCells aO no co aS ns cs aT nt ct) 26
  have HBX : Aside _ := hbox
  have HB : Aside (Below w.heap.size w (w.alloc (.cells (cfgCells aO no co aS ns cs aT nt ct) 26))) := (Below.refl _ _).alloc (Nat.le_refl _) _
  have HC : Aside (CfgIs (w.alloc (.cells (cfgCells aO no co aS ns cs aT nt ct) 26)) aO no aS ns aT nt C) := hC.below (Below.alloc (Below.refl _ _) (Nat.le_refl _) _)
  have HF := Lib.hid hf
  have HK := Lib.hid hk
  clear hbox hC hf hk
  go_enter Try.func4, Try.ntmps4
  go_upto_region 1 with (fail)
  show Code.wp _ _ _ _ (w.alloc (.cells (cfgCells aO no co aS ns cs aT nt ct) 26))
  generalize w.alloc (.cells (cfgCells aO no co aS ns cs aT nt ct) 26) = w1 at *
  go_wp2_with fail
  refine Calls.mono (order_awake _) ?_
  rintro e w2 ⟨rfl, b2⟩
  have HBX2 : Aside _ := HBX.out.grown b2
  have HC2 : Aside _ := HC.out.below b2
  have HB2 : Aside _ := HB.out.trans (b2.mono HB.out.size)
  clear b2 HBX HC HB
  obtain ⟨c0, c1, c2⟩ := cfgAt_all HBX2.out
  simp only [Nat.zero_add] at c0 c1 c2
  go_wp2_with fail
  refine Calls.mono (law_few _ _ _ _ _ _ _ _ _ C _ HC2.out) ?_
  rintro e w3 ⟨rfl, b3⟩
  have HBX3 : Aside _ := HBX2.out.grown b3
  have HC3 : Aside _ := HC2.out.below b3
  have HB3 : Aside _ := HB2.out.trans (b3.mono HB2.out.size)
  clear b3 HBX2 HC2 HB2 c0 c1 c2
  generalize fewC C = q at *
  cases q with
  | false =>
    as_aux_lemma =>
      go_wp2_with fail
      refine Calls.mono (order_awake _) ?_
      rintro e w4 ⟨rfl, b4⟩
      have HB4 : Aside _ := HB3.out.trans (b4.mono HB3.out.size)
      go_wp2
      go_ret
      exact ⟨rfl, HB4.out⟩
  | true =>
    obtain ⟨c0, c1, c2⟩ := cfgAt_all HBX3.out
    simp only [Nat.zero_add] at c0 c1 c2
    go_wp2_with fail
    refine Calls.mono (order_units _ _ _ _ _ _ _ _ _ C _ HC3.out HF.out HK.out) ?_
    rintro e w4 ⟨⟨a, n, c, rfl, hn, hnc, hcm, hu⟩, b4⟩
    have HU : Aside (UntsAt w4 a (unitsV C)) := hu
    have HN := Lib.hid hn
    have HBX4 : Aside _ := HBX3.out.grown b4
    have HC4 : Aside _ := HC3.out.below b4
    have HB4 : Aside _ := HB3.out.trans (b4.mono HB3.out.size)
    have hnm : n ≤ maxLen := by omega
    unfold maxLen at hnm
    clear b4 HBX3 HC3 HB3 c0 c1 c2 hu hn hnc hcm HF HK
    cases hq : rightC C with
    | false =>
      have hE : errC C = 1 := by unfold errC; rw [hq]; rfl
      have hV : unitsV C = [] := by unfold unitsV; rw [hq]; rfl
      have hn := HN.out
      rw [hV] at hn
      have hn0 : n = 0 := hn.symm
      subst hn0
      rw [hE]
      clear hE hV hn hq HN HU HBX4 HC4
      as_aux_lemma =>
        go_wp2
        go_ret
        exact ⟨rfl, HB4.out⟩
    | true =>
      have hE : errC C = 0 := by unfold errC; rw [hq]; rfl
      have hV : unitsV C = unitsC C := by unfold unitsV; rw [hq]; rfl
      rw [hV] at HN HU
      rw [hE]
      have HQ := Lib.hid hq
      have hno20 : no ≤ 20 := by
        have := (right_parts hq).2.1
        have := HC4.out.ol
        omega
      clear hE hV hq
      obtain ⟨c0, c1, c2⟩ := cfgAt_all HBX4.out
      simp only [Nat.zero_add] at c0 c1 c2
      clear c1 c2
      go_wp2
      go_loopw [32] (fun i wr => ∃ k : Nat, k ≤ no ∧ i = .int .i64 k ∧ Aside (Below w4.heap.size w4 wr)) (fun i _ => no - (intOf i).toNat)
      case atStart => exact ⟨0, Nat.zero_le _, rfl, Below.refl _ _⟩
      case round =>
        obtain ⟨k, hk, rfl, HW⟩ := hrel
        have HBXr : Aside _ := HBX4.out.grown HW.out
        have HCr : Aside _ := HC4.out.below HW.out
        clear c0
        obtain ⟨c0, c1, c2⟩ := cfgAt_all HBXr.out
        simp only [Nat.zero_add] at c0 c1 c2
        clear c1 c2
        by_cases hlt : k < no
        · have hkn : (k : Int) < (no : Int) := by omega
          have hk0 : (0 : Int) ≤ (k : Int) := by omega
          obtain ⟨b, off, rfl, hb, hrow⟩ := HCr.out.oa.at HCr.out.ol (by omega)
          have hlk : k < C.orders.length := by rw [HCr.out.ol]; exact hlt
          have hx := hrow k hlk
          have HXok : Hid (OrdOk C.orders[k]) := (cfg_ok HQ.out).o _ (List.getElem_mem hlk)
          have HXl : Hid (C.orders[k].lines.all (lineB C.table.length) = true) := by
            show _ = _
            have h := HQ.out
            unfold rightC at h
            simp only [Bool.and_eq_true, List.all_eq_true] at h
            have h2 := h.1.1.1.2 _ (List.getElem_mem hlk)
            unfold ordB at h2
            simp only [Bool.and_eq_true] at h2
            exact h2.1.2
          have HX8 : Hid (C.orders[k].lines.length ≤ 8) := ((right_parts HQ.out).2.2.2.1 _ (List.getElem_mem hlk)).2.2.2.2.1
          have HSum : Hid (sumI (unitsC C) k = paid C.orders[k]) := units_sum HQ.out k hlk
          have HPart : Hid (∀ j, 0 ≤ sumI ((unitsC C).take j) k ∧ sumI ((unitsC C).take j) k ≤ paid C.orders[k]) := units_part HQ.out k hlk
          clear hrow
          generalize C.orders[k] = x at *
          obtain ⟨al, nl, cl, hcells, hnl, hncl, hclm, hla⟩ := hx
          obtain ⟨o0, o1, o2, o3, o4⟩ := ordAt_all hcells
          have HL : Aside (LnsAt wr al x.lines) := hla
          have HNL := Lib.hid hnl
          unfold maxLen at hclm
          clear hcells hnl hla
          go_upto_region 10 with (fail)
          have hbo := arr_new wr (ordCells x.day al nl cl x.disc x.tax x.ship) 40
          have hBw : Below wr.heap.size wr (wr.alloc (.cells (ordCells x.day al nl cl x.disc x.tax x.ship) 40)) := (Below.refl _ _).alloc (Nat.le_refl _) _
          have HBO : Aside (ArrAt (wr.alloc (.cells (ordCells x.day al nl cl x.disc x.tax x.ship) 40)) wr.heap.size 0 (ordCells x.day al nl cl x.disc x.tax x.ship)) := hbo
          have HL3 : Aside (LnsAt (wr.alloc (.cells (ordCells x.day al nl cl x.disc x.tax x.ship) 40)) al x.lines) := HL.out.below hBw
          have HW3 : Aside (Below w4.heap.size w4 (wr.alloc (.cells (ordCells x.day al nl cl x.disc x.tax x.ship) 40))) := HW.out.trans (hBw.mono HW.out.size)
          clear hbo hBw o0 o1 o2 o3 o4 HBXr HCr HW HL c0
          show Code.wp _ _ _ _ (wr.alloc (.cells (ordCells x.day al nl cl x.disc x.tax x.ship) 40))
          generalize wr.alloc (.cells (ordCells x.day al nl cl x.disc x.tax x.ship) 40) = w5 at *
          generalize wr.heap.size = go at *
          generalize wr = wo1 at *
          obtain ⟨o0, o1, o2, o3, o4⟩ := ordAt_all HBO.out
          simp only [Nat.zero_add] at o0 o1 o2 o3 o4
          clear o0
          have hd := HXok.out.disc
          have ht := HXok.out.tax
          have hs := HXok.out.ship
          have hw1 : wrap64 (x.tax + x.ship) = x.tax + x.ship := by unfold wrap64; omega
          have hw2 : wrap64 (x.tax + x.ship - x.disc) = x.tax + x.ship - x.disc := by unfold wrap64; omega
          have hnl8 : nl ≤ 8 := by have := HNL.out; have := HX8.out; omega
          have HD := Lib.hid hd
          have HT := Lib.hid ht
          have HS := Lib.hid hs
          clear hd ht hs
          go_upto_region 12 with (fail)
          obtain ⟨P0, hP0⟩ : ∃ P0, P0 = x.tax + x.ship - x.disc := ⟨_, rfl⟩
          rw [← hP0]
          have HP0 := Lib.hid hP0
          have hP0b : -1073741824 ≤ P0 ∧ P0 ≤ 2147483648 := by
            have := HD.out
            have := HT.out
            have := HS.out
            omega
          clear hw1 hw2 hP0 o2 o3 o4
          go_loopw [7, 51] (fun p i wq => ∃ m : Nat, m ≤ nl ∧ i = .int .i64 m ∧ p = .int .i64 (P0 + total (x.lines.take m)) ∧ Aside (Below w5.heap.size w5 wq)) (fun _ i _ => nl - (intOf i).toNat)
          case atStart => exact ⟨0, Nat.zero_le _, rfl, by rw [show wrap64 P0 = P0 by unfold wrap64; omega]; simp [total], Below.refl _ _⟩
          case round =>
            obtain ⟨m, hm, rfl, rfl, HR⟩ := hrel
            clear o1
            obtain ⟨o0, o1, o2, o3, o4⟩ := ordAt_all (HBO.out.grown HR.out)
            simp only [Nat.zero_add] at o0 o1 o2 o3 o4
            clear o0 o2 o3 o4
            by_cases hltm : m < nl
            · have hmn : (m : Int) < (nl : Int) := by omega
              have hm0 : (0 : Int) ≤ (m : Int) := by omega
              obtain ⟨lb, lo, rfl, hlb, hlrow⟩ := HL3.out.at HNL.out (by omega)
              have hlm : m < x.lines.length := by rw [HNL.out]; exact hltm
              obtain ⟨l0, l1, l2, l3⟩ := LnAt.all ((hlrow m hlm).grown HR.out)
              have HTT : Hid (total (x.lines.take (m + 1)) = total (x.lines.take m) + x.lines[m].price * x.lines[m].count) := total_take _ m hlm
              have hwo := line_worth (line_ok (List.all_eq_true.1 HXl.out _ (List.getElem_mem hlm)))
              have htb := total_bounds (all_of_take HXl.out m)
              have htl : (x.lines.take m).length ≤ 8 := by rw [List.length_take]; omega
              clear hlrow l0 l1
              generalize x.lines[m] = l at *
              generalize total (x.lines.take m) = T at *
              have hw1 : wrap64 (l.price * l.count) = l.price * l.count := by unfold wrap64; omega
              have hw2 : wrap64 (P0 + T + l.price * l.count) = P0 + T + l.price * l.count := by unfold wrap64; omega
              have HTB := Lib.hid htb
              have HWO := Lib.hid hwo
              clear htb hwo htl
              go_upto_region 14 with (fail)
              as_aux_lemma =>
                go_quiet (fail)
                as_aux_lemma =>
                  go_wp2
                  go_roundw
                  case rel => exact ⟨m + 1, by omega, by go_num, by rw [hw2, HTT.out, Int.add_assoc], HR.out.trans ⟨rfl, rfl, rfl, Nat.le_refl _, fun _ _ => rfl⟩⟩
                  case measure => simp [intOf]; omega
            · obtain rfl : m = nl := by omega
              rw [List.take_of_length_le (by rw [HNL.out]; exact Nat.le_refl _)]
              have HW6 : Aside (Below w4.heap.size w4 wr) := HW3.out.trans (HR.out.mono HW3.out.size)
              have HU6 : Aside (UntsAt wr a (unitsC C)) := UntsAt.below HU.out HW6.out
              have hPd : P0 + total x.lines = paid x := by unfold paid; rw [HP0.out]; omega
              have HPm : Hid (0 ≤ paid x ∧ paid x ≤ 431644213248) := paid_most HXok.out
              rw [hPd]
              generalize unitsC C = us at *
              generalize paid x = PX at *
              clear hPd o1 HR HL3 HNL HXok HXl HX8 HD HT HS HP0 HW3 HBO
              generalize wr = w6 at *
              go_wp2
              go_loopw [7, 72] (fun p i wq => ∃ j : Nat, j ≤ n ∧ i = .int .i64 j ∧ p = .int .i64 (PX - sumI (us.take j) k) ∧ Aside (Below w6.heap.size w6 wq)) (fun _ i _ => n - (intOf i).toNat)
              case atStart => exact ⟨0, Nat.zero_le _, rfl, by simp [sumI], Below.refl _ _⟩
              case round =>
                obtain ⟨j, hj, rfl, rfl, HR⟩ := hrel
                by_cases hltj : j < n
                · have hjn : (j : Int) < (n : Int) := by omega
                  have hj0 : (0 : Int) ≤ (j : Int) := by omega
                  obtain ⟨ub, uo, rfl, hub, hurow⟩ := RowAt.at (UntsAt.below HU6.out HR.out) HN.out (by omega)
                  have hlj : j < us.length := by rw [HN.out]; exact hltj
                  obtain ⟨u0, u1, u2, u3⟩ := untAt_all (hurow j hlj)
                  have hst := sumI_take us j hlj k
                  have h1 := HPart.out j
                  have h2 := HPart.out (j + 1)
                  have hpm := HPm.out
                  clear hurow u1 u2
                  generalize us[j] = u at *
                  obtain ⟨S', hS'⟩ : ∃ S', S' = sumI (us.take (j + 1)) k := ⟨_, rfl⟩
                  rw [← hS'] at hst h2
                  generalize sumI (us.take j) (k : Int) = S at *
                  by_cases hord : u.ord = (k : Int)
                  · rw [if_pos hord] at hst
                    have hw1 : wrap64 (PX - S - u.share) = PX - S - u.share := by unfold wrap64; omega
                    have HST : Hid (PX - S - u.share = PX - sumI (us.take (j + 1)) k) := by
                      show _ = _
                      rw [← hS']
                      omega
                    have hoo : (u.ord == (k : Int)) = true := by simp [hord]
                    clear hst h1 h2 hpm hS' hord
                    as_aux_lemma =>
                      go_wp2
                      go_roundw
                      case rel => exact ⟨j + 1, by omega, by go_num, by rw [hw1, HST.out], HR.out⟩
                      case measure => simp [intOf]; omega
                  · rw [if_neg hord] at hst
                    have HST : Hid (PX - S = PX - sumI (us.take (j + 1)) k) := by
                      show _ = _
                      rw [← hS']
                      omega
                    have hoo : (u.ord == (k : Int)) = false := by simp [hord]
                    clear hst h1 h2 hpm hS' hord
                    as_aux_lemma =>
                      go_wp2
                      go_roundw
                      case rel => exact ⟨j + 1, by omega, by go_num, by rw [HST.out], HR.out⟩
                      case measure => simp [intOf]; omega
                · obtain rfl : j = n := by omega
                  rw [List.take_of_length_le (by rw [HN.out]; exact Nat.le_refl _), HSum.out, Int.sub_self]
                  have HW7 : Aside (Below w4.heap.size w4 wr) := HW6.out.trans (HR.out.mono HW6.out.size)
                  clear HR HW6 HU6 HSum HPart HPm
                  as_aux_lemma =>
                    go_wp2
                    go_roundw
                    case rel => exact ⟨k + 1, by omega, by go_num, HW7.out⟩
                    case measure => simp [intOf]; omega
        · obtain rfl : k = no := by omega
          have HU6 : Aside (UntsAt wr a (unitsC C)) := UntsAt.below HU.out HW.out
          have HLe : Hid (∀ u ∈ unitsC C, 0 ≤ u.share) := units_least HQ.out
          have HB6 : Aside (Below w.heap.size w wr) := HB4.out.trans (HW.out.mono HB4.out.size)
          generalize unitsC C = us at *
          clear HW HCr HBXr c0 HC4 HBX4 HQ HB4 HU
          generalize wr = w6 at *
          go_wp2
          go_loopw [95] (fun i wq => ∃ j : Nat, j ≤ n ∧ i = .int .i64 j ∧ Aside (Below w6.heap.size w6 wq)) (fun i _ => n - (intOf i).toNat)
          case atStart => exact ⟨0, Nat.zero_le _, rfl, Below.refl _ _⟩
          case round =>
            obtain ⟨j, hj, rfl, HR⟩ := hrel
            by_cases hltj : j < n
            · have hjn : (j : Int) < (n : Int) := by omega
              have hj0 : (0 : Int) ≤ (j : Int) := by omega
              obtain ⟨ub, uo, rfl, hub, hurow⟩ := RowAt.at (UntsAt.below HU6.out HR.out) HN.out (by omega)
              have hlj : j < us.length := by rw [HN.out]; exact hltj
              obtain ⟨u0, u1, u2, u3⟩ := untAt_all (hurow j hlj)
              have hle := HLe.out _ (List.getElem_mem hlj)
              clear hurow u0 u1 u2
              generalize us[j] = u at *
              have hlt0 : ¬ u.share < 0 := by omega
              as_aux_lemma =>
                go_wp2
                go_roundw
                case rel => exact ⟨j + 1, by omega, by go_num, HR.out⟩
                case measure => simp [intOf]; omega
            · obtain rfl : j = n := by omega
              have HB7 : Aside _ := HB6.out.trans (HR.out.mono HB6.out.size)
              clear HR HU6 HLe
              as_aux_lemma =>
                go_wp2
                go_ret
                exact ⟨rfl, HB7.out⟩

theorem orderSums_contract (W : World) (args : Array Value) (h : Each Try.prog W Try.f4.params.toList args.toList) :
    Calls Try.prog 4 args W fun e W' => e = .returned (.bool true) ∧ Below W.heap.size W W' := by
  rw [Try.params4] at h
  obtain ⟨v0, r0, e0, ⟨_, o0⟩, d0, h⟩ := h.cons
  obtain rfl := h.nil
  obtain ⟨args⟩ := args
  obtain rfl : args = [v0] := e0
  obtain ⟨aO0, no0, co0, aS0, ns0, cs0, aT0, nt0, ct0, C0, rfl, hC0, hf0⟩ := val_cfg o0 d0
  have hk0 := cfg_caps d0
  exact orderSums_law _ _ _ _ _ _ _ _ _ C0 W hC0 hf0 hk0

theorem orderSums_lifted (os : Os) (started : os.Started) (H : Type) (enc : TypeId × Value → H) :
    ReturnsInHanded {} Try.checked os 4 .any (Rows.orderSumsSpec.pre6 enc Try.prog Try.f4 Rows.orderSumsRow.domain false) (Rows.orderSumsSpec.post enc Try.prog Try.f4 false true false false) :=
  law_lifted (C := Try.checked) seat_own seat_laid (by kernel_rfl) Try.func4 rfl (tb := 4) rfl Try.underlying4
    (by
      rw [Try.params4]; intro t ht; simp at ht
      obtain rfl := ht; exact ⟨by kernel_rfl, of_decide_eq_true (by kernel_rfl)⟩)
    (fun H ds hl => by
      rw [Try.params4] at hl
      match ds, hl with
      | [d1], _ => rfl)
    os started H enc
    (ChangeSpec.witness6 (enc := enc) (C := Try.checked) false ⟨#[], #[.agg #[.slice none 0 0, .slice none 0 0, .slice none 0 0]], []⟩ 8 (by kernel_rfl) (by kernel_rfl) (by kernel_rfl) (by kernel_rfl))
    orderSums_contract

theorem orderSums_holds : Rows.OrderSumsSaid :=
  OpenClaim.holds_of_wide 4 Try.f4 rfl rfl rfl rfl rfl rfl rfl ⟨rfl, rfl, rfl, rfl, rfl⟩ rfl rfl rfl rfl rfl (by kernel_rfl) Try.func4 (by kernel_rfl)
    (of_decide_eq_true (by kernel_rfl)) (by unfold Func.isWrapper; first | (rw [if_pos (by decide +kernel)]; kernel_rfl) | (rw [if_neg (by decide +kernel)]; exact ⟨rfl, rfl⟩))
    (fun os started H enc _ => orderSums_lifted os started H enc)
#print axioms orderSums_holds
end Go.Proofs.Ytbiompjhenkieaa
