/-
  Package order: put, Encode. Conditions: those of each theorem.
-/
import Derived.Test.YtbiompjhenkieaaGreatOrdPut
import Derived.Test.YtbiompjhenkieaaGreatOrdRight
namespace Go.Proofs.YtbiompjhenkieaaGreat
open Go.RowKit
set_option maxRecDepth 100000

theorem ordsBytes_most : ∀ {os : List Ord}, (∀ x ∈ os, x.lines.length ≤ 8) → (ordsBytes os).length ≤ 125 * os.length
  | [], _ => by simp [ordsBytes]
  | x :: os, h => by
    have h1 := h x (List.mem_cons_self ..)
    have ih := ordsBytes_most (os := os) (fun y hy => h y (List.mem_cons_of_mem _ hy))
    have e := ordBytes_length x
    simp only [ordsBytes, List.map_cons, List.flatten_cons, List.length_append, List.length_cons] at ih ⊢
    omega
theorem cfgBytes_most {C : Cfg} (h : rightC C = true) : (cfgBytes C).length ≤ 4000 := by
  obtain ⟨hrt, hno, hns, hos, hss⟩ := right_parts h
  have h1 := (rightT_facts hrt).1
  have h2 := ordsBytes_most (fun x hx => (hos x hx).2.2.2.2.1)
  simp only [cfgBytes, List.length_append, le_length, List.length_cons, List.length_nil, tableBytes_length, supsBytes_length]
  omega

set_option maxHeartbeats 4000000 in
theorem ord_put {w0 W : World} {p : Nat} {bx : Nat → Prop} (h : OB w0 p bx [] W) (aO aS aT : Option Addr) (no co ns cs nt ct : Nat) (C : Cfg) (hC : CfgIs w0 aO no aS ns aT nt C) (hr : rightC C = true) :
    Calls Tryz.prog 15 #[.pointer (some ⟨p, 0, none⟩), .agg (cfgCells aO no co aS ns cs aT nt ct)] W fun e W' => e = .returned (.tuple #[]) ∧ OB w0 p bx (cfgBytes C) W' ∧ Upd (fun k => ¬ bx k) W W' := by
  obtain ⟨hrt, hno, hns, hos, hss⟩ := right_parts hr
  rw [hC.ol] at hno
  rw [hC.sl] at hns
  have HOS : Hid (∀ x ∈ C.orders, OrdSmall x) := hos
  have HSS : Hid (∀ s ∈ C.sups, SupSmall s) := hss
  have hn16 := (rightT_facts hrt).1
  have HTL := Lib.hid (show (tableBytes C.table).length ≤ 400 by rw [tableBytes_length]; omega)
  have H1 : Aside _ := h.alloc (.cells (cfgCells aO no co aS ns cs aT nt ct) 26)
  have HA1 : Aside _ := arr_new W (cfgCells aO no co aS ns cs aT nt ct) 26
  have HU1 : Aside (Upd (fun k => ¬ bx k) W (W.alloc (.cells (cfgCells aO no co aS ns cs aT nt ct) 26))) := keep_below (upd_box _)
  have HC : Aside _ := hC
  have hte : Calls Tryz.prog 36 #[.slice aT nt ct] (W.alloc (.cells (cfgCells aO no co aS ns cs aT nt ct) 26)) fun e w' => (∃ (a' : Option Addr) (m c' : Nat), e = .returned (.tuple #[.slice a' m c', .int .i64 0]) ∧ (tableBytes C.table).length = m ∧ IsBytes w' a' (tableBytes C.table) ∧ (a' = none → c' = 0) ∧ ∀ x, a' = some x → (W.alloc (.cells (cfgCells aO no co aS ns cs aT nt ct) 26)).heap.size ≤ x.block) ∧ Below (W.alloc (.cells (cfgCells aO no co aS ns cs aT nt ct) 26)).heap.size (W.alloc (.cells (cfgCells aO no co aS ns cs aT nt ct) 26)) w' := by
    refine (table_encode_new aT C.table nt ct _ hC.tl (hC.ta.below (h.blw.trans ((upd_box _).mono h.blw.size))) hC.tm).mono ?_
    rintro e w' ⟨⟨a', m, c', zs, rfl, h1, h2, h3, -, -, h6, h7⟩, hb⟩
    rw [if_pos hrt] at h6
    subst h6
    exact ⟨⟨a', m, c', by rw [if_pos hrt], h1, h2, h3, h7⟩, hb⟩
  have HTE : Aside _ := hte
  clear h hr hos hss hrt hn16 hC hte
  go_enter Tryz.func15, Tryz.ntmps15
  go_upto_region 1 with (fail)
  show Code.wp _ _ _ _ (W.alloc (.cells (cfgCells aO no co aS ns cs aT nt ct) 26))
  generalize W.alloc (.cells (cfgCells aO no co aS ns cs aT nt ct) 26) = w1 at *
  generalize hg : W.heap.size = g at *
  clear hg
  obtain ⟨y0, y1, y2⟩ := cfgAt_all HA1.out
  simp only [Nat.zero_add] at y1 y2
  go_wp2_with fail
  refine (Calls.mono HTE.out ?_)
  rintro e w2 ⟨⟨a', m, c', rfl, hm, hby, hnc, hnew⟩, b2⟩
  have hml : m ≤ 400 := by have := HTL.out; omega
  have HBY : Aside _ := H1.out.bytes b2 a' (tableBytes C.table) m c' hm hby hnc hnew (by simp) (by omega)
  have HA2 : Aside _ := HA1.out.grown b2
  have HU2 : Aside (Upd (fun k => ¬ bx k) W w2) := keep_trans HU1.out (keep_below b2)
  clear HTE y0 y1 y2 hby hnc hnew b2 H1 HA1 HU1
  obtain ⟨y0, y1, y2⟩ := cfgAt_all HA2.out
  simp only [Nat.zero_add] at y1 y2
  go_wp2_with fail
  refine (Calls.mono HBY.out ?_)
  rintro e w3 ⟨rfl, h3, u3⟩
  rw [List.nil_append] at h3
  obtain ⟨ts, hts⟩ : ∃ ts, ts = le (tableBytes C.table).length 2 ++ tableBytes C.table := ⟨_, rfl⟩
  rw [← hts] at h3
  have htl : ts.length ≤ 402 := by rw [hts, List.length_append, le_length]; omega
  have HTS := Lib.hid hts
  have H3 : Aside _ := h3
  have HA3 : Aside _ := HA2.out.keep u3 (.inr rfl)
  have HU3 : Aside _ := keep_trans HU2.out (keep_fewer u3 (fun _ => Or.inl))
  clear HBY y0 y1 y2 h3 u3 HA2 HU2 hts hm
  obtain ⟨y0, y1, y2⟩ := cfgAt_all HA3.out
  simp only [Nat.zero_add] at y1 y2
  have HCA : Aside _ := H3.out.u8 (no : Int) (by omega) (by omega) (by omega)
  clear H3
  go_wp2_with fail
  refine (Calls.mono HCA.out ?_)
  rintro e w4 ⟨rfl, h4, u4⟩
  have H4 : Aside _ := h4
  have HA4 : Aside _ := HA3.out.keep u4 (.inr rfl)
  have HU4 : Aside _ := keep_trans HU3.out (keep_fewer u4 (fun _ => Or.inl))
  clear HCA y0 y1 y2 h4 u4 HA3 HU3
  obtain ⟨y0, y1, y2⟩ := cfgAt_all HA4.out
  simp only [Nat.zero_add] at y1 y2
  have hoa := HC.out.oa
  have HN := Lib.hid HC.out.ol
  go_wp2
  clear y0 y1 y2
  go_loopw [27] (fun i wr => ∃ k : Nat, k ≤ no ∧ i = .int .i64 k ∧ Aside (OB w0 p (fun k => bx k ∨ k = g) (ts ++ [u8of (no : Int)] ++ ordsBytes (C.orders.take k)) wr) ∧ Aside (Upd (fun k => ¬ bx k) W wr) ∧ Aside (ArrAt wr g 0 (cfgCells aO no co aS ns cs aT nt ct))) (fun i _ => no - (intOf i).toNat)
  case atStart => exact ⟨0, Nat.zero_le _, rfl, by show OB _ _ _ _ _; rw [show ordsBytes (C.orders.take 0) = [] from rfl, List.append_nil]; exact H4.out, HU4.out, HA4.out⟩
  case round =>
    clear H4 HU4 HA4
    obtain ⟨k, hk, rfl, HO, HU, HA⟩ := hrel
    have hlen : (ts ++ [u8of (no : Int)] ++ ordsBytes (C.orders.take k)).length ≤ 3000 := by
      have := ordsBytes_most (os := C.orders.take k) (fun x hx => (HOS.out x (List.mem_of_mem_take hx)).2.2.2.2.1)
      rw [List.length_append, List.length_append]
      rw [List.length_take] at this
      simp only [List.length_cons, List.length_nil]
      omega
    by_cases hlt : k < no
    · have hkn : (k : Int) < (no : Int) := by omega
      rcases hoa with hnil | ⟨b, off, rfl, hb2, hc⟩
      · have := HN.out; rw [hnil] at this; simp at this; omega
      have hlk : k < C.orders.length := by rw [HN.out]; exact hlt
      obtain ⟨a2, n2, c2, hA2, h22, h23, h24, h25⟩ := hc k hlk
      obtain ⟨z0, z1, z2, z3, z4⟩ := ordAt_all (hA2.below HO.out.blw hb2)
      have hsm := HOS.out _ (List.getElem_mem hlk)
      have HT : Hid (ts ++ [u8of (no : Int)] ++ ordsBytes (C.orders.take k) ++ ordBytes C.orders[k] = ts ++ [u8of (no : Int)] ++ ordsBytes (C.orders.take (k + 1))) := by show _ = _; rw [ordsBytes_take C.orders k hlk, List.append_assoc (ts ++ _)]
      clear hc hA2
      generalize C.orders[k] = x at *
      generalize ts ++ [u8of (no : Int)] ++ ordsBytes (C.orders.take k) = vs at *
      have h1 := HO.out.alloc (.cells (ordCells x.day a2 n2 c2 x.disc x.tax x.ship) 45)
      have HPO : Aside _ := ord_putOrder h1 x a2 n2 c2 hsm h22 h25 (by omega)
      have HA1 : Aside (ArrAt (wr.alloc (.cells (ordCells x.day a2 n2 c2 x.disc x.tax x.ship) 45)) wr.heap.size 0 (ordCells x.day a2 n2 c2 x.disc x.tax x.ship)) := arr_new wr _ _
      have HG1 : Aside _ := HA.out.grown (upd_box (.cells (ordCells x.day a2 n2 c2 x.disc x.tax x.ship) 45))
      have HU1 : Aside (Upd (fun k => ¬ bx k) W (wr.alloc (.cells (ordCells x.day a2 n2 c2 x.disc x.tax x.ship) 45))) := keep_trans HU.out (keep_below (upd_box _))
      go_upto_region 7 with (fail)
      show Code.wp _ _ _ _ (wr.alloc (.cells (ordCells x.day a2 n2 c2 x.disc x.tax x.ship) 45))
      clear z0 z1 z2 z3 z4 HO HU HA hsm h22 h23 h24 h25 h1
      generalize wr.alloc (.cells (ordCells x.day a2 n2 c2 x.disc x.tax x.ship) 45) = w5 at *
      generalize hgl : wr.heap.size = gl at *
      clear hgl
      obtain ⟨y0, y1, y2, y3, y4⟩ := ordAt_all HA1.out
      simp only [Nat.zero_add] at y1 y2 y3 y4
      go_wp2_with fail
      refine (Calls.mono HPO.out ?_)
      rintro e w6 ⟨rfl, h6, u6⟩
      rw [HT.out] at h6
      have H6 : Aside (OB w0 p (fun k => bx k ∨ k = g) (ts ++ [u8of (no : Int)] ++ ordsBytes (C.orders.take (k + 1))) w6) := h6.fewer (fun _ hk => Or.inl hk)
      have HU6 : Aside _ := keep_trans HU1.out (keep_fewer u6 (fun _ hk => Or.inl (Or.inl hk)))
      have HG6 : Aside _ := HG1.out.keep u6 (.inl (.inr rfl))
      clear HPO y0 y1 y2 y3 y4 h6 u6 HA1 HU1 HG1
      go_wp2
      go_roundw
      case rel => exact ⟨k + 1, by omega, by go_num, H6.out, HU6.out, HG6.out⟩
      case measure => simp [intOf]; omega
    · obtain rfl : k = no := by omega
      have ho2 := HO.out
      rw [List.take_of_length_le (by rw [HN.out]; exact Nat.le_refl _)] at ho2 hlen
      obtain ⟨vs, hvs⟩ : ∃ vs, vs = ts ++ [u8of (k : Int)] ++ ordsBytes C.orders := ⟨_, rfl⟩
      rw [← hvs] at ho2 hlen
      have HVS := Lib.hid hvs
      have H5 : Aside _ := ho2
      clear HO ho2 hvs hoa
      generalize wr = wo at *
      obtain ⟨y0, y1, y2⟩ := cfgAt_all HA.out
      simp only [Nat.zero_add] at y1 y2
      have HCA : Aside _ := H5.out.u8 (ns : Int) (by omega) (by omega) (by omega)
      clear H5
      go_wp2_with fail
      refine (Calls.mono HCA.out ?_)
      rintro e w6 ⟨rfl, h6, u6⟩
      have H6 : Aside _ := h6
      have HA6 : Aside _ := HA.out.keep u6 (.inr rfl)
      have HU6 : Aside _ := keep_trans HU.out (keep_fewer u6 (fun _ => Or.inl))
      clear HCA y0 y1 y2 h6 u6 HA HU
      obtain ⟨y0, y1, y2⟩ := cfgAt_all HA6.out
      simp only [Nat.zero_add] at y1 y2
      have hsa := HC.out.sa
      have HNS := Lib.hid HC.out.sl
      go_wp2
      clear y0 y1 y2
      go_loopw [43] (fun i wr => ∃ j : Nat, j ≤ ns ∧ i = .int .i64 j ∧ Aside (OB w0 p (fun k => bx k ∨ k = g) (vs ++ [u8of (ns : Int)] ++ supsBytes (C.sups.take j)) wr) ∧ Aside (Upd (fun k => ¬ bx k) W wr)) (fun i _ => ns - (intOf i).toNat)
      case atStart => exact ⟨0, Nat.zero_le _, rfl, by show OB _ _ _ _ _; rw [show supsBytes (C.sups.take 0) = [] from rfl, List.append_nil]; exact H6.out, HU6.out⟩
      case round =>
        clear H6 HU6 HA6
        obtain ⟨j, hj, rfl, HO, HU⟩ := hrel
        by_cases hlt2 : j < ns
        · have hjn : (j : Int) < (ns : Int) := by omega
          rcases hsa with hnil | ⟨b, off, rfl, hb2, hc⟩
          · have := HNS.out; rw [hnil] at this; simp at this; omega
          have hlj : j < C.sups.length := by rw [HNS.out]; exact hlt2
          obtain ⟨z0, z1, z2⟩ := SupAt.all ((hc j hlj).below HO.out.blw hb2)
          have HS := Lib.hid (HSS.out _ (List.getElem_mem hlj))
          have HT : Hid (vs ++ [u8of (ns : Int)] ++ supsBytes (C.sups.take j) ++ supBytes C.sups[j] = vs ++ [u8of (ns : Int)] ++ supsBytes (C.sups.take (j + 1))) := by show _ = _; rw [supsBytes_take C.sups j hlj, List.append_assoc (vs ++ _)]
          have hl2 : (vs ++ [u8of (ns : Int)] ++ supsBytes (C.sups.take j)).length ≤ 3400 := by rw [List.length_append, List.length_append, supsBytes_length, List.length_take]; simp only [List.length_cons, List.length_nil]; omega
          clear hc
          generalize C.sups[j] = l at *
          generalize vs ++ [u8of (ns : Int)] ++ supsBytes (C.sups.take j) = us at *
          have H1 : Aside _ := HO.out.alloc (.cells l.arr 42)
          have HA1 : Aside (ArrAt (wr.alloc (.cells l.arr 42)) wr.heap.size 0 l.arr) := arr_new wr l.arr _
          have HU1 : Aside (Upd (fun k => ¬ bx k) W (wr.alloc (.cells l.arr 42))) := keep_trans HU.out (keep_below (upd_box _))
          go_upto_region 13 with (fail)
          show Code.wp _ _ _ _ (wr.alloc (.cells l.arr 42))
          clear z0 z1 z2 HO HU
          generalize wr.alloc (.cells l.arr 42) = w7 at *
          generalize hgl : wr.heap.size = gl at *
          clear hgl
          obtain ⟨y0, y1, y2⟩ := SupAt.all HA1.out
          simp only [Nat.zero_add] at y1 y2
          have HCA : Aside _ := H1.out.u16 l.sku HS.out.1.1 HS.out.1.2 (by omega)
          clear H1
          go_wp2_with fail
          refine (Calls.mono HCA.out ?_)
          rintro e w8 ⟨rfl, h2, u2⟩
          have H2 : Aside _ := h2
          have HA2 : Aside _ := HA1.out.keep u2 (.inr rfl)
          have HU2 : Aside _ := keep_trans HU1.out (keep_fewer u2 (fun _ hk => Or.inl (Or.inl hk)))
          clear HCA y0 y1 y2 h2 u2 HA1 HU1
          obtain ⟨y0, y1, y2⟩ := SupAt.all HA2.out
          simp only [Nat.zero_add] at y1 y2
          have HCA : Aside _ := H2.out.i64 l.price HS.out.2.1.1 HS.out.2.1.2 (by simp only [List.length_append, le_length]; omega)
          clear H2
          go_wp2_with fail
          refine (Calls.mono HCA.out ?_)
          rintro e w9 ⟨rfl, h2, u2⟩
          have H3 : Aside _ := h2
          have HA3 : Aside _ := HA2.out.keep u2 (.inr rfl)
          have HU3 : Aside _ := keep_trans HU2.out (keep_fewer u2 (fun _ hk => Or.inl (Or.inl hk)))
          clear HCA y0 y1 y2 h2 u2 HA2 HU2
          obtain ⟨y0, y1, y2⟩ := SupAt.all HA3.out
          simp only [Nat.zero_add] at y1 y2
          have HCA : Aside _ := H3.out.u8 l.count HS.out.2.2.1 HS.out.2.2.2 (by simp only [List.length_append, le_length]; omega)
          clear H3
          go_wp2_with fail
          refine (Calls.mono HCA.out ?_)
          rintro e wa ⟨rfl, h2, u2⟩
          have e5 : us ++ le l.sku 2 ++ le l.price 8 ++ [u8of l.count] = vs ++ [u8of (ns : Int)] ++ supsBytes (C.sups.take (j + 1)) := by
            rw [← HT.out, supBytes]
            simp only [List.append_assoc]
          rw [e5] at h2
          have H5 : Aside (OB w0 p (fun k => bx k ∨ k = g) (vs ++ [u8of (ns : Int)] ++ supsBytes (C.sups.take (j + 1))) wa) := h2.fewer (fun _ hk => Or.inl hk)
          have HU5 : Aside _ := keep_trans HU3.out (keep_fewer u2 (fun _ hk => Or.inl (Or.inl hk)))
          clear HCA y0 y1 y2 h2 u2 HA3 HU3 e5
          go_wp2
          go_roundw
          case rel => exact ⟨j + 1, by omega, by go_num, H5.out, HU5.out⟩
          case measure => simp [intOf]; omega
        · obtain rfl : j = ns := by omega
          have hfin := HO.out
          rw [List.take_of_length_le (by rw [HNS.out]; exact Nat.le_refl _)] at hfin
          have ef : vs ++ [u8of (j : Int)] ++ supsBytes C.sups = cfgBytes C := by
            rw [HVS.out, HTS.out, cfgBytes, HN.out, HNS.out]
            simp only [List.append_assoc]
          rw [ef] at hfin
          have HF : Aside (OB w0 p bx (cfgBytes C) wr) := hfin.fewer (fun _ hk => Or.inl hk)
          clear hfin ef HO
          go_wp2
          go_end0
          exact ⟨rfl, HF.out, HU.out⟩

set_option maxHeartbeats 2000000 in
theorem order_encode (aO aS aT : Option Addr) (no co ns cs nt ct : Nat) (C : Cfg) (w : World) (hC : CfgIs w aO no aS ns aT nt C) (hf : CfgFit C) (hk : CfgCaps no co ns cs nt ct) :
    Calls Tryz.prog 7 #[.agg (cfgCells aO no co aS ns cs aT nt ct)] w fun e w' => (∃ a n c, e = .returned (.tuple #[.slice a n c, .int .i64 (errC C)]) ∧ (if rightC C then cfgBytes C else []).length = n ∧ n ≤ c ∧ c ≤ maxLen ∧ (a = none → c = 0) ∧ IsBytes w' a (if rightC C then cfgBytes C else [])) ∧ Below w.heap.size w w' := by
  have hb1 : Below w.heap.size w (w.alloc (.cells (cfgCells aO no co aS ns cs aT nt ct) 26)) := (Below.refl _ _).alloc (Nat.le_refl _) _
  have hR := order_right aO aS aT no co ns cs nt ct C (w.alloc (.cells (cfgCells aO no co aS ns cs aT nt ct) 26)) (hC.below hb1) hf hk
  have HB1 : Aside _ := hb1
  have HA1 : Aside _ := arr_new w (cfgCells aO no co aS ns cs aT nt ct) 26
  unfold errC
  cases hr : rightC C with
  | false =>
    rw [hr] at hR
    have HR : Aside _ := hR
    clear hR hC hb1 hr hf hk
    go_enter Tryz.func7, Tryz.ntmps7
    go_upto_region 1 with (fail)
    show Code.wp _ _ _ _ (w.alloc (.cells (cfgCells aO no co aS ns cs aT nt ct) 26))
    generalize w.alloc (.cells (cfgCells aO no co aS ns cs aT nt ct) 26) = w1 at *
    obtain ⟨y0, y1, y2⟩ := cfgAt_all HA1.out
    simp only [Nat.zero_add] at y1 y2
    go_wp2_with fail
    refine (Calls.mono HR.out ?_)
    rintro e w2 ⟨rfl, b2⟩
    have HB2 : Aside _ := HB1.out.trans (b2.mono HB1.out.size)
    go_wp2
    go_ret2
    exact ⟨⟨none, 0, 0, rfl, rfl, Nat.le_refl _, by decide, fun _ => rfl, .inl rfl⟩, HB2.out⟩
  | true =>
    rw [hr] at hR
    have HR : Aside _ := hR
    have HC : Aside _ := hC
    have HRC := Lib.hid hr
    have hcl := cfgBytes_most hr
    obtain ⟨M, hM⟩ : ∃ M, (cfgBytes C).length = M := ⟨_, rfl⟩
    rw [hM] at hcl
    have HM := Lib.hid hM
    clear hR hC hb1 hr hf hk hM
    go_enter Tryz.func7, Tryz.ntmps7
    go_upto_region 1 with (fail)
    show Code.wp _ _ _ _ (w.alloc (.cells (cfgCells aO no co aS ns cs aT nt ct) 26))
    generalize w.alloc (.cells (cfgCells aO no co aS ns cs aT nt ct) 26) = w1 at *
    obtain ⟨y0, y1, y2⟩ := cfgAt_all HA1.out
    simp only [Nat.zero_add] at y1 y2
    go_wp2_with fail
    refine (Calls.mono HR.out ?_)
    rintro e w2 ⟨rfl, b2⟩
    have HB2 : Aside (Below w.heap.size w w2) := HB1.out.trans (b2.mono HB1.out.size)
    have HA2 : Aside _ := HA1.out.grown b2
    clear HR b2 y0 y1 y2 HB1 HA1
    have H3 : Aside (OB w w2.heap.size (fun _ => False) [] (w2.alloc (.cells #[.slice none 0 0, .bool false] 47))) := ⟨⟨_, out_fresh w2, fun k hk => (by have h9 : k = w2.heap.size := hk; have := HB2.out.size; omega), fun k hk => hk.elim⟩, HB2.out.alloc HB2.out.size _, fun k hk => hk.elim⟩
    have HA3 : Aside _ := HA2.out.grown (upd_box (.cells #[.slice none 0 0, .bool false] 47))
    go_upto_region 4 with (fail)
    show Code.wp _ _ _ _ (w2.alloc (.cells #[.slice none 0 0, .bool false] 47))
    clear HA2 HB2
    generalize w2.alloc (.cells #[.slice none 0 0, .bool false] 47) = w3 at *
    generalize w2.heap.size = p at *
    obtain ⟨y0, y1, y2⟩ := cfgAt_all HA3.out
    simp only [Nat.zero_add] at y1 y2
    have HPU : Aside _ := ord_put H3.out aO aS aT no co ns cs nt ct C HC.out HRC.out
    clear H3
    go_wp2_with fail
    refine (Calls.mono HPU.out ?_)
    rintro e w4 ⟨rfl, h4, -⟩
    have HE : Aside _ := h4.endOut M HM.out (by omega)
    clear HPU y0 y1 y2 h4 HA3
    go_wp2_with fail
    refine (Calls.mono HE.out ?_)
    rintro e w5 ⟨⟨a', c', rfl, g1, g2, g3, g4⟩, b5⟩
    clear HE
    go_wp2
    go_ret2
    exact ⟨⟨a', M, c', rfl, HM.out, g2, g3, g4, g1⟩, b5⟩
end Go.Proofs.YtbiompjhenkieaaGreat
