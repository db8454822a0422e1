/-
  Package order: Units. Conditions: those of each theorem.
-/
import Derived.Test.YtbiompjhenkieaaGreatOrd2
import Derived.Test.YtbiompjhenkieaaGreatOrdRight
namespace Go.Proofs.YtbiompjhenkieaaGreat
open Go.RowKit
set_option maxRecDepth 100000

structure OrdFine (x : Ord) : Prop where
  len : x.lines.length ≤ 8
  cnt : ∀ l ∈ x.lines, 1 ≤ l.count ∧ l.count ≤ 50
  prc : ∀ p ∈ prices x.lines, 0 ≤ p ∧ p ≤ 1073741824
  ok : OrdOk x
theorem orders_fine {C : Cfg} (h : rightC C = true) : ∀ x ∈ C.orders, OrdFine x := by
  have hk := cfg_ok h
  unfold rightC at h
  simp only [Bool.and_eq_true, decide_eq_true_eq] at h
  have ho := h.1.1.1.2
  intro x hx
  have hb := List.all_eq_true.1 ho x hx
  unfold ordB headB at hb
  simp only [Bool.and_eq_true, decide_eq_true_eq] at hb
  exact ⟨hb.1.1.1.1.1.2.2, lines_counts hb.1.2, prices_all hb.1.2, hk.o x hx⟩
theorem ordsU_snoc {os : List Ord} {k : Nat} (h : k < os.length) : ordsU os (k + 1) = ordsU os k ++ ordU k os[k] := by
  rw [ordsU]
  congr 2
  simp [List.getD, h]
theorem unitCells_append (a b : List Unt) : unitCells (a ++ b) = unitCells a ++ unitCells b := by simp [unitCells]
theorem unitCells_rep (u : Unt) (N : Nat) : unitCells (List.replicate N u) = (List.replicate N u.arr.toList).flatten := by simp [unitCells]
theorem unitCells_one (us : List Unt) : ∀ v ∈ unitCells us, v.oneCell' = true := by
  intro v hv
  unfold unitCells at hv
  rw [List.mem_flatten] at hv
  obtain ⟨l, hl, hv⟩ := hv
  rw [List.mem_map] at hl
  obtain ⟨u, _, rfl⟩ := hl
  exact unit_one u v hv
theorem sups_few {C : Cfg} (h : rightC C = true) : C.sups.length ≤ 20 ∧ C.orders.length ≤ 20 ∧ ∀ s ∈ C.sups, 1 ≤ s.count ∧ s.count ≤ 50 := by
  have hk := cfg_ok h
  unfold rightC at h
  simp only [Bool.and_eq_true, decide_eq_true_eq] at h
  exact ⟨h.1.1.1.1.2, h.1.1.1.1.1.2, fun s hs => (hk.s s hs).count⟩

theorem order_units_wrong (aO aS aT : Option Addr) (no co ns cs nt ct : Nat) (C : Cfg) (w : World) (hC : CfgIs w aO no aS ns aT nt C) (hf : CfgFit C) (hk : CfgCaps no co ns cs nt ct) (hr : rightC C = false) :
    Calls Tryz.prog 13 #[.agg (cfgCells aO no co aS ns cs aT nt ct)] w fun e w' => e = .returned (.tuple #[.slice none 0 0, .int .i64 1]) ∧ Below w.heap.size w w' := by
  have hbn : Below w.heap.size w (w.alloc (.cells (cfgCells aO no co aS ns cs aT nt ct) 26)) := (Below.refl _ _).alloc (Nat.le_refl _) _
  have hR := order_right aO aS aT no co ns cs nt ct C (w.alloc (.cells (cfgCells aO no co aS ns cs aT nt ct) 26)) (hC.below hbn) hf hk
  rw [hr] at hR
  have HR : Aside _ := hR
  have HB : Aside _ := hbn
  have HA : Aside _ := arr_new w (cfgCells aO no co aS ns cs aT nt ct) 26
  clear hR hC hbn hr hf hk
  go_enter Tryz.func13, Tryz.ntmps13
  go_upto_region 1 with (fail)
  show Code.wp _ _ _ _ (w.alloc (.cells (cfgCells aO no co aS ns cs aT nt ct) 26))
  generalize w.alloc (.cells (cfgCells aO no co aS ns cs aT nt ct) 26) = w1 at *
  obtain ⟨y0, y1, y2⟩ := cfgAt_all HA.out
  simp only [Nat.zero_add] at y1 y2
  go_wp2_with fail
  refine (Calls.mono HR.out ?_)
  rintro e w2 ⟨rfl, b2⟩
  have HB2 : Aside _ := HB.out.trans (b2.mono HB.out.size)
  go_wp2
  go_ret2
  exact ⟨rfl, HB2.out⟩

set_option maxHeartbeats 4000000 in
theorem order_units_right (aO aS aT : Option Addr) (no co ns cs nt ct : Nat) (C : Cfg) (w : World) (hC : CfgIs w aO no aS ns aT nt C) (hf : CfgFit C) (hk : CfgCaps no co ns cs nt ct) (hr : rightC C = true) :
    Calls Tryz.prog 13 #[.agg (cfgCells aO no co aS ns cs aT nt ct)] w fun e w' => (∃ a n c base, e = .returned (.tuple #[.slice a n c, .int .i64 0]) ∧ (unitsC C).length = n ∧ w'.ownsRow base 75 4 (.slice a n c) n (unitCells (unitsC C))) ∧ Below w.heap.size w w' := by
  have hbn : Below w.heap.size w (w.alloc (.cells (cfgCells aO no co aS ns cs aT nt ct) 26)) := (Below.refl _ _).alloc (Nat.le_refl _) _
  have hR := order_right aO aS aT no co ns cs nt ct C (w.alloc (.cells (cfgCells aO no co aS ns cs aT nt ct) 26)) (hC.below hbn) hf hk
  rw [hr] at hR
  have HR : Aside _ := hR
  have HC0 : Aside _ := hC.below hbn
  have HB0 : Aside _ := hbn
  have HA0 : Aside _ := arr_new w (cfgCells aO no co aS ns cs aT nt ct) 26
  have HOF : Hid (∀ x ∈ C.orders, OrdFine x) := orders_fine hr
  have hsf := sups_few hr
  have HSF : Hid (∀ s ∈ C.sups, 1 ≤ s.count ∧ s.count ≤ 50) := hsf.2.2
  have hns : ns ≤ 20 := by rw [← hC.sl]; exact hsf.1
  have hno : no ≤ 20 := by rw [← hC.ol]; exact hsf.2.1
  clear hR hC hbn hr hf hk hsf
  go_enter Tryz.func13, Tryz.ntmps13
  go_upto_region 1 with (fail)
  show Code.wp _ _ _ _ (w.alloc (.cells (cfgCells aO no co aS ns cs aT nt ct) 26))
  generalize w.alloc (.cells (cfgCells aO no co aS ns cs aT nt ct) 26) = w0 at *
  obtain ⟨y0, y1, y2⟩ := cfgAt_all HA0.out
  simp only [Nat.zero_add] at y1 y2
  go_wp2_with fail
  refine (Calls.mono HR.out ?_)
  rintro e w1 ⟨rfl, b1⟩
  have HB1 : Aside (Below w.heap.size w w1) := HB0.out.trans (b1.mono HB0.out.size)
  have HA1 : Aside _ := HA0.out.grown b1
  have HC1 : Aside _ := HC0.out.below b1
  clear HR y0 y1 y2 b1 HB0 HA0 HC0
  obtain ⟨y0, y1, y2⟩ := cfgAt_all HA1.out
  simp only [Nat.zero_add] at y1 y2
  have hoa := HC1.out.oa
  have HN := Lib.hid HC1.out.ol
  go_wp2
  clear y0 y1 y2
  go_loopw [4, 16] (fun s4 s16 wr => ∃ (k m : Nat) (a2 : Option Addr) (c2 : Nat), k ≤ no ∧ s16 = .int .i64 k ∧ s4 = .slice a2 m c2 ∧ m ≤ 200 * k ∧ Hid (m = (ordsU C.orders k).length) ∧ Aside (Below w1.heap.size w1 wr) ∧ Aside (wr.ownsRow w1.heap.size 75 4 (.slice a2 m c2) m (unitCells (ordsU C.orders k)))) (fun _ s16 _ => no - (intOf s16).toNat)
  case atStart => exact ⟨0, 0, none, 0, Nat.zero_le _, rfl, rfl, Nat.le_refl _, rfl, Below.refl _ _, World.ownsRow_nil _ _ _ _⟩
  case round =>
    obtain ⟨k, m, a2, c2, hk, rfl, rfl, hm, HM, HB, HO⟩ := hrel
    by_cases hlt : k < no
    · have hkn : (k : Int) < (no : Int) := by omega
      rcases hoa with hnil | ⟨b, off, rfl, hb, hc⟩
      · have := HN.out; rw [hnil] at this; simp at this; omega
      have hlk : k < C.orders.length := by rw [HN.out]; exact hlt
      obtain ⟨a', n', c', hA, h2, h3, h4, h5⟩ := hc k hlk
      have hA2 := hA.below HB.out hb
      obtain ⟨z0, z1, z2, z3, z4⟩ := ordAt_all hA2
      have HFN := Lib.hid (HOF.out _ (List.getElem_mem hlk))
      have HTK := Lib.hid (ordsU_snoc hlk)
      have hlns := h5.below HB.out
      have hL := h2
      clear hc hA hA2 h2 h3 h4 h5
      generalize C.orders[k] = x at *
      have hn8 : n' ≤ 8 := by have := HFN.out.len; omega
      have HB2 : Aside (Below w1.heap.size w1 (wr.alloc (.cells (ordCells x.day a' n' c' x.disc x.tax x.ship) 45))) := HB.out.alloc HB.out.size _
      have HO2 : Aside _ := ownsRow_alloc HO.out (.cells (ordCells x.day a' n' c' x.disc x.tax x.ship) 45)
      have HA2 : Aside (ArrAt (wr.alloc (.cells (ordCells x.day a' n' c' x.disc x.tax x.ship) 45)) wr.heap.size 0 (ordCells x.day a' n' c' x.disc x.tax x.ship)) := arr_new wr _ _
      have HU : Aside _ := ord_unitsOf k x a' n' c' (wr.alloc (.cells (ordCells x.day a' n' c' x.disc x.tax x.ship) 45)) hL hn8 (LnsAt.below hlns (upd_box _)) HFN.out.cnt HFN.out.prc HFN.out.ok
      go_upto_region 7 with (fail)
      show Code.wp _ _ _ _ (wr.alloc (.cells (ordCells x.day a' n' c' x.disc x.tax x.ship) 45))
      clear z0 z1 z2 z3 z4 HB HO hlns hL
      generalize wr.alloc (.cells (ordCells x.day a' n' c' x.disc x.tax x.ship) 45) = w2 at *
      generalize wr.heap.size = gl at *
      obtain ⟨z0, z1, z2, z3, z4⟩ := ordAt_all HA2.out
      simp only [Nat.zero_add] at z1 z2 z3 z4
      go_wp2_with fail
      refine (Calls.mono HU.out ?_)
      rintro e w3 ⟨⟨S, N, c3, rfl, hN, hN1, hN2, hNc, hcell⟩, b3⟩
      have HB3 : Aside (Below w1.heap.size w1 w3) := HB2.out.trans (b3.mono HB2.out.size)
      have HO3 : Aside _ := own_rest HO2.out b3
      have HCL : Aside (∀ j v, (unitCells (ordU k x))[j]? = some v → w3.cell? ⟨S, j, none⟩ = some v) := hcell
      have HNL := Lib.hid hN
      clear HU b3 HB2 HO2 hcell z0 z1 z2 z3 z4 HA2 hN
      go_wp2_with (at_builtin; refine wpList_append_full rfl (.tmp 21) (.tmp 24) 38 rfl w1.heap.size 75 _ 4 32 Tryz.underlying38 info_unto rfl (by decide) (.slice a2 m c2) m (unitCells (ordsU C.orders k)) rfl HO3.out ⟨S, 0, none⟩ N c3 (unitCells (ordU k x)) rfl (by rw [unitCells_length, HNL.out]) (fun j u hj => by rw [add_zero_addr]; exact HCL.out j u hj) (unitCells_one _) (by unfold maxLen; omega) (by omega) HB3.out.size ?_; intro a6 c6 w6 h61 h62 h63)
      obtain ⟨M, hM⟩ : ∃ M, M = m + N := ⟨_, rfl⟩
      have hM2 : M ≤ 200 * (k + 1) := by omega
      have HM6 : Hid (M = (ordsU C.orders (k + 1)).length) := by
        show _ = _
        rw [HTK.out, List.length_append, ← HM.out, HNL.out, hM]
      have HO6 : Aside (w6.ownsRow w1.heap.size 75 4 (.slice a6 M c6) M (unitCells (ordsU C.orders (k + 1)))) := by
        show World.ownsRow _ _ _ _ _ _ _
        rw [HTK.out, unitCells_append, hM]
        exact h61
      have HB6 : Aside (Below w1.heap.size w1 w6) := HB3.out.grown h62 HB3.out.size (fun q hq => own_base HO3.out hq)
      rw [← hM]
      clear h61 h62 h63 HO3 HCL HB3 hM HM
      go_wp2
      go_roundw
      case rel => exact ⟨k + 1, M, a6, c6, by omega, by go_num, rfl, hM2, HM6.out, HB6.out, HO6.out⟩
      case measure => simp [intOf]; omega
    · obtain rfl : k = no := by omega
      obtain ⟨US, hUS⟩ : ∃ US, US = ordsU C.orders C.orders.length := ⟨_, rfl⟩
      have HUS := Lib.hid hUS
      have hkl : k = C.orders.length := HN.out.symm
      have HO1 : Aside (wr.ownsRow w1.heap.size 75 4 (.slice a2 m c2) m (unitCells US)) := by
        show World.ownsRow _ _ _ _ _ _ _
        rw [hUS, ← hkl]
        exact HO.out
      have HM1 : Hid (m = US.length) := by
        show _ = _
        rw [hUS, ← hkl]
        exact HM.out
      have hm1 : m ≤ 4000 := by omega
      have HA3 : Aside _ := HA1.out.grown HB.out
      have hsa := HC1.out.sa
      have HNS := Lib.hid HC1.out.sl
      obtain ⟨y0, y1, y2⟩ := cfgAt_all HA3.out
      simp only [Nat.zero_add] at y1 y2
      clear hUS hkl HO HM hoa HA1 hm
      generalize wr = wo at *
      go_wp2
      clear y0 y1 y2
      go_loopw [4, 30] (fun s4 s30 wr => ∃ (j q : Nat) (a3 : Option Addr) (c3 : Nat), j ≤ ns ∧ s30 = .int .i64 j ∧ s4 = .slice a3 q c3 ∧ q ≤ 4000 + 50 * j ∧ Hid (q = (US ++ supsU (C.sups.take j)).length) ∧ Aside (Below w1.heap.size w1 wr) ∧ Aside (wr.ownsRow w1.heap.size 75 4 (.slice a3 q c3) q (unitCells (US ++ supsU (C.sups.take j))))) (fun _ s30 _ => ns - (intOf s30).toNat)
      case atStart => exact ⟨0, m, a2, c2, Nat.zero_le _, rfl, rfl, by omega, by show _ = _; rw [show supsU (C.sups.take 0) = [] from rfl, List.append_nil]; exact HM1.out, HB.out, by show World.ownsRow _ _ _ _ _ _ _; rw [show supsU (C.sups.take 0) = [] from rfl, List.append_nil]; exact HO1.out⟩
      case round =>
        clear HO1 HM1
        obtain ⟨j, q, a3, c3, hj, rfl, rfl, hq, HQ, HBB, HO⟩ := hrel
        by_cases hlt2 : j < ns
        · have hjn : (j : Int) < (ns : Int) := by omega
          rcases hsa with hnil | ⟨bl, ol, rfl, hbl, hcl⟩
          · have := HNS.out; rw [hnil] at this; simp at this; omega
          have hlj : j < C.sups.length := by rw [HNS.out]; exact hlt2
          obtain ⟨z0, z1, z2⟩ := SupAt.all ((hcl j hlj).below HBB.out hbl)
          have hcn := HSF.out _ (List.getElem_mem hlj)
          have HTK := Lib.hid (supsU_take C.sups j hlj)
          clear hcl
          generalize C.sups[j] = s at *
          have HB2 : Aside (Below w1.heap.size w1 (wr.alloc (.cells s.arr 42))) := HBB.out.alloc HBB.out.size _
          have HO2 : Aside _ := ownsRow_alloc HO.out (.cells s.arr 42)
          have HA2 : Aside (ArrAt (wr.alloc (.cells s.arr 42)) wr.heap.size 0 s.arr) := arr_new wr s.arr _
          go_upto_region 12 with (fail)
          show Code.wp _ _ _ _ (wr.alloc (.cells s.arr 42))
          clear z0 z1 z2 HBB HO
          generalize wr.alloc (.cells s.arr 42) = w2 at *
          generalize wr.heap.size = gl at *
          obtain ⟨y0, y1, y2⟩ := SupAt.all HA2.out
          simp only [Nat.zero_add] at y1 y2
          obtain ⟨U, hU⟩ : ∃ U : Unt, U = ⟨-1, s.sku, 0, s.price⟩ := ⟨_, rfl⟩
          have HSU : Hid (supU s = List.replicate s.count.toNat U) := by show _ = _; rw [hU]; rfl
          have hUA : U.arr = #[.int .i64 (-1), .int .i64 s.sku, .int .i64 0, .int .i64 s.price] := by rw [hU]; rfl
          have HUA := Lib.hid hUA
          have HB3 : Aside (Below w1.heap.size w1 (w2.alloc (.cells U.arr 75))) := HB2.out.alloc HB2.out.size _
          have HO3 : Aside _ := ownsRow_alloc HO2.out (.cells U.arr 75)
          have HA3 : Aside (ArrAt (w2.alloc (.cells U.arr 75)) gl 0 s.arr) := HA2.out.grown (upd_box _)
          have HAU : Aside (ArrAt (w2.alloc (.cells U.arr 75)) w2.heap.size 0 U.arr) := arr_new w2 U.arr _
          rw [hUA] at HB3 HO3 HA3 HAU
          clear hU hUA
          go_upto_region 13 with (fail)
          show Code.wp _ _ _ _ (w2.alloc (.cells #[.int .i64 (-1), .int .i64 s.sku, .int .i64 0, .int .i64 s.price] 75))
          clear HB2 HO2 HA2 y0 y1 y2
          generalize w2.alloc (.cells #[.int .i64 (-1), .int .i64 s.sku, .int .i64 0, .int .i64 s.price] 75) = w3 at *
          generalize w2.heap.size = gu at *
          have b4 : Below w3.heap.size w3 (w3.alloc (.cells #[.int .i64 (-1), .int .i64 s.sku, .int .i64 0, .int .i64 s.price] 75)) := upd_box _
          obtain ⟨y0, y1, y2⟩ := SupAt.all (HA3.out.grown b4)
          simp only [Nat.zero_add] at y1 y2
          have x0 := HAU.out.cells 0 _ rfl
          have x1 := HAU.out.cells 1 _ rfl
          have x2 := HAU.out.cells 2 _ rfl
          have x3 := HAU.out.cells 3 _ rfl
          simp only [Nat.zero_add] at x0 x1 x2 x3
          obtain ⟨N, hN⟩ : ∃ N : Nat, s.count = N := ⟨s.count.toNat, by omega⟩
          have hNN : s.count.toNat = N := by omega
          rw [hNN] at HSU
          rw [hN] at y2 hcn
          have hRP := repeat_unit w3.heap.size 1 N U (w3.alloc (.cells U.arr 75)) (by omega) (by omega) (by simp) (fun i y h => by
            have := (arr_new w3 U.arr 75).cells i y (by simpa using h)
            rwa [Nat.zero_add] at this)
          have HB4 : Aside (Below w1.heap.size w1 (w3.alloc (.cells #[.int .i64 (-1), .int .i64 s.sku, .int .i64 0, .int .i64 s.price] 75))) := HB3.out.alloc HB3.out.size _
          have HO4 : Aside _ := ownsRow_alloc HO3.out (.cells #[.int .i64 (-1), .int .i64 s.sku, .int .i64 0, .int .i64 s.price] 75)
          rw [HUA.out] at hRP
          have HRP : Aside _ := hRP
          clear hRP hNN hN y0 y1 b4 HB3 HO3 HA3 HAU
          generalize s.sku = sk at *
          generalize s.price = sp at *
          go_wp2_with fail
          refine (Calls.mono HRP.out ?_)
          rintro e w5 ⟨S, rfl, hS1, hS2, b5, hc5⟩
          have HB5 : Aside (Below w1.heap.size w1 w5) := HB4.out.trans (b5.mono HB4.out.size)
          have HO5 : Aside _ := own_rest HO4.out b5
          have HC5 : Aside (∀ i v, (unitCells (List.replicate N U))[i]? = some v → w5.cell? ⟨S, i, none⟩ = some v) := by
            show ∀ i v, _ → _
            rw [unitCells_rep, HUA.out]
            exact hc5
          clear b5 hc5 HRP HB4 HO4 y2 x0 x1 x2 x3 hS1 hS2
          go_wp2_with (at_builtin; refine wpList_append_full rfl (.tmp 39) (.tmp 44) 38 rfl w1.heap.size 75 _ 4 32 Tryz.underlying38 info_unto rfl (by decide) (.slice a3 q c3) q (unitCells (US ++ supsU (C.sups.take j))) rfl HO5.out ⟨S, 0, none⟩ N N (unitCells (List.replicate N U)) rfl (by rw [unitCells_length, List.length_replicate]) (fun i u hi => by rw [add_zero_addr]; exact HC5.out i u hi) (unitCells_one _) (by unfold maxLen; omega) (by omega) HB5.out.size ?_; intro a6 c6 w6 h61 h62 h63)
          obtain ⟨M, hM⟩ : ∃ M, M = q + N := ⟨_, rfl⟩
          have hM2 : M ≤ 4000 + 50 * (j + 1) := by omega
          have hcat : US ++ supsU (C.sups.take (j + 1)) = (US ++ supsU (C.sups.take j)) ++ List.replicate N U := by rw [HTK.out, HSU.out, List.append_assoc]
          have HM6 : Hid (M = (US ++ supsU (C.sups.take (j + 1))).length) := by
            show _ = _
            rw [hcat, List.length_append, ← HQ.out, List.length_replicate, hM]
          have HO6 : Aside (w6.ownsRow w1.heap.size 75 4 (.slice a6 M c6) M (unitCells (US ++ supsU (C.sups.take (j + 1))))) := by
            show World.ownsRow _ _ _ _ _ _ _
            rw [hcat, unitCells_append (US ++ supsU (C.sups.take j)), hM]
            exact h61
          have HB6 : Aside (Below w1.heap.size w1 w6) := HB5.out.grown h62 HB5.out.size (fun q hq => own_base HO5.out hq)
          rw [← hM]
          clear h61 h62 h63 HO5 HC5 HB5 hM HQ hcat
          go_wp2
          go_roundw
          case rel => exact ⟨j + 1, M, a6, c6, by omega, by go_num, rfl, hM2, HM6.out, HB6.out, HO6.out⟩
          case measure => simp [intOf]; omega
        · obtain rfl : j = ns := by omega
          have hfin : US ++ supsU (C.sups.take j) = unitsC C := by rw [List.take_of_length_le (by rw [HNS.out]; exact Nat.le_refl _), HUS.out]; rfl
          rw [hfin] at HO HQ
          clear hfin
          have HBF : Aside (Below w.heap.size w wr) := HB1.out.trans (HBB.out.mono HB1.out.size)
          go_wp2
          go_ret2
          exact ⟨⟨a3, q, c3, w1.heap.size, rfl, HQ.out.symm, HO.out⟩, HBF.out⟩

theorem order_units (aO aS aT : Option Addr) (no co ns cs nt ct : Nat) (C : Cfg) (w : World) (hC : CfgIs w aO no aS ns aT nt C) (hf : CfgFit C) (hk : CfgCaps no co ns cs nt ct) :
    Calls Tryz.prog 13 #[.agg (cfgCells aO no co aS ns cs aT nt ct)] w fun e w' => (∃ a n c, e = .returned (.tuple #[.slice a n c, .int .i64 (errC C)]) ∧ (unitsV C).length = n ∧ n ≤ c ∧ c ≤ maxLen ∧ UntsAt w' a (unitsV C)) ∧ Below w.heap.size w w' := by
  unfold errC unitsV
  cases hr : rightC C with
  | false =>
    refine (order_units_wrong aO aS aT no co ns cs nt ct C w hC hf hk hr).mono ?_
    rintro e w' ⟨rfl, hb⟩
    exact ⟨⟨none, 0, 0, rfl, rfl, Nat.le_refl _, by decide, .inl rfl⟩, hb⟩
  | true =>
    refine (order_units_right aO aS aT no co ns cs nt ct C w hC hf hk hr).mono ?_
    rintro e w' ⟨⟨a, n, c, base, rfl, hn, hown⟩, hb⟩
    obtain ⟨h1, h2, h3⟩ := unts_of_row hown
    refine ⟨⟨a, n, c, rfl, hn, h2, ?_, h3⟩, hb⟩
    rcases hown.2 with ⟨hv, -⟩ | ⟨g, cap, cur, hv, -, -, -, hcm, -, -⟩
    · injection hv with e1 e2 e3
      subst e3
      decide
    · injection hv with e1 e2 e3
      subst e3
      exact hcm
end Go.Proofs.YtbiompjhenkieaaGreat
