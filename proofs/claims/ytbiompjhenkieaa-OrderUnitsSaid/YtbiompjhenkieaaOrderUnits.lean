/-
  OrderUnits: any config is right, or not, and has the units, with their shares, that the document says. No conditions: every input.
-/
import Derived.Test.YtbiompjhenkieaaOrderLaw
import Derived.Test.YtbiompjhenkieaaRefUnits
import Derived.Test.YtbiompjhenkieaaCfgX
import Derived.BigQuiet
namespace Go.Proofs.Ytbiompjhenkieaa
open Go.RowKit Go.WideShapes
set_option maxRecDepth 100000

theorem unit_self (d : Nat) (a : Unt) (W : World) : (Op.equalIn (d + 2) 36 (.agg a.arr) (.agg a.arr)).run Try.prog W = .ok true W := by
  have e : true = (a.ord == a.ord && (a.sku == a.sku && (a.cat == a.cat && (a.share == a.share && true)))) := by simp
  rw [e]
  refine struct_eq (d := d + 1) Try.underlying36 (by kernel_rfl) (fun W => ?_) W
  refine eqFields_cons (by decide) (pieceEq_int (k := .i64) (n := a.ord) (m := a.ord) Try.underlying3 rfl rfl) (fun W => ?_) W
  refine eqFields_cons (by decide) (pieceEq_int (k := .i64) (n := a.sku) (m := a.sku) Try.underlying3 rfl rfl) (fun W => ?_) W
  refine eqFields_cons (by decide) (pieceEq_int (k := .i64) (n := a.cat) (m := a.cat) Try.underlying3 rfl rfl) (fun W => ?_) W
  exact eqFields_cons (by decide) (pieceEq_int (k := .i64) (n := a.share) (m := a.share) Try.underlying2 rfl rfl) (eqFields_nil _ _ _) W

set_option maxHeartbeats 4000000 in
theorem orderUnits_law (aO aS aT : Option Addr) (no co ns cs nt ct : Nat) (C : Cfg) (w : World) (hC : CfgIs w aO no aS ns aT nt C) (hf : CfgFit C) (hk : CfgCaps no co ns cs nt ct) :
    Calls Try.prog 3 #[.agg (cfgCells aO no co aS ns cs aT nt ct)] w fun e w' => e = .returned (.bool true) ∧ Below w.heap.size w w' := by
  have hbox := arr_new w (cfgCells aO no co aS ns cs aT nt ct) 26
  have HBX : Aside _ := hbox
  have HB : Aside (Below w.heap.size w (w.alloc (.cells (cfgCells aO no co aS ns cs aT nt ct) 26))) := (Below.refl _ _).alloc (Nat.le_refl _) _
  have HC : Aside (CfgIs (w.alloc (.cells (cfgCells aO no co aS ns cs aT nt ct) 26)) aO no aS ns aT nt C) := hC.below (Below.alloc (Below.refl _ _) (Nat.le_refl _) _)
  have HF := Lib.hid hf
  have HK := Lib.hid hk
  clear hbox hC hf hk
  go_enter Try.func3, Try.ntmps3
  go_upto_region 1 with (fail)
  show Code.wp _ _ _ _ (w.alloc (.cells (cfgCells aO no co aS ns cs aT nt ct) 26))
  generalize w.alloc (.cells (cfgCells aO no co aS ns cs aT nt ct) 26) = w1 at *
  go_wp2_with fail
  refine Calls.mono (order_awake _) ?_
  rintro e w2 ⟨rfl, b2⟩
  have HBX2 : Aside _ := HBX.out.grown b2
  have HC2 : Aside _ := HC.out.below b2
  have HB2 : Aside _ := HB.out.trans (b2.mono HB.out.size)
  clear b2 HBX HC HB
  obtain ⟨c0, c1, c2⟩ := cfgAt_all HBX2.out
  simp only [Nat.zero_add] at c0 c1 c2
  go_wp2_with fail
  refine Calls.mono (law_few _ _ _ _ _ _ _ _ _ C _ HC2.out) ?_
  rintro e w3 ⟨rfl, b3⟩
  have HBX3 : Aside _ := HBX2.out.grown b3
  have HC3 : Aside _ := HC2.out.below b3
  have HB3 : Aside _ := HB2.out.trans (b3.mono HB2.out.size)
  clear b3 HBX2 HC2 HB2 c0 c1 c2
  cases hq : fewC C with
  | false =>
    clear hq
    go_wp2_with fail
    refine Calls.mono (order_awake _) ?_
    rintro e w4 ⟨rfl, b4⟩
    have HB4 : Aside _ := HB3.out.trans (b4.mono HB3.out.size)
    go_wp2
    go_ret
    exact ⟨rfl, HB4.out⟩
  | true =>
    clear hq
    obtain ⟨c0, c1, c2⟩ := cfgAt_all HBX3.out
    simp only [Nat.zero_add] at c0 c1 c2
    go_wp2_with fail
    refine Calls.mono (order_units _ _ _ _ _ _ _ _ _ C _ HC3.out HF.out HK.out) ?_
    rintro e w4 ⟨⟨a, n, c, rfl, hn, hnc, hcm, hu⟩, b4⟩
    have HU : Aside _ := hu
    have HN := Lib.hid hn
    have HBX4 : Aside _ := HBX3.out.grown b4
    have HC4 : Aside _ := HC3.out.below b4
    have HB4 : Aside _ := HB3.out.trans (b4.mono HB3.out.size)
    have hnm : n ≤ maxLen := by omega
    unfold maxLen at hnm
    clear b4 HBX3 HC3 HB3 c0 c1 c2 hu hn hnc hcm
    obtain ⟨c0, c1, c2⟩ := cfgAt_all HBX4.out
    simp only [Nat.zero_add] at c0 c1 c2
    go_wp2_with fail
    refine Calls.mono (ref_rightConfig _ _ _ _ _ _ _ _ _ C _ HC4.out) ?_
    rintro e w5 ⟨rfl, b5⟩
    have HBX5 : Aside _ := HBX4.out.grown b5
    have HC5 : Aside _ := HC4.out.below b5
    have HB5 : Aside _ := HB4.out.trans (b5.mono HB4.out.size)
    have HU5 : Aside _ := UntsAt.below HU.out b5
    clear b5 HBX4 HC4 HB4 HU c0 c1 c2
    obtain ⟨c0, c1, c2⟩ := cfgAt_all HBX5.out
    simp only [Nat.zero_add] at c0 c1 c2
    cases hq : rightC C with
    | false =>
      have hE : errC C = 1 := by unfold errC; rw [hq]; rfl
      have hV : unitsV C = [] := by unfold unitsV; rw [hq]; rfl
      have hn := HN.out
      rw [hV] at hn
      have hn0 : n = 0 := hn.symm
      subst hn0
      rw [hE]
      have HR : Aside (Calls Try.prog 10 #[.agg (cfgCells aO no co aS ns cs aT nt ct)] w5 fun e w' => e = .returned (.bool false) ∧ Below w5.heap.size w5 w') := by have := order_right _ _ _ _ _ _ _ _ _ C w5 HC5.out HF.out HK.out; rwa [hq] at this
      clear hE hV hn hq HN HU5
      as_aux_lemma =>
        go_wp2_with fail
        refine Calls.mono HR.out ?_
        rintro e w6 ⟨rfl, b6⟩
        have HB6 : Aside _ := HB5.out.trans (b6.mono HB5.out.size)
        go_wp2
        go_ret
        exact ⟨rfl, HB6.out⟩
    | true =>
      have hE : errC C = 0 := by unfold errC; rw [hq]; rfl
      have hV : unitsV C = unitsC C := by unfold unitsV; rw [hq]; rfl
      rw [hV] at HN HU5
      rw [hE]
      have HQ := Lib.hid hq
      clear hE hV hq
      go_wp2_with fail
      refine Calls.mono (ref_units _ _ _ _ _ _ _ _ _ C _ HC5.out HQ.out) ?_
      rintro e w6 ⟨⟨a', n', c', rfl, hr⟩, b6⟩
      obtain ⟨hn', -, hu'⟩ := unts_of_row hr
      have e1 : n' = n := by have := HN.out; omega
      subst e1
      have HV : Aside _ := hu'
      have HBX6 : Aside _ := HBX5.out.grown b6
      have HC6 : Aside _ := HC5.out.below b6
      have HB6 : Aside _ := HB5.out.trans (b6.mono HB5.out.size)
      have HU6 : Aside _ := UntsAt.below HU5.out b6
      have HR : Aside (Calls Try.prog 10 #[.agg (cfgCells aO no co aS ns cs aT nt ct)] w6 fun e w' => e = .returned (.bool true) ∧ Below w6.heap.size w6 w') := by have := order_right _ _ _ _ _ _ _ _ _ C w6 HC6.out HF.out HK.out; rwa [HQ.out] at this
      clear b6 HBX5 HC5 HB5 HU5 c0 c1 c2 hr hn' hu'
      obtain ⟨c0, c1, c2⟩ := cfgAt_all HBX6.out
      simp only [Nat.zero_add] at c0 c1 c2
      have hnn : ((n' : Int) != (n' : Int)) = false := by simp
      go_wp2_with fail
      refine Calls.mono HR.out ?_
      rintro e w7 ⟨rfl, b7⟩
      have HB7 : Aside _ := HB6.out.trans (b7.mono HB6.out.size)
      have HU7 : Aside _ := UntsAt.below HU6.out b7
      have HV7 : Aside _ := UntsAt.below HV.out b7
      clear b7 HBX6 HC6 HB6 HU6 HV HR c0 c1 c2 HF HK HQ hnn
      generalize unitsC C = us at *
      go_wp2
      go_loopw [53] (fun i wr => ∃ k : Nat, k ≤ n' ∧ i = .int .i64 k ∧ Aside (Below w7.heap.size w7 wr)) (fun i _ => n' - (intOf i).toNat)
      case atStart => exact ⟨0, Nat.zero_le _, rfl, Below.refl _ _⟩
      case round =>
        obtain ⟨k, hk, rfl, HR⟩ := hrel
        by_cases hlt : k < n'
        · have hkn : (k : Int) < (n' : Int) := by omega
          have hk0 : (0 : Int) ≤ (k : Int) := by omega
          have hl : k < us.length := by rw [HN.out]; exact hlt
          obtain ⟨b1, o1, rfl, hb1, hr1⟩ := RowAt.at (UntsAt.below HU7.out HR.out) HN.out (by omega)
          obtain ⟨b2, o2, rfl, hb2, hr2⟩ := RowAt.at (UntsAt.below HV7.out HR.out) HN.out (by omega)
          obtain ⟨z0, z1, z2, z3⟩ := untAt_all (hr1 k hl)
          obtain ⟨y0, y1, y2, y3⟩ := untAt_all (hr2 k hl)
          have heq := unit_self 9998 us[k]
          clear hr1 hr2
          generalize us[k] = u at *
          unfold Unt.arr at heq
          have HRO : Aside (Below w7.heap.size w7 wr.drew) := HR.out.trans ⟨rfl, rfl, rfl, Nat.le_refl _, fun _ _ => rfl⟩
          clear HU7 HV7 HB7 HN
          go_upto_region 12 with (fail)
          as_aux_lemma =>
            go_quiet (fail)
            as_aux_lemma =>
              go_wp2
              go_roundw
              case rel => exact ⟨k + 1, by omega, by go_num, HR.out.trans ⟨rfl, rfl, rfl, Nat.le_refl _, fun _ _ => rfl⟩⟩
              case measure => simp [intOf]; omega
        · obtain rfl : k = n' := by omega
          have HB8 : Aside _ := HB7.out.trans (HR.out.mono HB7.out.size)
          clear HU7 HV7 HB7 HN HR
          as_aux_lemma =>
            go_wp2
            go_ret
            exact ⟨rfl, HB8.out⟩

theorem orderUnits_contract (W : World) (args : Array Value) (h : Each Try.prog W Try.f3.params.toList args.toList) :
    Calls Try.prog 3 args W fun e W' => e = .returned (.bool true) ∧ Below W.heap.size W W' := by
  rw [Try.params3] at h
  obtain ⟨v0, r0, e0, ⟨_, o0⟩, d0, h⟩ := h.cons
  obtain rfl := h.nil
  obtain ⟨args⟩ := args
  obtain rfl : args = [v0] := e0
  obtain ⟨aO0, no0, co0, aS0, ns0, cs0, aT0, nt0, ct0, C0, rfl, hC0, hf0⟩ := val_cfg o0 d0
  have hk0 := cfg_caps d0
  exact orderUnits_law _ _ _ _ _ _ _ _ _ C0 W hC0 hf0 hk0

theorem orderUnits_lifted (os : Os) (started : os.Started) (H : Type) (enc : TypeId × Value → H) :
    ReturnsInHanded {} Try.checked os 3 .any (Rows.orderUnitsSpec.pre6 enc Try.prog Try.f3 Rows.orderUnitsRow.domain false) (Rows.orderUnitsSpec.post enc Try.prog Try.f3 false true false false) :=
  law_lifted (C := Try.checked) seat_own seat_laid (by kernel_rfl) Try.func3 rfl (tb := 4) rfl Try.underlying4
    (by
      rw [Try.params3]; intro t ht; simp at ht
      obtain rfl := ht; exact ⟨by kernel_rfl, of_decide_eq_true (by kernel_rfl)⟩)
    (fun H ds hl => by
      rw [Try.params3] at hl
      match ds, hl with
      | [d1], _ => rfl)
    os started H enc
    (ChangeSpec.witness6 (enc := enc) (C := Try.checked) false ⟨#[], #[.agg #[.slice none 0 0, .slice none 0 0, .slice none 0 0]], []⟩ 8 (by kernel_rfl) (by kernel_rfl) (by kernel_rfl) (by kernel_rfl))
    orderUnits_contract

theorem orderUnits_holds : Rows.OrderUnitsSaid :=
  OpenClaim.holds_of_wide 3 Try.f3 rfl rfl rfl rfl rfl rfl rfl ⟨rfl, rfl, rfl, rfl, rfl⟩ rfl rfl rfl rfl rfl (by kernel_rfl) Try.func3 (by kernel_rfl)
    (of_decide_eq_true (by kernel_rfl)) (by unfold Func.isWrapper; first | (rw [if_pos (by decide +kernel)]; kernel_rfl) | (rw [if_neg (by decide +kernel)]; exact ⟨rfl, rfl⟩))
    (fun os started H enc _ => orderUnits_lifted os started H enc)
#print axioms orderUnits_holds
end Go.Proofs.Ytbiompjhenkieaa
