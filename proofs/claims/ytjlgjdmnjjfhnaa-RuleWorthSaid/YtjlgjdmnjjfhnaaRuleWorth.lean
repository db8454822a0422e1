/-
  RuleWorth: what anything is worth, the fee, and the place, are what the document says, or refused. No conditions: every input.
-/
import Derived.Test.YtjlgjdmnjjfhnaaRuleLaw
import Derived.Test.YtjlgjdmnjjfhnaaRuleRef
namespace Go.Proofs.Ytjlgjdmnjjfhnaa
open Go.RowKit Go.WideShapes
set_option maxRecDepth 100000

set_option maxHeartbeats 8000000 in
theorem ruleWorth_law (p : Pol) (s r g : Int) (w : World) :
    Calls Try.prog 4 #[.agg p.arr, .int .i64 s, .int .i64 r, .int .i64 g] w fun e w' => e = .returned (.bool true) ∧ Below w.heap.size w w' := by
  have hp := pol_new w p 27
  have HB : Aside (Below w.heap.size w (w.alloc (.cells p.arr 27))) := (Below.refl _ _).alloc (Nat.le_refl _) _
  have HW : Aside (∀ W, _) := rule_worth p s r g
  have HF : Aside (∀ W, _) := rule_fee p s r
  have HT : Aside (∀ W, _) := rule_to p g
  have HR : Aside (∀ W, _) := ref_rightPolicy p
  have HWV : Hid (worthV p s r g = if rightP p then (if four r && four g then (if sumB s then worthOf p s r.toNat g.toNat else 0) else 0) else 0) := rfl
  have HWE : Hid (worthE p s r g = if rightP p then (if four r && four g then (if sumB s then 0 else 9) else 1) else 10) := rfl
  have HFV : Hid (feeV p s r = if rightP p then (if four r then partV s (p.fee r.toNat) 10000 else 0) else 0) := rfl
  have HFE : Hid (feeE p s r = if rightP p then (if four r then (if sumB s then 0 else 9) else 1) else 10) := rfl
  have HTV : Hid (toV p g = if rightP p then (if four g then p.dest g.toNat else 0) else 0) := rfl
  have HTE : Hid (toE p g = if rightP p then (if four g then 0 else 1) else 10) := rfl
  generalize worthV p s r g = V at *
  generalize worthE p s r g = E at *
  generalize feeV p s r = N at *
  generalize feeE p s r = F at *
  generalize toV p g = T at *
  generalize toE p g = G at *
  have HPA : Aside _ := hp
  clear hp
  go_enter Try.func4, Try.ntmps4
  go_upto_region 1 with (fail)
  show Code.wp _ _ _ _ (w.alloc (.cells p.arr 27))
  generalize w.alloc (.cells p.arr 27) = w1 at *
  go_wp2_with fail
  refine Calls.mono (rule_awake _) ?_
  rintro e w2 ⟨rfl, b2⟩
  have HP2 : Aside _ := HPA.out.grown b2
  have HB2 : Aside _ := HB.out.trans (b2.mono HB.out.size)
  clear HPA HB b2
  have hcs := HP2.out.cells
  go_wp2_with (refine wpList_load_cells rfl 27 _ rfl w.heap.size 0 rfl p.arr _ hcs Try.underlying27 rfl info_pol ?_)
  refine Calls.mono (HW.out _) ?_
  rintro e w3 ⟨rfl, b3⟩
  have HP3 : Aside _ := HP2.out.grown b3
  have HB3 : Aside _ := HB2.out.trans (b3.mono HB2.out.size)
  clear HP2 HB2 b3 HW hcs
  have hcs := HP3.out.cells
  go_wp2_with (refine wpList_load_cells rfl 27 _ rfl w.heap.size 0 rfl p.arr _ hcs Try.underlying27 rfl info_pol ?_)
  refine Calls.mono (HF.out _) ?_
  rintro e w4 ⟨rfl, b4⟩
  have HP4 : Aside _ := HP3.out.grown b4
  have HB4 : Aside _ := HB3.out.trans (b4.mono HB3.out.size)
  clear HP3 HB3 b4 HF hcs
  have hcs := HP4.out.cells
  go_wp2_with (refine wpList_load_cells rfl 27 _ rfl w.heap.size 0 rfl p.arr _ hcs Try.underlying27 rfl info_pol ?_)
  refine Calls.mono (HT.out _) ?_
  rintro e w5 ⟨rfl, b5⟩
  have HP5 : Aside _ := HP4.out.grown b5
  have HB5 : Aside _ := HB4.out.trans (b5.mono HB4.out.size)
  clear HP4 HB4 b5 HT hcs
  have hcs := HP5.out.cells
  go_upto_region 6 with (fail)
  go_cut [15, 16] (fun s15 s16 wx => s15 = .bool (four r) ∧ s16 = .bool (four g) ∧ w5 = wx)
  case first =>
    as_aux_lemma =>
      clear hcs HP5 HB5 HR
      by_cases r0 : 0 ≤ r
      · by_cases r4 : r < 4
        · have er : four r = true := decide_eq_true ⟨r0, r4⟩
          by_cases g0 : 0 ≤ g
          · by_cases g4 : g < 4
            · have eg : four g = true := decide_eq_true ⟨g0, g4⟩
              have ER := Lib.hid er
              have EG := Lib.hid eg
              clear er eg HWV HWE HFV HFE HTV HTE
              go_wp2_with fail
              go_meet
              exact ⟨by rw [ER.out], by rw [EG.out], rfl⟩
            · have eg : four g = false := decide_eq_false (fun h => g4 h.2)
              have ER := Lib.hid er
              have EG := Lib.hid eg
              clear er eg HWV HWE HFV HFE HTV HTE
              go_wp2_with fail
              go_meet
              exact ⟨by rw [ER.out], by rw [EG.out], rfl⟩
          · have eg : four g = false := decide_eq_false (fun h => g0 h.1)
            have ER := Lib.hid er
            have EG := Lib.hid eg
            clear er eg HWV HWE HFV HFE HTV HTE
            go_wp2_with fail
            go_meet
            exact ⟨by rw [ER.out], by rw [EG.out], rfl⟩
        · have er : four r = false := decide_eq_false (fun h => r4 h.2)
          by_cases g0 : 0 ≤ g
          · by_cases g4 : g < 4
            · have eg : four g = true := decide_eq_true ⟨g0, g4⟩
              have ER := Lib.hid er
              have EG := Lib.hid eg
              clear er eg HWV HWE HFV HFE HTV HTE
              go_wp2_with fail
              go_meet
              exact ⟨by rw [ER.out], by rw [EG.out], rfl⟩
            · have eg : four g = false := decide_eq_false (fun h => g4 h.2)
              have ER := Lib.hid er
              have EG := Lib.hid eg
              clear er eg HWV HWE HFV HFE HTV HTE
              go_wp2_with fail
              go_meet
              exact ⟨by rw [ER.out], by rw [EG.out], rfl⟩
          · have eg : four g = false := decide_eq_false (fun h => g0 h.1)
            have ER := Lib.hid er
            have EG := Lib.hid eg
            clear er eg HWV HWE HFV HFE HTV HTE
            go_wp2_with fail
            go_meet
            exact ⟨by rw [ER.out], by rw [EG.out], rfl⟩
      · have er : four r = false := decide_eq_false (fun h => r0 h.1)
        by_cases g0 : 0 ≤ g
        · by_cases g4 : g < 4
          · have eg : four g = true := decide_eq_true ⟨g0, g4⟩
            have ER := Lib.hid er
            have EG := Lib.hid eg
            clear er eg HWV HWE HFV HFE HTV HTE
            go_wp2_with fail
            go_meet
            exact ⟨by rw [ER.out], by rw [EG.out], rfl⟩
          · have eg : four g = false := decide_eq_false (fun h => g4 h.2)
            have ER := Lib.hid er
            have EG := Lib.hid eg
            clear er eg HWV HWE HFV HFE HTV HTE
            go_wp2_with fail
            go_meet
            exact ⟨by rw [ER.out], by rw [EG.out], rfl⟩
        · have eg : four g = false := decide_eq_false (fun h => g0 h.1)
          have ER := Lib.hid er
          have EG := Lib.hid eg
          clear er eg HWV HWE HFV HFE HTV HTE
          go_wp2_with fail
          go_meet
          exact ⟨by rw [ER.out], by rw [EG.out], rfl⟩
  case rest =>
    obtain ⟨rfl, rfl, rfl⟩ := hcut
    cases hq : rightP p with
    | false =>
     as_aux_lemma =>
      have HR2 := HR.out
      have hv := HWV.out
      have he := HWE.out
      have hfv := HFV.out
      have hfe := HFE.out
      have htv := HTV.out
      have hte := HTE.out
      rw [hq] at HR2 hv he hfv hfe htv hte
      have HR3 : Aside _ := HR2
      obtain rfl : V = 0 := hv
      obtain rfl : E = 10 := he
      obtain rfl : N = 0 := hfv
      obtain rfl : F = 10 := hfe
      obtain rfl : T = 0 := htv
      obtain rfl : G = 10 := hte
      clear HR2 HR HWV HWE HFV HFE HTV HTE hq
      go_wp2_with (refine wpList_load_cells rfl 27 _ rfl w.heap.size 0 rfl p.arr _ hcs Try.underlying27 rfl info_pol ?_)
      refine Calls.mono (HR3.out _) ?_
      rintro e w6 ⟨rfl, b6⟩
      have HB6 : Aside _ := HB5.out.trans (b6.mono HB5.out.size)
      clear hcs HP5
      go_wp2
      go_ret
      exact ⟨rfl, HB6.out⟩
    | true =>
      have HR2 := HR.out
      rw [hq] at HR2
      have HR3 : Aside _ := HR2
      clear HR2 HR
      go_wp2_with (refine wpList_load_cells rfl 27 _ rfl w.heap.size 0 rfl p.arr _ hcs Try.underlying27 rfl info_pol ?_)
      refine Calls.mono (HR3.out _) ?_
      rintro e w6 ⟨rfl, b6⟩
      have HB6 : Aside _ := HB5.out.trans (b6.mono HB5.out.size)
      have HP6 : Aside _ := HP5.out.grown b6
      have HRP : Hid (RightP p) := rightP_facts hq
      clear hcs HP5 HR3 HB5 b6
      have hv := HWV.out
      have he := HWE.out
      have hfv := HFV.out
      have hfe := HFE.out
      have htv := HTV.out
      have hte := HTE.out
      simp only [hq, if_true] at hv he hfv hfe htv hte
      clear HWV HWE HFV HFE HTV HTE hq
      cases hr : four r with
      | false =>
        simp only [hr, Bool.false_and, Bool.false_eq_true, if_false] at hv he hfv hfe
        subst hv he hfv hfe
        clear hr
        cases hg : four g with
        | false =>
          simp only [hg, Bool.false_eq_true, if_false] at htv hte
          subst htv hte
          clear hg
          by_cases s0 : s < 0
          · go_wp2
            go_ret
            exact ⟨rfl, HB6.out⟩
          · by_cases s1 : 1125899906842624 < s
            · go_wp2
              go_ret
              exact ⟨rfl, HB6.out⟩
            · go_wp2
              go_ret
              exact ⟨rfl, HB6.out⟩
        | true =>
          simp only [hg, if_true] at htv hte
          obtain ⟨kg, rfl, hkg⟩ := four_nat hg
          have hgi : (kg : Int) < 4 := by omega
          have hgt : ((kg : Int)).toNat = kg := by omega
          rw [hgt] at htv
          have cd := HP6.out.dest kg hkg
          subst hte
          rw [← htv] at cd
          clear hg hgt htv
          by_cases s0 : s < 0
          · go_wp2
            go_ret
            exact ⟨rfl, HB6.out⟩
          · by_cases s1 : 1125899906842624 < s
            · go_wp2
              go_ret
              exact ⟨rfl, HB6.out⟩
            · go_wp2
              go_ret
              exact ⟨rfl, HB6.out⟩
      | true =>
        obtain ⟨kr, rfl, hkr⟩ := four_nat hr
        have hri : (kr : Int) < 4 := by omega
        have hrt : ((kr : Int)).toNat = kr := by omega
        simp only [hr, hrt, if_true, Bool.true_and] at hv he hfv hfe
        clear hr hrt
        have hfe4 := HRP.out.fee kr hkr
        have cf := HP6.out.fee kr hkr
        have hfw : IntKind.i64.wrap (p.fee kr) = p.fee kr := by rw [IntKind.wrap_i64]; omega
        cases hs : sumB s with
        | false =>
          as_aux_lemma =>
            obtain ⟨-, e2⟩ := part_nomoney (n := p.fee kr) hs
            have hs2 := of_decide_eq_false hs
            simp only [hs, Bool.false_eq_true, if_false] at hv he hfe
            rw [e2] at hfv
            subst hfv hfe
            clear e2 hs hfe4 hfw cf
            cases hg : four g with
            | false =>
              simp only [hg, Bool.false_eq_true, if_false] at htv hte hv he
              subst htv hte hv he
              clear hg
              by_cases s0 : s < 0
              · clear hs2
                go_wp2
                go_ret
                exact ⟨rfl, HB6.out⟩
              · have s1 : 1125899906842624 < s := by omega
                clear hs2
                go_wp2
                go_ret
                exact ⟨rfl, HB6.out⟩
            | true =>
              simp only [hg, if_true] at htv hte hv he
              obtain ⟨kg, rfl, hkg⟩ := four_nat hg
              have hgi : (kg : Int) < 4 := by omega
              have hgt : ((kg : Int)).toNat = kg := by omega
              rw [hgt] at htv
              have cd := HP6.out.dest kg hkg
              subst hte hv he
              rw [← htv] at cd
              clear hg hgt htv
              by_cases s0 : s < 0
              · clear hs2
                go_wp2
                go_ret
                exact ⟨rfl, HB6.out⟩
              · have s1 : 1125899906842624 < s := by omega
                clear hs2
                go_wp2
                go_ret
                exact ⟨rfl, HB6.out⟩
        | true =>
          as_aux_lemma =>
            obtain ⟨e2, -, -⟩ := part_points hs hfe4
            have hs2 := of_decide_eq_true hs
            have s0 : ¬ s < 0 := by omega
            have s1 : ¬ (1125899906842624 : Int) < s := by omega
            have HPt : Aside (∀ W, _) := ref_part s (p.fee kr) 10000 ⟨by omega, by omega⟩ ⟨by decide, by decide⟩
            rw [e2, ← hfv] at HPt
            simp only [hs, if_true] at hv he hfe
            subst hfe
            have HSB := Lib.hid hs
            clear e2 hs hfe4 hs2 hfv
            cases hg : four g with
            | false =>
              simp only [hg, Bool.false_eq_true, if_false] at htv hte hv he
              subst htv hte hv he
              clear hg
              go_wp2_with fail
              refine Calls.mono (HPt.out _) ?_
              rintro e w7 ⟨rfl, rfl⟩
              go_wp2
              go_ret
              exact ⟨rfl, HB6.out⟩
            | true =>
              simp only [hg, if_true] at htv hte hv he
              obtain ⟨kg, rfl, hkg⟩ := four_nat hg
              have hgi : (kg : Int) < 4 := by omega
              have hgt : ((kg : Int)).toNat = kg := by omega
              rw [hgt] at htv hv
              have cd := HP6.out.dest kg hkg
              subst hte he
              rw [← htv] at cd
              have HWo : Aside (∀ W, _) := ref_worth p HRP.out s HSB.out kr kg hkr hkg
              rw [← hv] at HWo
              have hall := HP6.out.all
              simp only [Nat.zero_add] at hall
              obtain ⟨z0, z1, z2, z3, z4, z5, z6, z7, z8, z9, za, zb, zc, zd, ze, zf⟩ := hall
              clear hg hgt htv hv
              go_wp2_with fail
              refine Calls.mono (HPt.out _) ?_
              rintro e w7 ⟨rfl, rfl⟩
              go_wp2_with fail
              refine Calls.mono (HWo.out _) ?_
              rintro e w8 ⟨rfl, b8⟩
              have HB8 : Aside _ := HB6.out.trans (b8.mono HB6.out.size)
              go_wp2
              go_ret
              exact ⟨rfl, HB8.out⟩

theorem ruleWorth_contract (W : World) (args : Array Value) (h : Each Try.prog W Try.f4.params.toList args.toList) :
    Calls Try.prog 4 args W fun e W' => e = .returned (.bool true) ∧ Below W.heap.size W W' := by
  rw [Try.params4] at h
  obtain ⟨v0, r0, e0, ⟨_, o0⟩, d0, h⟩ := h.cons
  obtain ⟨v1, r1, rfl, ⟨_, o1⟩, d1, h⟩ := h.cons
  obtain ⟨v2, r2, rfl, ⟨_, o2⟩, d2, h⟩ := h.cons
  obtain ⟨v3, r3, rfl, ⟨_, o3⟩, d3, h⟩ := h.cons
  obtain rfl := h.nil
  obtain ⟨args⟩ := args
  obtain rfl : args = [v0, v1, v2, v3] := e0
  obtain ⟨x1, rfl, hx1⟩ := val_int o1 d1 Try.underlying2
  obtain ⟨x2, rfl, hx2⟩ := val_int o2 d2 Try.underlying3
  obtain ⟨x3, rfl, hx3⟩ := val_int o3 d3 Try.underlying3
  obtain ⟨p0, rfl, hf0⟩ := val_pol o0 d0
  exact ruleWorth_law p0 x1 x2 x3 W

theorem ruleWorth_lifted (os : Os) (started : os.Started) (H : Type) (enc : TypeId × Value → H) :
    ReturnsInHanded {} Try.checked os 4 .any (Rows.ruleWorthSpec.pre6 enc Try.prog Try.f4 Rows.ruleWorthRow.domain false) (Rows.ruleWorthSpec.post enc Try.prog Try.f4 false true false false) :=
  law_lifted (C := Try.checked) seat_own seat_laid (by kernel_rfl) Try.func4 rfl (tb := 4) rfl Try.underlying4
    (by
      rw [Try.params4]; intro t ht; simp at ht
      rcases ht with rfl | rfl | rfl | rfl <;> exact ⟨by kernel_rfl, of_decide_eq_true (by kernel_rfl)⟩)
    (fun H ds hl => by
      rw [Try.params4] at hl
      match ds, hl with
      | [d1, d2, d3, d4], _ => rfl)
    os started H enc
    (ChangeSpec.witness6 (enc := enc) (C := Try.checked) false ⟨#[], #[.agg #[.int .i64 0, .bool false, .bool false, .bool false, .int .i64 0, .int .i64 0, .int .i64 0, .int .i64 0, .int .i64 0, .int .i64 0, .int .i64 0, .int .i64 0, .int .i64 0, .int .i64 0, .int .i64 0, .int .i64 0], .int .i64 0, .int .i64 0, .int .i64 0], []⟩ 8 (by kernel_rfl) (by kernel_rfl) (by kernel_rfl) (by kernel_rfl))
    ruleWorth_contract

theorem ruleWorth_holds : Rows.RuleWorthSaid :=
  OpenClaim.holds_of_wide 4 Try.f4 rfl rfl rfl rfl rfl rfl rfl ⟨rfl, rfl, rfl, rfl, rfl⟩ rfl rfl rfl rfl rfl (by kernel_rfl) Try.func4 (by kernel_rfl)
    (of_decide_eq_true (by kernel_rfl)) (by unfold Func.isWrapper; first | (rw [if_pos (by decide +kernel)]; kernel_rfl) | (rw [if_neg (by decide +kernel)]; exact ⟨rfl, rfl⟩))
    (fun os started H enc _ => ruleWorth_lifted os started H enc)
#print axioms ruleWorth_holds
end Go.Proofs.Ytjlgjdmnjjfhnaa
