/-
  Package order: Right. Conditions: those of each theorem.
-/
import Derived.Test.YtbiompjhenkieaaGreatOrd1
import Derived.Test.YtbiompjhenkieaaGreatTabWrong
import Derived.Test.YtbiompjhenkieaaGreatOrderDoc
namespace Go.Proofs.YtbiompjhenkieaaGreat
open Go.RowKit
set_option maxRecDepth 100000

theorem rightC_parts {C : Cfg} {no ns nt : Nat} (h1 : C.orders.length = no) (h2 : C.sups.length = ns) (h3 : C.table.length = nt) :
    rightC C = (rightT C.table && (decide ((no : Int) ≤ 20) && (C.orders.all (ordB nt) && (decide ((ns : Int) ≤ 20) && ((C.sups.all supB && freshAll C.sups) && decide (countsO C.orders + countsS C.sups ≤ 200)))))) := by
  unfold rightC
  rw [h3, show decide (C.orders.length ≤ 20) = decide ((no : Int) ≤ 20) by rw [decide_eq_decide]; omega, show decide (C.sups.length ≤ 20) = decide ((ns : Int) ≤ 20) by rw [decide_eq_decide]; omega]
  generalize rightT C.table = a
  generalize decide ((no : Int) ≤ 20) = b
  generalize decide ((ns : Int) ≤ 20) = c
  generalize C.orders.all (ordB nt) = d
  generalize C.sups.all supB = e
  generalize freshAll C.sups = f
  cases a <;> cases b <;> cases c <;> cases d <;> cases e <;> cases f <;> rfl

set_option maxHeartbeats 4000000 in
theorem order_right (aO aS aT : Option Addr) (no co ns cs nt ct : Nat) (C : Cfg) (w : World) (hC : CfgIs w aO no aS ns aT nt C) (_hf : CfgFit C) (_hk : CfgCaps no co ns cs nt ct) :
    Calls Tryz.prog 14 #[.agg (cfgCells aO no co aS ns cs aT nt ct)] w fun e w' => e = .returned (.bool (rightC C)) ∧ Below w.heap.size w w' := by
  have HQ := Lib.hid (rightC_parts hC.ol hC.sl hC.tl)
  have hb1 : Below w.heap.size w (w.alloc (.cells (cfgCells aO no co aS ns cs aT nt ct) 26)) := (Below.refl _ _).alloc (Nat.le_refl _) _
  have HB1 : Aside _ := hb1
  have HA1 : Aside _ := arr_new w (cfgCells aO no co aS ns cs aT nt ct) 26
  have HC1 : Aside _ := hC.below hb1
  clear hb1 hC
  go_enter Tryz.func14, Tryz.ntmps14
  go_upto_region 1 with (fail)
  show Code.wp _ _ _ _ (w.alloc (.cells (cfgCells aO no co aS ns cs aT nt ct) 26))
  generalize w.alloc (.cells (cfgCells aO no co aS ns cs aT nt ct) 26) = w1 at *
  obtain ⟨y0, y1, y2⟩ := cfgAt_all HA1.out
  simp only [Nat.zero_add] at y1 y2
  have hnm := HC1.out.om
  have hsm := HC1.out.sm
  unfold maxLen at hnm hsm
  have HT : Aside _ := table_right aT C.table nt ct w1 HC1.out.tl HC1.out.ta HC1.out.tm
  have HO : Aside (∀ W, Below w1.heap.size w1 W → Calls Tryz.prog 33 #[.slice aO no co, .slice aT nt ct] W fun e w' => e = .returned (.bool (C.orders.all (ordB nt))) ∧ Below W.heap.size W w') := fun W h =>
    ord_areRight aO aT C.orders C.table no co nt ct W HC1.out.om HC1.out.ol (HC1.out.oa.below h) HC1.out.tl (HC1.out.ta.below h) HC1.out.tm
  have HS : Aside (∀ W, Below w1.heap.size w1 W → Calls Tryz.prog 34 #[.slice aS ns cs] W fun e w' => e = .returned (.bool (C.sups.all supB && freshAll C.sups)) ∧ Below W.heap.size W w') := fun W h =>
    ord_sups aS C.sups ns cs W HC1.out.sm HC1.out.sl (HC1.out.sa.below h)
  have HM : Aside (∀ W, Below w1.heap.size w1 W → C.orders.all (ordB nt) = true → (C.sups.all supB && freshAll C.sups) = true → (no : Int) ≤ 20 → (ns : Int) ≤ 20 → Calls Tryz.prog 35 #[.agg (cfgCells aO no co aS ns cs aT nt ct)] W fun e w' => e = .returned (.int .i64 (countsO C.orders + countsS C.sups)) ∧ Below W.heap.size W w') := fun W h g1 g2 g3 g4 =>
    ord_howMany aO aS aT no co ns cs nt ct C W (HC1.out.below h) g1 (by rw [Bool.and_eq_true] at g2; exact g2.1) (by omega) (by omega)
  generalize rightT C.table = q0 at *
  generalize countsO C.orders + countsS C.sups = M at *
  generalize C.orders.all (ordB nt) = q1 at *
  generalize (C.sups.all supB && freshAll C.sups) = q2 at *
  clear HC1
  go_wp2_with fail
  refine (Calls.mono HT.out ?_)
  rintro e w2 ⟨rfl, b2⟩
  have HB2 : Aside (Below w.heap.size w w2) := HB1.out.trans (b2.mono HB1.out.size)
  have HW2 : Aside (Below w1.heap.size w1 w2) := b2
  have HA2 : Aside _ := HA1.out.grown b2
  clear HT y0 y1 y2 b2 HB1
  obtain ⟨y0, y1, y2⟩ := cfgAt_all HA2.out
  simp only [Nat.zero_add] at y1 y2
  cases q0 with
  | false =>
    go_wp2
    go_ret
    exact ⟨by rw [HQ.out]; rfl, HB2.out⟩
  | true =>
  by_cases h20 : (no : Int) ≤ 20
  · have e20 : decide ((no : Int) ≤ 20) = true := decide_eq_true h20
    rw [e20] at HQ
    have HO2 : Aside _ := HO.out w2 HW2.out
    go_wp2_with fail
    refine (Calls.mono HO2.out ?_)
    rintro e w3 ⟨rfl, b3⟩
    have HB3 : Aside (Below w.heap.size w w3) := HB2.out.trans (b3.mono HB2.out.size)
    have HW3 : Aside (Below w1.heap.size w1 w3) := HW2.out.trans (b3.mono HW2.out.size)
    have HA3 : Aside _ := HA2.out.grown b3
    clear HO HO2 y0 y1 y2 b3 HB2 HW2 HA2 e20
    obtain ⟨y0, y1, y2⟩ := cfgAt_all HA3.out
    simp only [Nat.zero_add] at y1 y2
    cases q1 with
    | false =>
      go_wp2
      go_ret
      exact ⟨by rw [HQ.out]; rfl, HB3.out⟩
    | true =>
    by_cases s20 : (ns : Int) ≤ 20
    · have e20 : decide ((ns : Int) ≤ 20) = true := decide_eq_true s20
      rw [e20] at HQ
      have HO2 : Aside _ := HS.out w3 HW3.out
      clear e20
      go_wp2_with fail
      refine (Calls.mono HO2.out ?_)
      rintro e w4 ⟨rfl, b4⟩
      have HB4 : Aside (Below w.heap.size w w4) := HB3.out.trans (b4.mono HB3.out.size)
      have HW4 : Aside (Below w1.heap.size w1 w4) := HW3.out.trans (b4.mono HW3.out.size)
      have HA4 : Aside _ := HA3.out.grown b4
      clear HS HO2 y0 y1 y2 b4 HB3 HW3 HA3
      obtain ⟨y0, y1, y2⟩ := cfgAt_all HA4.out
      simp only [Nat.zero_add] at y1 y2
      cases q2 with
      | false =>
        go_wp2
        go_ret
        exact ⟨by rw [HQ.out]; rfl, HB4.out⟩
      | true =>
      have HM2 : Aside _ := HM.out w4 HW4.out (by decide) (by decide) h20 s20
      clear HM
      go_wp2_with fail
      refine (Calls.mono HM2.out ?_)
      rintro e w5 ⟨rfl, b5⟩
      have HB5 : Aside (Below w.heap.size w w5) := HB4.out.trans (b5.mono HB4.out.size)
      clear HM2 y0 y1 y2 b5
      go_wp2
      go_ret
      exact ⟨by rw [HQ.out]; simp, HB5.out⟩
    · have e20 : decide ((ns : Int) ≤ 20) = false := decide_eq_false s20
      rw [e20] at HQ
      clear e20
      go_wp2
      go_ret
      exact ⟨by rw [HQ.out]; rfl, HB3.out⟩
  · have e20 : decide ((no : Int) ≤ 20) = false := decide_eq_false h20
    rw [e20] at HQ
    clear e20
    go_wp2
    go_ret
    exact ⟨by rw [HQ.out]; rfl, HB2.out⟩
end Go.Proofs.YtbiompjhenkieaaGreat
