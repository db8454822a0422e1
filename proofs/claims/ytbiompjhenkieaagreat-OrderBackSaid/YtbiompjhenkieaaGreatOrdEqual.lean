/-
  Package order: Equal. Conditions: those of each theorem.
-/
import Derived.Test.YtbiompjhenkieaaGreatOrdAlike
import Derived.Test.YtbiompjhenkieaaGreatOrdSameP
import Derived.Test.YtbiompjhenkieaaGreatOrderDoc
namespace Go.Proofs.YtbiompjhenkieaaGreat
open Go.RowKit
set_option maxRecDepth 100000

theorem sameC_parts (C D : Cfg) : sameC C D = (sameBy sameOrd C.orders D.orders && (sameBy sameSup C.sups D.sups && sameBy samePol C.table D.table)) := by
  unfold sameC
  generalize sameBy sameOrd C.orders D.orders = a
  generalize sameBy sameSup C.sups D.sups = b
  generalize sameBy samePol C.table D.table = c
  cases a <;> cases b <;> cases c <;> rfl

set_option maxHeartbeats 4000000 in
theorem order_equal (aO aS aT bO bS bT : Option Addr) (no co ns cs nt ct mo do' ms ds mt dt : Nat) (C D : Cfg) (w : World) (hC : CfgIs w aO no aS ns aT nt C) (hD : CfgIs w bO mo bS ms bT mt D) (_hk : CfgCaps no co ns cs nt ct) (_hl : CfgCaps mo do' ms ds mt dt) :
    Calls Tryz.prog 11 #[.agg (cfgCells aO no co aS ns cs aT nt ct), .agg (cfgCells bO mo do' bS ms ds bT mt dt)] w fun e w' => e = .returned (.bool (sameC C D)) ∧ Below w.heap.size w w' := by
  have HQ := Lib.hid (sameC_parts C D)
  have b1 : Below w.heap.size w (w.alloc (.cells (cfgCells aO no co aS ns cs aT nt ct) 26)) := (Below.refl _ _).alloc (Nat.le_refl _) _
  have b2 : Below w.heap.size w ((w.alloc (.cells (cfgCells aO no co aS ns cs aT nt ct) 26)).alloc (.cells (cfgCells bO mo do' bS ms ds bT mt dt) 26)) := b1.alloc b1.size _
  have b3 : Below (w.alloc (.cells (cfgCells aO no co aS ns cs aT nt ct) 26)).heap.size (w.alloc (.cells (cfgCells aO no co aS ns cs aT nt ct) 26)) ((w.alloc (.cells (cfgCells aO no co aS ns cs aT nt ct) 26)).alloc (.cells (cfgCells bO mo do' bS ms ds bT mt dt) 26)) := upd_box _
  have hA := (arr_new w (cfgCells aO no co aS ns cs aT nt ct) 26).grown b3
  have hB := arr_new (w.alloc (.cells (cfgCells aO no co aS ns cs aT nt ct) 26)) (cfgCells bO mo do' bS ms ds bT mt dt) 26
  rw [show (w.alloc (.cells (cfgCells aO no co aS ns cs aT nt ct) 26)).heap.size = w.heap.size + 1 by simp] at hB
  have HA : Aside _ := hA
  have HB : Aside _ := hB
  have HW : Aside _ := b2
  have HC : Aside _ := hC.below b2
  have HD : Aside _ := hD.below b2
  clear b1 b2 b3 hA hB hC hD
  go_enter Tryz.func11, Tryz.ntmps11
  go_upto_region 1 with (fail)
  show Code.wp _ _ _ _ ((w.alloc (.cells (cfgCells aO no co aS ns cs aT nt ct) 26)).alloc (.cells (cfgCells bO mo do' bS ms ds bT mt dt) 26))
  generalize (w.alloc (.cells (cfgCells aO no co aS ns cs aT nt ct) 26)).alloc (.cells (cfgCells bO mo do' bS ms ds bT mt dt) 26) = w1 at *
  have HO : Aside _ := eq_orders aO bO C.orders D.orders no mo co do' w1 HC.out.ol HD.out.ol HC.out.oa HD.out.oa HC.out.om HD.out.om
  obtain ⟨y0, y1, y2⟩ := cfgAt_all HA.out
  obtain ⟨z0, z1, z2⟩ := cfgAt_all HB.out
  simp only [Nat.zero_add] at y1 y2 z1 z2
  obtain ⟨q1, e1⟩ : ∃ q, sameBy sameOrd C.orders D.orders = q := ⟨_, rfl⟩
  obtain ⟨q2, e2⟩ : ∃ q, sameBy sameSup C.sups D.sups = q := ⟨_, rfl⟩
  obtain ⟨q3, e3⟩ : ∃ q, sameBy samePol C.table D.table = q := ⟨_, rfl⟩
  rw [e1, e2, e3] at HQ
  rw [e1] at HO
  have E2 := Lib.hid e2
  have E3 := Lib.hid e3
  clear e1 e2 e3
  go_wp2_with fail
  refine (Calls.mono HO.out ?_)
  rintro e w2 ⟨rfl, b2⟩
  have HW2 : Aside (Below w.heap.size w w2) := HW.out.trans (b2.mono HW.out.size)
  have HA2 : Aside _ := HA.out.grown b2
  have HB2 : Aside _ := HB.out.grown b2
  have HC2 : Aside _ := HC.out.below b2
  have HD2 : Aside _ := HD.out.below b2
  clear y0 y1 y2 z0 z1 z2 HO HW HA HB HC HD b2
  obtain ⟨y0, y1, y2⟩ := cfgAt_all HA2.out
  obtain ⟨z0, z1, z2⟩ := cfgAt_all HB2.out
  simp only [Nat.zero_add] at y1 y2 z1 z2
  cases q1 with
  | false =>
    go_wp2
    go_ret
    exact ⟨by rw [HQ.out]; rfl, HW2.out⟩
  | true =>
  have hS := eq_sups aS bS C.sups D.sups ns ms cs ds w2 HC2.out.sl HD2.out.sl HC2.out.sa HD2.out.sa HC2.out.sm HD2.out.sm
  rw [E2.out] at hS
  have HS : Aside _ := hS
  clear hS
  go_wp2_with fail
  refine (Calls.mono HS.out ?_)
  rintro e w3 ⟨rfl, b3⟩
  have HW3 : Aside (Below w.heap.size w w3) := HW2.out.trans (b3.mono HW2.out.size)
  have HA3 : Aside _ := HA2.out.grown b3
  have HB3 : Aside _ := HB2.out.grown b3
  have HC3 : Aside _ := HC2.out.below b3
  have HD3 : Aside _ := HD2.out.below b3
  clear y0 y1 y2 z0 z1 z2 HS HW2 HA2 HB2 HC2 HD2 b3
  obtain ⟨y0, y1, y2⟩ := cfgAt_all HA3.out
  obtain ⟨z0, z1, z2⟩ := cfgAt_all HB3.out
  simp only [Nat.zero_add] at y1 y2 z1 z2
  cases q2 with
  | false =>
    go_wp2
    go_ret
    exact ⟨by rw [HQ.out]; rfl, HW3.out⟩
  | true =>
  have hT := table_same aT bT C.table D.table nt mt ct dt w3 HC3.out.tl HD3.out.tl HC3.out.ta HD3.out.ta HC3.out.tm HD3.out.tm
  rw [E3.out] at hT
  have HT : Aside _ := hT
  clear hT
  go_wp2_with fail
  refine (Calls.mono HT.out ?_)
  rintro e w4 ⟨rfl, b4⟩
  have HW4 : Aside (Below w.heap.size w w4) := HW3.out.trans (b4.mono HW3.out.size)
  clear y0 y1 y2 z0 z1 z2 HT HW3 HA3 HB3 HC3 HD3 b4
  go_wp2
  go_ret
  exact ⟨by rw [HQ.out]; simp, HW4.out⟩
end Go.Proofs.YtbiompjhenkieaaGreat
