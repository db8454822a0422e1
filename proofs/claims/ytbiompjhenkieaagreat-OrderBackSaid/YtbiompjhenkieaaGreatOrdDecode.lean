/-
  Package order: Decode. Conditions: those of each theorem.
-/
import Derived.Test.YtbiompjhenkieaaGreatOrdRead
import Derived.Test.YtbiompjhenkieaaGreatOrdEnc
namespace Go.Proofs.YtbiompjhenkieaaGreat
open Go.RowKit
set_option maxRecDepth 100000

theorem cfgNone_is : (cfgCells none 0 0 none 0 0 none 0 0) = #[.slice none 0 0, .slice none 0 0, .slice none 0 0] := rfl

set_option maxHeartbeats 4000000 in
theorem order_decode (a : Option Addr) (n c : Nat) (bs : List UInt8) (w : World) (hn : bs.length = n) (_hc : n ≤ c) (_hm : c ≤ maxLen) (hnc : a = none → c = 0) (h5 : n ≤ 10000) (hb : IsBytes w a bs) :
    Calls Tryz.prog 9 #[.slice a n c] w fun e w' => (((∀ C, rightC C = true → cfgBytes C ≠ bs) ∧ e = .returned (.tuple #[.agg (cfgCells none 0 0 none 0 0 none 0 0), .int .i64 3])) ∨
      ∃ bO mo do' bS ms ds bT mt dt D, e = .returned (.tuple #[.agg (cfgCells bO mo do' bS ms ds bT mt dt), .int .i64 0]) ∧ CfgIs w' bO mo bS ms bT mt D ∧ CfgFit D ∧ CfgCaps mo do' ms ds mt dt ∧ rightC D = true ∧ cfgBytes D = bs) ∧ Below w.heap.size w w' := by
  have HN := Lib.hid hn
  have HBS : Aside (IsBytes w a bs) := hb
  have b0 : Below w.heap.size w (w.alloc (.cells #[.slice none 0 0, .slice none 0 0, .slice none 0 0] 26)) := (Below.refl _ _).alloc (Nat.le_refl _) _
  have HB0 : Aside _ := b0
  have Z0 : Aside ((w.alloc (.cells #[.slice none 0 0, .slice none 0 0, .slice none 0 0] 26)).heap[w.heap.size]? = some (.cells #[.slice none 0 0, .slice none 0 0, .slice none 0 0] 26 (0, 0))) := heap_alloc_new _ _
  have L0 : Hid (w.heap.size < (w.alloc (.cells #[.slice none 0 0, .slice none 0 0, .slice none 0 0] 26)).heap.size) := by show _ < _; simp
  have HNI : Aside _ := in_new a bs n c (w.alloc (.cells #[.slice none 0 0, .slice none 0 0, .slice none 0 0] 26)) hn (hb.below b0) hnc (by omega)
  clear hb b0 hn hnc
  go_enter Tryz.func9, Tryz.ntmps9
  go_upto_region 1 with (fail)
  show Code.wp _ _ _ _ (w.alloc (.cells #[.slice none 0 0, .slice none 0 0, .slice none 0 0] 26))
  generalize w.alloc (.cells #[.slice none 0 0, .slice none 0 0, .slice none 0 0] 26) = w0 at *
  go_wp2_with fail
  refine Calls.mono HNI.out ?_
  rintro e w1 ⟨p, S, rfl, i1, b1, s1⟩
  have HRD : Aside _ := ord_read i1 (by rw [HN.out]; omega)
  have HP : Hid (w0.heap.size ≤ p) := s1 p i1.own
  have HB1 : Aside (Below w.heap.size w w1) := HB0.out.trans (b1.mono HB0.out.size)
  have Z1 : Aside _ := (b1.block w.heap.size L0.out).trans Z0.out
  have L1 : Hid (w.heap.size < w1.heap.size) := Nat.lt_of_lt_of_le L0.out b1.size
  clear HNI i1 b1 s1 HB0 Z0
  go_wp2_with fail
  refine Calls.mono HRD.out ?_
  rintro e w2 ⟨aO, no, aS, ns, aT, nt, ct, D, rfl, hD, hfit, hcaps, u2, hlike⟩
  have HB2 : Aside (Below w.heap.size w w2) := HB1.out.trans (upd_below u2 HB1.out.size (fun k e => by have := HP.out; have := L0.out; have e' : k = p := e; omega))
  have Z2 : Aside _ := row_upd Z1.out u2 (by have := HP.out; have := L0.out; omega)
  have L2 : Hid (w.heap.size < w2.heap.size) := Nat.lt_of_lt_of_le L1.out u2.size
  have HD2 : Aside (∀ W, Upd (fun k => k < w1.heap.size) w2 W → CfgIs W aO no aS ns aT nt D) := hD
  have HF : Aside (CfgFit D) := hfit
  have HK : Hid (CfgCaps no no ns ns nt ct) := hcaps
  have HLK : Hid (∀ C, rightC C = true → bs = cfgBytes C → CfgLike D C) := hlike
  have b3 : Below w2.heap.size w2 (w2.alloc (.cells (cfgCells aO no no aS ns ns aT nt ct) 26)) := upd_box _
  have HU3 : Aside (Upd (fun k => k < w1.heap.size) w2 (w2.alloc (.cells (cfgCells aO no no aS ns ns aT nt ct) 26))) := below_upd _ b3
  have HB3 : Aside (Below w.heap.size w (w2.alloc (.cells (cfgCells aO no no aS ns ns aT nt ct) 26))) := HB2.out.alloc HB2.out.size _
  have HA3 : Aside (ArrAt (w2.alloc (.cells (cfgCells aO no no aS ns ns aT nt ct) 26)) w2.heap.size 0 (cfgCells aO no no aS ns ns aT nt ct)) := arr_new w2 _ _
  have Z3 : Aside _ := (b3.block w.heap.size L2.out).trans Z2.out
  have HEN : Aside _ := order_encode aO aS aT no no ns ns nt ct D (w2.alloc (.cells (cfgCells aO no no aS ns ns aT nt ct) 26)) (hD _ (below_upd _ b3)) hfit hcaps
  have L3 : Hid (w.heap.size < (w2.alloc (.cells (cfgCells aO no no aS ns ns aT nt ct) 26)).heap.size) := Nat.lt_of_lt_of_le L2.out b3.size
  clear HRD hD hfit hcaps u2 hlike b3 HB1 Z1 HB2 Z2 HP L0
  dsimp only [cfgCells]
  go_upto_region 2 with (fail)
  show Code.wp _ _ _ _ (w2.alloc (.cells (cfgCells aO no no aS ns ns aT nt ct) 26))
  generalize w2.alloc (.cells (cfgCells aO no no aS ns ns aT nt ct) 26) = w3 at *
  obtain ⟨g4, hg4⟩ : ∃ g4, g4 = w2.heap.size := ⟨_, rfl⟩
  have HG4 : Hid (w.heap.size < g4) := by rw [hg4]; exact L2.out
  rw [← hg4] at HA3 ⊢
  clear hg4
  obtain ⟨y0, y1, y2⟩ := cfgAt_all HA3.out
  simp only [Nat.zero_add] at y1 y2
  go_wp2_with fail
  refine Calls.mono HEN.out ?_
  rintro e w4 ⟨⟨a4, n4, c4, rfl, h41, h42, h43, h44, h45⟩, b4⟩
  have HB4 : Aside (Below w.heap.size w w4) := HB3.out.trans (b4.mono HB3.out.size)
  have HU4 : Aside (Upd (fun k => k < w1.heap.size) w2 w4) := HU3.out.trans (below_upd (fun _ => False) b4) (fun _ _ x => x.elim)
  have HA4 : Aside _ := HA3.out.grown b4
  have Z4 := (b4.block w.heap.size L3.out).trans Z3.out
  obtain ⟨g0, hg0⟩ : ∃ g0, g0 = w.heap.size := ⟨_, rfl⟩
  rw [← hg0] at Z4 ⊢
  have HG0 := Lib.hid hg0
  have L1' : Hid (g0 < w1.heap.size) := by show _ < _; rw [hg0]; exact L1.out
  clear hg0
  have HZ4 : Aside _ := Z4
  have z0 : w4.cell? ⟨g0, 0, none⟩ = some (.slice none 0 0) := by rw [cell_of_row w4 g0 0 _ _ _ Z4]; rfl
  have z1 : w4.cell? ⟨g0, 1, none⟩ = some (.slice none 0 0) := by rw [cell_of_row w4 g0 1 _ _ _ Z4]; rfl
  have z2 : w4.cell? ⟨g0, 2, none⟩ = some (.slice none 0 0) := by rw [cell_of_row w4 g0 2 _ _ _ Z4]; rfl
  have zf : ∀ j, w4.frozen? ⟨g0, j, none⟩ = false := fun j => by simp [World.frozen?, Z4]
  clear HEN y0 y1 y2 b4 HA3 HB3 HU3 Z3 Z4
  cases hr : rightC D with
  | false =>
    have HNO : Hid (∀ C, rightC C = true → cfgBytes C ≠ bs) := fun C hC e => by
      have := (HLK.out C hC e.symm).right
      rw [hr, hC] at this
      cases this
    have e1 : errC D = 1 := by unfold errC; rw [hr]; rfl
    rw [e1]
    have hat : (((w4.setCell ⟨g0, 0, none⟩ (.slice none 0 0)).setCell ⟨g0, 1, none⟩ (.slice none 0 0)).setCell ⟨g0, 2, none⟩ (.slice none 0 0)).heap[g0]? = some (.cells (cfgCells none 0 0 none 0 0 none 0 0) 26 (0, 0)) := by
      have q0 := setCell_heap_at (o := 0) (u := .slice none 0 0) HZ4.out
      have q1 := setCell_heap_at (o := 1) (u := .slice none 0 0) q0
      have q2 := setCell_heap_at (o := 2) (u := .slice none 0 0) q1
      unfold cfgCells
      simpa using q2
    have HAT := Lib.hid hat
    have HBF : Aside (Below w.heap.size w (((w4.setCell ⟨g0, 0, none⟩ (.slice none 0 0)).setCell ⟨g0, 1, none⟩ (.slice none 0 0)).setCell ⟨g0, 2, none⟩ (.slice none 0 0))) := ((HB4.out.setCell (by show w.heap.size ≤ g0; have := HG0.out; omega) _).setCell (by show w.heap.size ≤ g0; have := HG0.out; omega) _).setCell (by show w.heap.size ≤ g0; have := HG0.out; omega) _
    clear hat e1 h41 h42 h43 h44 h45 hr HZ4
    go_wp2
    refine bodyPost_ret (results_row_tmp rfl _ _ g0 26 (cfgCells none 0 0 none 0 0 none 0 0) (0, 0) _ rfl HAT.out Tryz.underlying26 rfl info_cfgr) rfl ?_
    exact ⟨.inl ⟨HNO.out, rfl⟩, HBF.out⟩
  | true =>
    have HR := Lib.hid hr
    rw [hr, if_pos rfl] at h41 h45
    have e0 : errC D = 0 := by unfold errC; rw [hr]; rfl
    rw [e0]
    have HBE : Aside _ := bytes_equal a4 a n4 n c4 c (cfgBytes D) bs w4 h41 HN.out h45 (HBS.out.below HB4.out)
    clear hr e0 h41 h42 h43 h44 h45
    by_cases hyx : cfgBytes D = bs
    · have HB2 := HBE.out
      rw [decide_eq_true hyx] at HB2
      have HB3 : Aside _ := HB2
      have HYX := Lib.hid hyx
      obtain ⟨x0, x1, x2⟩ := cfgAt_all HA4.out
      simp only [Nat.zero_add] at x1 x2
      have hg40 : g4 ≠ g0 := by have := HG4.out; have := HG0.out; omega
      have hat : (((w4.setCell ⟨g0, 0, none⟩ (.slice aO no no)).setCell ⟨g0, 1, none⟩ (.slice aS ns ns)).setCell ⟨g0, 2, none⟩ (.slice aT nt ct)).heap[g0]? = some (.cells (cfgCells aO no no aS ns ns aT nt ct) 26 (0, 0)) := by
        have q0 := setCell_heap_at (o := 0) (u := .slice aO no no) HZ4.out
        have q1 := setCell_heap_at (o := 1) (u := .slice aS ns ns) q0
        have q2 := setCell_heap_at (o := 2) (u := .slice aT nt ct) q1
        unfold cfgCells
        simpa using q2
      have HAT := Lib.hid hat
      have HBF : Aside (Below w.heap.size w (((w4.setCell ⟨g0, 0, none⟩ (.slice aO no no)).setCell ⟨g0, 1, none⟩ (.slice aS ns ns)).setCell ⟨g0, 2, none⟩ (.slice aT nt ct))) := ((HB4.out.setCell (by show w.heap.size ≤ g0; have := HG0.out; omega) _).setCell (by show w.heap.size ≤ g0; have := HG0.out; omega) _).setCell (by show w.heap.size ≤ g0; have := HG0.out; omega) _
      have hsu : Upd (fun k => k = g0) w4 (((w4.setCell ⟨g0, 0, none⟩ (.slice aO no no)).setCell ⟨g0, 1, none⟩ (.slice aS ns ns)).setCell ⟨g0, 2, none⟩ (.slice aT nt ct)) := upd_gset (upd_gset (upd_gset (Upd.refl _ _)))
      have HCF : Aside (CfgIs (((w4.setCell ⟨g0, 0, none⟩ (.slice aO no no)).setCell ⟨g0, 1, none⟩ (.slice aS ns ns)).setCell ⟨g0, 2, none⟩ (.slice aT nt ct)) aO no aS ns aT nt D) := HD2.out _ (HU4.out.trans hsu (fun k _ e => by have := L1'.out; have e' : k = g0 := e; show k < _; omega))
      clear hat hsu HB2 HBE hyx HZ4 HD2 HU4 HA4 HB4
      go_wp2_with fail
      refine Calls.mono HB3.out ?_
      rintro e w5 ⟨rfl, rfl⟩
      clear HB3
      go_wp2
      refine bodyPost_ret (results_row_tmp rfl _ _ g0 26 (cfgCells aO no no aS ns ns aT nt ct) (0, 0) _ rfl HAT.out Tryz.underlying26 rfl info_cfgr) rfl ?_
      exact ⟨.inr ⟨_, _, _, _, _, _, _, _, _, D, rfl, HCF.out, HF.out, HK.out, HR.out, HYX.out⟩, HBF.out⟩
    · have HB2 := HBE.out
      rw [decide_eq_false hyx] at HB2
      have HB3 : Aside _ := HB2
      have HNO : Hid (∀ C, rightC C = true → cfgBytes C ≠ bs) := fun C hC e => hyx ((HLK.out C hC e.symm).bytes.trans e)
      have hat : (((w4.setCell ⟨g0, 0, none⟩ (.slice none 0 0)).setCell ⟨g0, 1, none⟩ (.slice none 0 0)).setCell ⟨g0, 2, none⟩ (.slice none 0 0)).heap[g0]? = some (.cells (cfgCells none 0 0 none 0 0 none 0 0) 26 (0, 0)) := by
        have q0 := setCell_heap_at (o := 0) (u := .slice none 0 0) HZ4.out
        have q1 := setCell_heap_at (o := 1) (u := .slice none 0 0) q0
        have q2 := setCell_heap_at (o := 2) (u := .slice none 0 0) q1
        unfold cfgCells
        simpa using q2
      have HAT := Lib.hid hat
      have HBF : Aside (Below w.heap.size w (((w4.setCell ⟨g0, 0, none⟩ (.slice none 0 0)).setCell ⟨g0, 1, none⟩ (.slice none 0 0)).setCell ⟨g0, 2, none⟩ (.slice none 0 0))) := ((HB4.out.setCell (by show w.heap.size ≤ g0; have := HG0.out; omega) _).setCell (by show w.heap.size ≤ g0; have := HG0.out; omega) _).setCell (by show w.heap.size ≤ g0; have := HG0.out; omega) _
      clear hat HB2 HBE hyx HZ4 HD2 HU4 HA4 HB4
      go_wp2_with fail
      refine Calls.mono HB3.out ?_
      rintro e w5 ⟨rfl, rfl⟩
      clear HB3
      go_wp2
      refine bodyPost_ret (results_row_tmp rfl _ _ g0 26 (cfgCells none 0 0 none 0 0 none 0 0) (0, 0) _ rfl HAT.out Tryz.underlying26 rfl info_cfgr) rfl ?_
      exact ⟨.inl ⟨HNO.out, rfl⟩, HBF.out⟩
end Go.Proofs.YtbiompjhenkieaaGreat
