/-
  Package order: putOrder. Conditions: those of each theorem.
-/
import Derived.Test.YtbiompjhenkieaaGreatOrdOut
import Derived.Test.YtbiompjhenkieaaGreatOrderDoc
namespace Go.Proofs.YtbiompjhenkieaaGreat
open Go.RowKit
set_option maxRecDepth 100000

set_option maxHeartbeats 4000000 in
theorem ord_putOrder {w0 W : World} {p : Nat} {bx : Nat → Prop} {ys : List UInt8} (h : OB w0 p bx ys W) (x : Ord) (a : Option Addr) (n c : Nat) (hx : OrdSmall x) (hl : x.lines.length = n) (hp : LnsAt w0 a x.lines) (hb : ys.length ≤ 900000) :
    Calls Tryz.prog 39 #[.pointer (some ⟨p, 0, none⟩), .agg (ordCells x.day a n c x.disc x.tax x.ship)] W fun e W' => e = .returned (.tuple #[]) ∧ OB w0 p bx (ys ++ ordBytes x) W' ∧ Upd (fun k => ¬ bx k) W W' := by
  have HX := Lib.hid hx
  have HL := Lib.hid hl
  have hn8 : n ≤ 8 := by have := hx.2.2.2.2.1; omega
  have H1 : Aside _ := h.alloc (.cells (ordCells x.day a n c x.disc x.tax x.ship) 45)
  have HA1 : Aside _ := arr_new W (ordCells x.day a n c x.disc x.tax x.ship) 45
  have HU1 : Aside (Upd (fun k => ¬ bx k) W (W.alloc (.cells (ordCells x.day a n c x.disc x.tax x.ship) 45))) := keep_below (upd_box _)
  clear hx h hl
  go_enter Tryz.func39, Tryz.ntmps39
  go_upto_region 1 with (fail)
  show Code.wp _ _ _ _ (W.alloc (.cells (ordCells x.day a n c x.disc x.tax x.ship) 45))
  generalize W.alloc (.cells (ordCells x.day a n c x.disc x.tax x.ship) 45) = w1 at *
  generalize hg : W.heap.size = g at *
  clear hg
  obtain ⟨y0, y1, y2, y3, y4⟩ := ordAt_all HA1.out
  simp only [Nat.zero_add] at y1 y2 y3 y4
  have HC : Aside _ := H1.out.u32 x.day HX.out.1.1 (by have := HX.out.1.2; omega) (by omega)
  clear H1
  go_wp2_with fail
  refine (Calls.mono HC.out ?_)
  rintro e w2 ⟨rfl, h2, u2⟩
  have H2 : Aside _ := h2
  have HA2 : Aside _ := HA1.out.keep u2 (.inr rfl)
  have HU2 : Aside _ := keep_trans HU1.out (keep_fewer u2 (fun _ => Or.inl))
  clear HC y0 y1 y2 y3 y4 h2 u2 HA1 HU1
  obtain ⟨y0, y1, y2, y3, y4⟩ := ordAt_all HA2.out
  simp only [Nat.zero_add] at y1 y2 y3 y4
  have HC : Aside _ := H2.out.i64 x.disc HX.out.2.1.1 HX.out.2.1.2 (by rw [List.length_append, le_length]; omega)
  clear H2
  go_wp2_with fail
  refine (Calls.mono HC.out ?_)
  rintro e w3 ⟨rfl, h2, u2⟩
  have H3 : Aside _ := h2
  have HA3 : Aside _ := HA2.out.keep u2 (.inr rfl)
  have HU3 : Aside _ := keep_trans HU2.out (keep_fewer u2 (fun _ => Or.inl))
  clear HC y0 y1 y2 y3 y4 h2 u2 HA2 HU2
  obtain ⟨y0, y1, y2, y3, y4⟩ := ordAt_all HA3.out
  simp only [Nat.zero_add] at y1 y2 y3 y4
  have HC : Aside _ := H3.out.i64 x.tax HX.out.2.2.1.1 HX.out.2.2.1.2 (by simp only [List.length_append, le_length]; omega)
  clear H3
  go_wp2_with fail
  refine (Calls.mono HC.out ?_)
  rintro e w4 ⟨rfl, h2, u2⟩
  have H4 : Aside _ := h2
  have HA4 : Aside _ := HA3.out.keep u2 (.inr rfl)
  have HU4 : Aside _ := keep_trans HU3.out (keep_fewer u2 (fun _ => Or.inl))
  clear HC y0 y1 y2 y3 y4 h2 u2 HA3 HU3
  obtain ⟨y0, y1, y2, y3, y4⟩ := ordAt_all HA4.out
  simp only [Nat.zero_add] at y1 y2 y3 y4
  have HC : Aside _ := H4.out.i64 x.ship HX.out.2.2.2.1.1 HX.out.2.2.2.1.2 (by simp only [List.length_append, le_length]; omega)
  clear H4
  go_wp2_with fail
  refine (Calls.mono HC.out ?_)
  rintro e w5 ⟨rfl, h2, u2⟩
  have H5 : Aside _ := h2
  have HA5 : Aside _ := HA4.out.keep u2 (.inr rfl)
  have HU5 : Aside _ := keep_trans HU4.out (keep_fewer u2 (fun _ => Or.inl))
  clear HC y0 y1 y2 y3 y4 h2 u2 HA4 HU4
  obtain ⟨y0, y1, y2, y3, y4⟩ := ordAt_all HA5.out
  simp only [Nat.zero_add] at y1 y2 y3 y4
  have HC : Aside _ := H5.out.u8 (n : Int) (by omega) (by omega) (by simp only [List.length_append, le_length]; omega)
  clear H5
  go_wp2_with fail
  refine (Calls.mono HC.out ?_)
  rintro e w6 ⟨rfl, h2, u2⟩
  obtain ⟨zs, hzs⟩ : ∃ zs, zs = ys ++ le x.day 4 ++ le x.disc 8 ++ le x.tax 8 ++ le x.ship 8 ++ [u8of (n : Int)] := ⟨_, rfl⟩
  rw [← hzs] at h2
  have hzl : zs.length ≤ 900100 := by rw [hzs]; simp only [List.length_append, le_length, List.length_cons, List.length_nil]; omega
  have HZ := Lib.hid hzs
  have H6 : Aside _ := h2
  have HA6 : Aside _ := HA5.out.keep u2 (.inr rfl)
  have HU6 : Aside _ := keep_trans HU5.out (keep_fewer u2 (fun _ => Or.inl))
  clear HC y0 y1 y2 y3 y4 h2 u2 HA5 HU5 hzs
  obtain ⟨y0, y1, y2, y3, y4⟩ := ordAt_all HA6.out
  simp only [Nat.zero_add] at y1 y2 y3 y4
  go_wp2
  clear y0 y1 y2 y3 y4
  go_loopw [30] (fun i wr => ∃ k : Nat, k ≤ n ∧ i = .int .i64 k ∧ Aside (OB w0 p (fun k => bx k ∨ k = g) (zs ++ lnsBytes (x.lines.take k)) wr) ∧ Aside (Upd (fun k => ¬ bx k) W wr)) (fun i _ => n - (intOf i).toNat)
  case atStart => exact ⟨0, Nat.zero_le _, rfl, by show OB _ _ _ _ _; rw [show lnsBytes (x.lines.take 0) = [] from rfl, List.append_nil]; exact H6.out, HU6.out⟩
  case round =>
    clear H6 HU6 HA6
    obtain ⟨k, hk, rfl, HO, HU⟩ := hrel
    by_cases hlt : k < n
    · have hkn : (k : Int) < (n : Int) := by omega
      rcases hp with hnil | ⟨b, off, rfl, hb2, hc⟩
      · have := HL.out; rw [hnil] at this; simp at this; omega
      have hlk : k < x.lines.length := by rw [HL.out]; exact hlt
      obtain ⟨z0, z1, z2, z3⟩ := LnAt.all ((hc k hlk).below HO.out.blw hb2)
      have HS := Lib.hid (HX.out.2.2.2.2.2 _ (List.getElem_mem hlk))
      have HT : Hid (zs ++ lnsBytes (x.lines.take k) ++ lnBytes x.lines[k] = zs ++ lnsBytes (x.lines.take (k + 1))) := by show _ = _; rw [lnsBytes_take x.lines k hlk, List.append_assoc]
      have hlen : (zs ++ lnsBytes (x.lines.take k)).length ≤ 900300 := by rw [List.length_append, lnsBytes_length, List.length_take]; omega
      clear hc
      generalize x.lines[k] = l at *
      generalize zs ++ lnsBytes (x.lines.take k) = vs at *
      have H1 : Aside _ := HO.out.alloc (.cells l.arr 54)
      have HA1 : Aside (ArrAt (wr.alloc (.cells l.arr 54)) wr.heap.size 0 l.arr) := arr_new wr l.arr _
      have HU1 : Aside (Upd (fun k => ¬ bx k) W (wr.alloc (.cells l.arr 54))) := keep_trans HU.out (keep_below (upd_box _))
      go_upto_region 9 with (fail)
      show Code.wp _ _ _ _ (wr.alloc (.cells l.arr 54))
      clear z0 z1 z2 z3 HO HU
      generalize wr.alloc (.cells l.arr 54) = w1 at *
      generalize hgl : wr.heap.size = gl at *
      clear hgl
      obtain ⟨y0, y1, y2, y3⟩ := LnAt.all HA1.out
      simp only [Nat.zero_add] at y1 y2 y3
      have HC : Aside _ := H1.out.u16 l.sku HS.out.1.1 HS.out.1.2 (by omega)
      clear H1
      go_wp2_with fail
      refine (Calls.mono HC.out ?_)
      rintro e w2 ⟨rfl, h2, u2⟩
      have H2 : Aside _ := h2
      have HA2 : Aside _ := HA1.out.keep u2 (.inr rfl)
      have HU2 : Aside _ := keep_trans HU1.out (keep_fewer u2 (fun _ hk => Or.inl (Or.inl hk)))
      clear HC y0 y1 y2 y3 h2 u2 HA1 HU1
      obtain ⟨y0, y1, y2, y3⟩ := LnAt.all HA2.out
      simp only [Nat.zero_add] at y1 y2 y3
      have HC : Aside _ := H2.out.u8 l.cat HS.out.2.1.1 HS.out.2.1.2 (by simp only [List.length_append, le_length]; omega)
      clear H2
      go_wp2_with fail
      refine (Calls.mono HC.out ?_)
      rintro e w3 ⟨rfl, h2, u2⟩
      have H3 : Aside _ := h2
      have HA3 : Aside _ := HA2.out.keep u2 (.inr rfl)
      have HU3 : Aside _ := keep_trans HU2.out (keep_fewer u2 (fun _ hk => Or.inl (Or.inl hk)))
      clear HC y0 y1 y2 y3 h2 u2 HA2 HU2
      obtain ⟨y0, y1, y2, y3⟩ := LnAt.all HA3.out
      simp only [Nat.zero_add] at y1 y2 y3
      have HC : Aside _ := H3.out.i64 l.price HS.out.2.2.1.1 HS.out.2.2.1.2 (by simp only [List.length_append, le_length, List.length_cons, List.length_nil]; omega)
      clear H3
      go_wp2_with fail
      refine (Calls.mono HC.out ?_)
      rintro e w4 ⟨rfl, h2, u2⟩
      have H4 : Aside _ := h2
      have HA4 : Aside _ := HA3.out.keep u2 (.inr rfl)
      have HU4 : Aside _ := keep_trans HU3.out (keep_fewer u2 (fun _ hk => Or.inl (Or.inl hk)))
      clear HC y0 y1 y2 y3 h2 u2 HA3 HU3
      obtain ⟨y0, y1, y2, y3⟩ := LnAt.all HA4.out
      simp only [Nat.zero_add] at y1 y2 y3
      have HC : Aside _ := H4.out.u8 l.count HS.out.2.2.2.1 HS.out.2.2.2.2 (by simp only [List.length_append, le_length, List.length_cons, List.length_nil]; omega)
      clear H4
      go_wp2_with fail
      refine (Calls.mono HC.out ?_)
      rintro e w5 ⟨rfl, h2, u2⟩
      have e5 : vs ++ le l.sku 2 ++ [u8of l.cat] ++ le l.price 8 ++ [u8of l.count] = zs ++ lnsBytes (x.lines.take (k + 1)) := by
        rw [← HT.out, lnBytes]
        simp only [List.append_assoc]
      rw [e5] at h2
      have H5 : Aside (OB w0 p (fun k => bx k ∨ k = g) (zs ++ lnsBytes (x.lines.take (k + 1))) w5) := h2.fewer (fun _ hk => Or.inl hk)
      have HU5 : Aside _ := keep_trans HU4.out (keep_fewer u2 (fun _ hk => Or.inl (Or.inl hk)))
      clear HC y0 y1 y2 y3 h2 u2 HA4 HU4 e5
      go_wp2
      go_roundw
      case rel => exact ⟨k + 1, by omega, by go_num, H5.out, HU5.out⟩
      case measure => simp [intOf]; omega
    · obtain rfl : k = n := by omega
      have hfin := HO.out
      rw [List.take_of_length_le (by rw [HL.out]; exact Nat.le_refl _)] at hfin
      have ef : zs ++ lnsBytes x.lines = ys ++ ordBytes x := by
        rw [HZ.out, ordBytes, HL.out]
        simp only [List.append_assoc]
      rw [ef] at hfin
      have HF : Aside (OB w0 p bx (ys ++ ordBytes x) wr) := hfin.fewer (fun _ hk => Or.inl hk)
      clear hfin ef HO
      go_wp2
      go_end0
      exact ⟨rfl, HF.out, HU.out⟩
end Go.Proofs.YtbiompjhenkieaaGreat
