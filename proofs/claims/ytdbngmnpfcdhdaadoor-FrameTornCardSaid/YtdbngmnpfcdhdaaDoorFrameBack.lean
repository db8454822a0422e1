/-
  FrameBack: frames one behind the other are told as they were, whatever part of another one stands behind them; who wants fewer gets fewer; tied to the program's text. No conditions: every input.
-/
import Derived.Test.YtdbngmnpfcdhdaaDoorTells
import Derived.Test.YtdbngmnpfcdhdaaDoorBackList
namespace Go.Proofs.YtdbngmnpfcdhdaaDoor
open Go.RowKit Go.WideShapes
set_option maxRecDepth 100000

theorem told_few (a : Option Addr) (xs : List UInt8) (m c most : Nat) (w : World) (hH : HalvesAt w) (hn : xs.length = m) (hx : IsBytes w a xs) (hnc : a = none → c = 0) (hml : m ≤ 2000000) (hmo : most ≤ 9223372036854775807) :
    Calls Tryd.prog 13 #[.slice a m c, .int .i64 (most : Int)] w fun e w' => (∃ a1 c1 a2 c2 E, e = .returned (.tuple #[.slice a1 ((frames xs).take most).length c1, .slice a2 ((frames xs).take most).length c2]) ∧ RowsOf w' w.heap.size (.slice a1 ((frames xs).take most).length c1) E ((frames xs).take most)) ∧ Below w.heap.size w w' := by
  have h := callsIn_wide.1 (told_walk 0 a xs m c most w hH hn hx hnc hml hmo)
  refine h.mono ?_
  rintro e w' ⟨⟨v, u, E, rfl, h1, h2⟩, h3⟩
  obtain ⟨a1, c1, rfl⟩ := h1.slice
  obtain ⟨a2, c2, rfl⟩ := own_slice h2
  exact ⟨⟨a1, c1, a2, c2, E, rfl, h1⟩, h3⟩

set_option maxHeartbeats 4000000 in
theorem back_near (a al : Option Addr) (L : List (List UInt8)) (xl : List UInt8) (n c nl cl cut most : Nat) (w : World) (hH : HalvesAt w) (hL : L.length = n) (hl : ListsAt w a L) (hlc : n ≤ c) (hcm : c ≤ maxLen) (hn : xl.length = nl) (hx : IsBytes w al xl) (hnc : al = none → cl = 0)
    (hcut : cut < 65536) (hmo : most < 256) (h20 : n ≤ 20) (h50 : nl ≤ 5000) (h1 : 1 ≤ nl) :
    Calls Tryd.prog 5 #[.slice a n c, .slice al nl cl, .int .u16 (cut : Int), .int .u8 (most : Int)] w fun e w' => e = .returned (.bool true) ∧ Below w.heap.size w w' := by
  have h20' : ¬ (20 : Int) < n := by omega
  have h50' : ¬ (5000 : Int) < nl := by omega
  have h1' : ¬ (nl : Int) < 1 := by omega
  have HH := Lib.hid hH
  have HL := Lib.hid hL
  have HN := Lib.hid hn
  clear hH hL hn
  go_enter Tryd.func5, Tryd.ntmps5
  go_wp2_with fail
  refine (frame_awake _ HH.out).mono ?_
  rintro e w1 ⟨rfl, b1⟩
  go_wp2_with fail
  go_loopw [9, 10, 11, 12, 40] (fun v _ _ _ i wr => ∃ k m : Nat, k ≤ n ∧ i = .int .i64 k ∧ Below w.heap.size w wr ∧ (catF (L.take k)).length = m ∧ wr.ownsRow w.heap.size 5 1 v m ((catF (L.take k)).map bval) ∧ Good (L.take k)) (fun _ _ _ _ i _ => n - (intOf i).toNat)
  case atStart => exact ⟨0, 0, Nat.zero_le _, rfl, b1, rfl, World.ownsRow_nil _ _ _ _, fun x h => by simp at h⟩
  case round =>
    obtain ⟨k, m, hk, rfl, bR, hm, hr, hG⟩ := hrel
    have HR := Lib.hid hr
    have HG := Lib.hid hG
    have HM := Lib.hid hm
    obtain ⟨av, cv, rfl⟩ := own_slice hr
    have hmb : m ≤ 1300000 := by
      have h := catF_bound (b := 60000) (fun x hx => (hG x hx).2)
      have h2 : (L.take k).length ≤ 20 := by rw [List.length_take]; omega
      have h3 : (L.take k).length * (7 + 60000) ≤ 20 * (7 + 60000) := Nat.mul_le_mul_right _ h2
      omega
    clear hr hG hm
    by_cases hlt : k < n
    · have hk0 : (0 : Int) ≤ (k : Int) := by omega
      have hkn : (k : Int) < (n : Int) := by omega
      have hkL : k < L.length := by rw [HL.out]; exact hlt
      obtain ⟨b, off, rfl, hb, hi⟩ : ∃ b off, a = some ⟨b, off, none⟩ ∧ b < wr.heap.size ∧ ∃ ad cx, wr.cell? ⟨b, off + k, none⟩ = some (.slice ad L[k].length cx) ∧ IsBytes wr ad L[k] ∧ (ad = none → cx = 0) := by
        rcases hl.below bR with h | ⟨b, off, h2, h3, h4⟩
        · rw [h] at hkL; simp at hkL
        · obtain ⟨ad, cx, h5, h6, _, _, h7⟩ := h4 k hkL
          exact ⟨b, off, h2, h3, ad, cx, h5, h6, h7⟩
      obtain ⟨ad, cx, hck, hby, hnx⟩ := hi
      obtain ⟨x, hxe⟩ : ∃ x, L[k] = x := ⟨_, rfl⟩
      rw [hxe] at hck hby
      obtain ⟨mx, hmx⟩ : ∃ mx, x.length = mx := ⟨_, rfl⟩
      rw [hmx] at hck
      have HXE := Lib.hid hxe
      have HMX := Lib.hid hmx
      clear hxe hmx
      go_wp2_with fail
      refine (code_frame ad x mx cx wr (HH.out.below bR) HMX.out hby hnx).mono ?_
      rintro e w2 ⟨af, mf, cf, er, rfl, hmf, hbad, hok, b2⟩
      have bR2 := bR.trans (b2.mono bR.size)
      have hck2 : w2.cell? ⟨b, off + k, none⟩ = some (.slice ad mx cx) := (b2.cell (p := ⟨b, off + k, none⟩) hb).trans hck
      rw [HMX.out] at hbad hok
      by_cases hq : mx < 1 ∨ 60000 < mx
      · obtain ⟨rfl, rfl⟩ := hbad hq
        clear hbad hok
        by_cases hq1 : mx < 1
        · have hq1' : (mx : Int) < 1 := by omega
          clear hq
          go_wp2
          go_ret
          exact ⟨rfl, bR2⟩
        · have hq1' : ¬ (mx : Int) < 1 := by omega
          have hq2' : (60000 : Int) < mx := by omega
          clear hq
          go_wp2
          go_ret
          exact ⟨rfl, bR2⟩
      · obtain ⟨rfl, rfl, hyf, hrf⟩ := hok hq
        have HQ := Lib.hid hq
        clear hbad hok hq hck
        have hfl : Hid ((frameOf x).length = 7 + mx) := by show (frameOf x).length = 7 + mx; rw [frameOf_len, HMX.out]
        have hcf : Hid (af = none → cf = 0) := (bytes_of_row hrf).2.2.2.2
        have hr2 := Lib.hid (ownsRow_upd (S := fun _ => False) HR.out (below_upd _ b2) (fun _ _ h => h))
        have hHF := Lib.hid hrf
        clear hrf
        go_wp2_with (at_builtin; refine wpList_append_bytes rfl _ _ 22 rfl w.heap.size 5 Tryd.underlying22 u8_info (.slice av m cv) m _ rfl hr2.out af (frameOf x) (7 + mx) hfl.out cf rfl hyf hcf.out (by have := HQ.out; omega) bR2.size ?_; intro a3 c3 w3 hr3 hg3 hn3; have HR3 := Lib.hid hr3; have HG3 := Lib.hid hg3; clear hr3 hg3 hn3)
        go_roundw
        case rel =>
          have bg : Below w.heap.size w w3 := by
            refine bR2.trans ⟨HG3.out.os, HG3.out.tape, HG3.out.output, HG3.out.size, fun j hj => HG3.out.block j (Nat.lt_of_lt_of_le hj bR2.size) (fun e => ?_)⟩
            have := own_ge HR.out e.symm
            omega
          refine ⟨k + 1, m + (7 + mx), by omega, by go_num, bg, ?_, ?_, HG.out.take hkL (by rw [HXE.out, HMX.out]; have := HQ.out; omega) (by rw [HXE.out, HMX.out]; have := HQ.out; omega)⟩
          · rw [List.take_succ_eq_append_getElem hkL, catF_snoc, List.length_append, HM.out, HXE.out, hfl.out]
          · rw [List.take_succ_eq_append_getElem hkL, catF_snoc, HXE.out]
            exact HR3.out
        case measure => simp [intOf]; omega
    · obtain rfl : k = n := by omega
      have hLk : L.take k = L := List.take_of_length_le (by rw [HL.out]; exact Nat.le_refl _)
      rw [hLk] at HR HG HM
      go_wp2_with fail
      refine (code_frame al xl nl cl wr (HH.out.below bR) HN.out (hx.below bR) hnc).mono ?_
      rintro e w2 ⟨af, mf, cf, er, rfl, hmf, hbad, hok, b2⟩
      rw [HN.out] at hbad hok
      obtain ⟨rfl, rfl, hyf, hrf⟩ := hok (by omega)
      have bR2 := bR.trans (b2.mono bR.size)
      have hfl : Hid ((frameOf xl).length = 7 + nl) := by show (frameOf xl).length = 7 + nl; rw [frameOf_len, HN.out]
      have hcf : Hid (af = none → cf = 0) := (bytes_of_row hrf).2.2.2.2
      have hr2 := Lib.hid (ownsRow_upd (S := fun _ => False) HR.out (below_upd _ b2) (fun _ _ h => h))
      have hHF := Lib.hid hrf
      obtain ⟨bf, hcc, haf⟩ : ∃ bf, 7 + nl ≤ cf ∧ af = some ⟨bf, 0, none⟩ := by
        rcases hrf.2 with ⟨_, h2⟩ | ⟨g, cap, cur, hv, _, _, _, h3, _⟩
        · omega
        · injection hv with e1 e2 e3
          exact ⟨g, by omega, e1⟩
      have hrlt : cut % (7 + nl) < 7 + nl := Nat.mod_lt _ (by omega)
      clear hrf hbad hok hLk
      subst haf
      have htl : Hid (((frameOf xl).take (cut % (7 + nl))).length = cut % (7 + nl)) := by
        show ((frameOf xl).take (cut % (7 + nl))).length = cut % (7 + nl)
        rw [List.length_take, hfl.out]; omega
      have hb1 : (0 : Int) ≤ (cut : Int) % (7 + (nl : Int)) := Int.emod_nonneg _ (by omega)
      have hb2 : (cut : Int) % (7 + (nl : Int)) ≤ (cf : Int) := by have := Int.emod_lt_of_pos (cut : Int) (b := 7 + (nl : Int)) (by omega); omega
      go_wp2_with (at_builtin; refine wpList_append_bytes rfl _ _ 22 rfl w.heap.size 5 Tryd.underlying22 u8_info (.slice av m cv) m _ rfl hr2.out (some ⟨bf, 0, none⟩) ((frameOf xl).take (cut % (7 + nl))) (cut % (7 + nl)) htl.out cf rfl (hyf.take' _) hcf.out (by omega) bR2.size ?_; intro a3 c3 w3 hr3 hg3 hn3; have HR3 := Lib.hid hr3; have HG3 := Lib.hid hg3; clear hr3 hg3 hn3)
      have bg : Below w.heap.size w w3 := by
        refine bR2.trans ⟨HG3.out.os, HG3.out.tape, HG3.out.output, HG3.out.size, fun j hj => HG3.out.block j (Nat.lt_of_lt_of_le hj bR2.size) (fun e => ?_)⟩
        have := own_ge HR.out e.symm
        omega
      have hfr : frames (catF L ++ (frameOf xl).take (cut % (7 + nl))) = L := by
        rw [frames_cat HG.out, frames_torn xl _ (by have := HN.out; omega) (by rw [HN.out]; exact hrlt), List.append_nil]
      have hen : endOf 0 L = m := by rw [← catF_len, Nat.zero_add]; exact HM.out
      generalize catF L ++ (frameOf xl).take (cut % (7 + nl)) = xs at HR3 hfr
      obtain ⟨t, ht⟩ : ∃ t, m + cut % (7 + nl) = t := ⟨_, rfl⟩
      have ht2 : t ≤ 2000000 := by omega
      rw [ht] at HR3 ⊢
      obtain ⟨q1, q2, q3, q4, q5⟩ := bytes_of_row HR3.out
      have HQ5 := Lib.hid q5
      have HFR := Lib.hid hfr
      have HQ2 := Lib.hid q2.symm
      have HEN := Lib.hid hen
      clear ht hrlt htl hcf hHF hfl hyf hcc hmf q5 hfr q2 HR hr2 HG3 hen
      refine (told_all a3 xs t c3 w3 (HH.out.below bg) HQ2.out q1 HQ5.out ht2).mono ?_
      rintro e w4 ⟨⟨a1, c1, a2, c2, E, rfl, hr1, -⟩, b4⟩
      rw [HFR.out, HL.out] at hr1
      rw [HFR.out, HL.out]
      have B4 := bg.trans (b4.mono bg.size)
      have L1 := Lib.hid hr1.lists
      clear hr1
      go_wp2_with fail
      refine (told_few a3 xs t c3 most w4 (HH.out.below B4) HQ2.out (q1.below b4) HQ5.out ht2 (by omega)).mono ?_
      rintro e w5 ⟨⟨a5, c5, a6, c6, E5, rfl, hr5⟩, b5⟩
      rw [HFR.out] at hr5
      rw [HFR.out]
      have B5 := B4.trans (b5.mono B4.size)
      have L5 := Lib.hid hr5.lists
      obtain ⟨q, hq⟩ : ∃ q, (L.take most).length = q := ⟨_, rfl⟩
      rw [hq]
      have HQ := Lib.hid hq
      have HQM : Hid (q = min most k) := by
        show q = min most k
        rw [← hq, List.length_take, HL.out]
      clear hr5 hq
      have hkm : k ≤ maxLen := Nat.le_trans hlc hcm
      have hqm : q ≤ maxLen := by have := HQM.out; omega
      go_wp2_with fail
      refine (lists_any a1 a k k c1 c L L w5 HL.out HL.out (L1.out.below b5) (hl.below B5) hkm hkm).mono ?_
      rintro e w6 ⟨rfl, b6⟩
      have B6 := B5.trans (b6.mono B5.size)
      have ed : decide (L = L) = true := by simp
      rw [ed]
      clear ed
      go_wp2_with fail
      refine (whole_all a3 xs t c3 w6 (HH.out.below B6) HQ2.out (q1.below (b4.trans ((b5.trans (b6.mono b5.size)).mono b4.size))) HQ5.out q3 q4).mono ?_
      rintro e w7 ⟨rfl, b7⟩
      have B7 := B6.trans (b7.mono B6.size)
      rw [HFR.out, HEN.out]
      by_cases hmn : most < k
      · have hmn' : (most : Int) < (k : Int) := by omega
        have hmn0 : (0 : Int) ≤ (most : Int) := by omega
        have hq1 : (L.take most).length = most := by rw [HQ.out, HQM.out]; omega
        have HQ1 := Lib.hid hq1
        clear hq1
        go_wp2_with fail
        refine (lists_any a5 a q most c5 c (L.take most) (L.take most) w7 HQ.out HQ1.out (L5.out.below (b6.trans (b7.mono b6.size))) ((hl.below B7).take most) hqm (by omega)).mono ?_
        rintro e w8 ⟨rfl, b8⟩
        have ed : decide (L.take most = L.take most) = true := by simp
        rw [ed]
        clear ed
        go_wp2
        go_ret
        exact ⟨rfl, B7.trans (b8.mono B7.size)⟩
      · have hmn' : ¬ (most : Int) < (k : Int) := by omega
        have hta : L.take most = L := List.take_of_length_le (by rw [HL.out]; omega)
        have HTA := Lib.hid hta
        clear hta
        go_wp2_with fail
        refine (lists_any a5 a q k c5 c (L.take most) L w7 HQ.out HL.out (L5.out.below (b6.trans (b7.mono b6.size))) (hl.below B7) hqm hkm).mono ?_
        rintro e w8 ⟨rfl, b8⟩
        have ed : decide (L.take most = L) = true := by simp [HTA.out]
        rw [ed]
        clear ed
        go_wp2
        go_ret
        exact ⟨rfl, B7.trans (b8.mono B7.size)⟩

theorem back_far (a al : Option Addr) (n c nl cl cut most : Nat) (w : World) (hH : HalvesAt w) (h : 20 < n ∨ 5000 < nl ∨ nl < 1) :
    Calls Tryd.prog 5 #[.slice a n c, .slice al nl cl, .int .u16 (cut : Int), .int .u8 (most : Int)] w fun e w' => e = .returned (.bool true) ∧ Below w.heap.size w w' := by
  have HH := Lib.hid hH
  clear hH
  by_cases h1 : (20 : Int) < n
  · clear h
    go_enter Tryd.func5, Tryd.ntmps5
    go_wp2_with fail
    refine (frame_awake _ HH.out).mono ?_
    rintro e w1 ⟨rfl, b1⟩
    go_wp2_with fail
    refine (frame_awake _ (HH.out.below b1)).mono ?_
    rintro e w2 ⟨rfl, b2⟩
    go_wp2
    go_ret
    exact ⟨rfl, b1.trans (b2.mono b1.size)⟩
  · by_cases h2 : (5000 : Int) < nl
    · clear h
      go_enter Tryd.func5, Tryd.ntmps5
      go_wp2_with fail
      refine (frame_awake _ HH.out).mono ?_
      rintro e w1 ⟨rfl, b1⟩
      go_wp2_with fail
      refine (frame_awake _ (HH.out.below b1)).mono ?_
      rintro e w2 ⟨rfl, b2⟩
      go_wp2
      go_ret
      exact ⟨rfl, b1.trans (b2.mono b1.size)⟩
    · have h3 : (nl : Int) < 1 := by omega
      clear h
      go_enter Tryd.func5, Tryd.ntmps5
      go_wp2_with fail
      refine (frame_awake _ HH.out).mono ?_
      rintro e w1 ⟨rfl, b1⟩
      go_wp2_with fail
      refine (frame_awake _ (HH.out.below b1)).mono ?_
      rintro e w2 ⟨rfl, b2⟩
      go_wp2
      go_ret
      exact ⟨rfl, b1.trans (b2.mono b1.size)⟩

theorem wf_u16 {n : Int} (h : (Lit.int .u16 n).wf = true) : 0 ≤ n ∧ n < 65536 := by
  simp [Lit.wf, IntKind.min, IntKind.max, IntKind.signed, IntKind.bits] at h
  omega
theorem back_contract (W : World) (args : Array Value) (hL : laidMetH Tryd.prog halvesLaid W) (h : Each Tryd.prog W Tryd.f5.params.toList args.toList) :
    Calls Tryd.prog 5 args W fun e W' => e = .returned (.bool true) ∧ Below W.heap.size W W' := by
  rw [Tryd.params5] at h
  obtain ⟨v0, r0, e0, ⟨_, o0⟩, d0, h⟩ := h.cons
  obtain ⟨v1, r1, rfl, ⟨_, o1⟩, d1, h⟩ := h.cons
  obtain ⟨v2, r2, rfl, ⟨_, o2⟩, d2, h⟩ := h.cons
  obtain ⟨v3, r3, rfl, ⟨_, o3⟩, d3, h⟩ := h.cons
  obtain rfl := h.nil
  obtain ⟨args⟩ := args
  obtain rfl : args = [v0, v1, v2, v3] := e0
  obtain ⟨a, n, c, rfl, hc0⟩ := val_slice o0 Tryd.underlying32
  rw [hc0] at d0
  obtain ⟨L, hLn, hl, hnc0, hcm0⟩ := lists_of d0
  obtain ⟨al, nl, cl, rfl, hc1⟩ := val_slice o1 Tryd.underlying22
  rw [hc1] at d1
  obtain ⟨a', c', xs, e, h1, h2, h3, h4⟩ := d1.bytes Tryd.underlying22 Tryd.underlying5 cells_u8'
  injection e with e _
  injection e with e1 e2 e3
  subst e1 e2 e3
  obtain ⟨cut, rfl, hk⟩ := val_int o2 d2 Tryd.underlying41
  obtain ⟨most, rfl, hm⟩ := val_int o3 d3 Tryd.underlying5
  obtain ⟨hk1, hk2⟩ := wf_u16 hk
  obtain ⟨hm1, hm2⟩ := wf_u8 hm
  obtain ⟨cut, rfl⟩ := Int.eq_ofNat_of_zero_le hk1
  obtain ⟨most, rfl⟩ := Int.eq_ofNat_of_zero_le hm1
  have hH := halves_of_laid hL
  by_cases hbig : 20 < n ∨ 5000 < xs.length ∨ xs.length < 1
  · exact back_far _ _ _ _ _ _ cut most W hH hbig
  · exact back_near _ _ L xs _ _ _ _ cut most W hH hLn hl hnc0 hcm0 rfl h3 h4 (by omega) (by omega) (by omega) (by omega) (by omega)

theorem back_lifted (os : Os) (started : os.Started) (H : Type) (enc : TypeId × Value → H) :
    ReturnsInHanded {} Tryd.checked os 5 .any (fun w args => (Rows.frameBackSpec.pre enc Tryd.prog Tryd.f5 [] false w args ∧ laidMetH Tryd.prog halvesLaid w) ∧ sizedMet enc Tryd.prog Tryd.f5 (OpenSpec.ofChange Rows.frameBackSpec) false w args)
      (Rows.frameBackSpec.post enc Tryd.prog Tryd.f5 false true false false) :=
  law_lifted_laid (C := Tryd.checked) frame_own frame_laidOut (by kernel_rfl) Tryd.func5 rfl (tb := 4) rfl Tryd.underlying4
    (by
      rw [Tryd.params5]; intro t ht; simp at ht
      rcases ht with rfl | rfl | rfl | rfl <;> exact ⟨by kernel_rfl, of_decide_eq_true (by kernel_rfl)⟩)
    (fun H ds hl => by
      rw [Tryd.params5] at hl
      match ds, hl with
      | [d1, d2, d3, d4], _ => rfl)
    os started H enc
    (ChangeSpec.witness_shaped (enc := enc) (C := Tryd.checked) (os := os) (X := fun w _ => laidMetH Tryd.prog halvesLaid w) false (World.doorLaid Tryd.prog 14 os) #[.slice none 0 0, .slice none 0 0, .int .u16 0, .int .u8 0] 8 rfl (World.shaped_of_RefB (by kernel_rfl) (by kernel_rfl)) (by kernel_rfl) (by kernel_rfl) (by kernel_rfl) (door_met os _))
    back_contract

theorem frameBack_holds : Rows.FrameBackSaid :=
  OpenClaim.holds_of_wide 5 Tryd.f5 rfl rfl rfl rfl rfl rfl rfl ⟨rfl, rfl, rfl, rfl, rfl⟩ rfl rfl rfl rfl rfl (by kernel_rfl) Tryd.func5 (by kernel_rfl)
    (of_decide_eq_true (by kernel_rfl)) (by unfold Func.isWrapper; first | (rw [if_pos (by decide +kernel)]; kernel_rfl) | (rw [if_neg (by decide +kernel)]; exact ⟨rfl, rfl⟩))
    (fun os started H enc _ => back_lifted os started H enc)

theorem frameBack_card : Rows.FrameBackCardSaid :=
  Claim7.holds_tied_plain_at .later [] [.data] true _ false
    frameBack_holds (fun _ h => by cases h) (by kernel_rfl) (fun _ h => by cases h) frameBack_row_tie rfl ⟨rfl, rfl⟩ (by kernel_rfl) rfl
    (fun f fn hf hfn => by
      obtain rfl : f = 5 := Option.some.inj ((show Tryd.prog.funcNamed "recoup/recouplaw03.FrameBack" = some 5 by kernel_rfl).symm.trans hf) |>.symm
      obtain rfl : fn = Tryd.f5 := (Option.some.inj (Tryd.func5.symm.trans hfn)).symm
      exact ⟨by kernel_rfl, fun j t ht => by
        rw [Tryd.params5] at ht
        have hm : t ∈ [32, 22, 41, 5] := by simpa using Array.mem_of_getElem? ht
        have hall : ([32, 22, 41, 5].all fun u => !Tryd.prog.wantsStandIn u) = true := by kernel_rfl
        exact (show Tryd.prog.wantsStandIn t = false by simpa using List.all_eq_true.1 hall t hm)⟩)
    (by kernel_rfl)
#print axioms frameBack_card
end Go.Proofs.YtdbngmnpfcdhdaaDoor
