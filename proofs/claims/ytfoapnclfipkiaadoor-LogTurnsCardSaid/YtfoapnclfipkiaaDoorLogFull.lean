/-
  LogFull: what finds no room, or is too long, is refused, and nothing is changed; tied to the program's text. No conditions: every input.
-/
import Derived.Test.YtfoapnclfipkiaaDoorLogAwake
import Derived.Test.YtfoapnclfipkiaaDoorLawLaid
import Derived.Test.YtfoapnclfipkiaaDoorCards
import Derived.Test.YtfoapnclfipkiaaDoorTie
import Derived.Lib.SmallJoins
import Derived.SevenTiedAt
namespace Go.Proofs.YtfoapnclfipkiaaDoor
open Go.RowKit Go.WideShapes
set_option maxRecDepth 100000

theorem room_of {w : World} {p : Nat} {S : Nat → Prop} {V : Nat → Value} {D : DM} (h : DiskAt w p S V D) {n : Nat} (hn : D.used 8 + n = D.cap) :
    Calls Tryd.prog 27 #[.pointer (some ⟨p, 0, none⟩)] w fun e w' => e = .returned (.int .i64 (n : Int)) ∧ Below w.heap.size w w' :=
  (room_in h).mono fun e w' he => ⟨by rw [he.1]; congr 2; omega, he.2⟩

set_option maxHeartbeats 4000000 in
theorem full_near (cap : Nat) (a1 a2 : Option Addr) (im b : List UInt8) (n c1 m c2 : Nat) (w : World) (hH : HalvesAt w) (hcap : cap < 65536) (hn : im.length = n) (hx1 : IsBytes w a1 im) (hnc1 : a1 = none → c1 = 0) (hm : b.length = m) (hx2 : IsBytes w a2 b) (hnc2 : a2 = none → c2 = 0)
    (hn7 : n ≤ 70000) (hm7 : m ≤ 70000) :
    Calls Tryd.prog 5 #[.int .u16 (cap : Int), .slice a1 n c1, .slice a2 m c2] w fun e w' => e = .returned (.bool true) ∧ Below w.heap.size w w' := by
  have hn7' : ¬ (70000 : Int) < (n : Int) := by omega
  have hm7' : ¬ (70000 : Int) < (m : Int) := by omega
  have HH := Lib.hid hH
  have HN := Lib.hid hn
  have HM := Lib.hid hm
  have HX1 := Lib.hid hx1
  have HX2 := Lib.hid hx2
  have HL1 := Lib.hid hx1.lt
  have HL2 := Lib.hid hx2.lt
  have HC2 := Lib.hid hnc2
  clear hH hn hm hx1 hx2 hnc2
  go_enter Tryd.func5, Tryd.ntmps5
  go_wp2_with fail
  refine (log_awake _ HH.out).mono ?_
  rintro e w1 ⟨rfl, b1⟩
  go_wp2_with fail
  refine (new_in cap w1 (by omega)).mono ?_
  rintro e w2 ⟨rfl, ⟨V, h2⟩, b2, s2⟩
  have S2 := Lib.hid s2
  have B2 := b1.trans (b2.mono b1.size)
  have HB1 := Lib.hid b1.size
  have HC := Lib.hid (log_create (B := w.heap.size) h2 (HH.out.below B2) (fun k hk => by have h9 : k = w1.heap.size := hk; have := b1.size; omega) a1 im n c1 HN.out (HX1.out.below B2) hnc1 (fun h0 x hx e => by
    have h9 : x.block = w1.heap.size := e
    have := HL1.out h0 x hx
    have := b1.size
    omega))
  have HB2 := Lib.hid B2
  have HCN := Lib.hid (create_new cap im)
  obtain ⟨r, hr⟩ : ∃ r, logCreate (DM.new cap) im = r := ⟨_, rfl⟩
  rw [hr] at HC HCN
  have hused : Hid ((DM.new cap).used 8 + cap = (DM.new cap).cap) := by show (DM.new cap).used 8 + cap = cap; rw [DM.new_used]; omega
  clear hr h2 s2 B2 b1 b2 hnc1
  go_wp2_with fail
  refine HC.out.mono ?_
  rintro e w3 ⟨S3, u3, m3, hno, hyes⟩
  have HB3 : Hid (Below w.heap.size w w3) := HB2.out.trans (u3.toBelow HB2.out.size (fun k hk h => by have h9 : k = w1.heap.size := h; have := HB1.out; omega))
  have HYES := Lib.hid hyes
  have HNO := Lib.hid hno
  clear hyes hno u3 m3
  rcases HCN.out with ⟨d1, d2⟩ | ⟨d1, d2, d3⟩ | ⟨d1, d2, d3, d4, d5, d6, d7, d8⟩
  · obtain ⟨rfl, V3, h3⟩ := HNO.out (by rw [d2]; exact fun h => by cases h)
    have e1 : r.1 = 4 := by rw [d2]
    have e2 : r.2.1 = DM.new cap := by rw [d2]
    rw [e2] at h3
    rw [e1]
    have HR := Lib.hid (room_of h3 hused.out)
    rw [HN.out] at d1
    have h60 : decide ((60000 : Int) < (n : Int) + 4) = true := decide_eq_true (by omega)
    clear d1 d2 e1 e2 h3 HYES HNO HCN HC
    go_wp2_with fail
    refine HR.out.mono ?_
    rintro e w4 ⟨rfl, b4⟩
    go_wp2
    go_ret
    exact ⟨rfl, HB3.out.trans (b4.mono HB3.out.size)⟩
  · obtain ⟨rfl, V3, h3⟩ := HNO.out (by rw [d3]; exact fun h => by cases h)
    have e1 : r.1 = 5 := by rw [d3]
    have e2 : r.2.1 = DM.new cap := by rw [d3]
    rw [e2] at h3
    rw [e1]
    have HR := Lib.hid (room_of h3 hused.out)
    rw [HN.out] at d1 d2
    have h60 : decide ((60000 : Int) < (n : Int) + 4) = false := decide_eq_false (by omega)
    have hci : decide ((cap : Int) < (n : Int) + 11) = true := decide_eq_true (by omega)
    clear d1 d2 d3 e1 e2 h3 HYES HNO HCN HC
    go_wp2_with fail
    refine HR.out.mono ?_
    rintro e w4 ⟨rfl, b4⟩
    go_wp2
    go_ret
    exact ⟨rfl, HB3.out.trans (b4.mono HB3.out.size)⟩
  · obtain ⟨q, T, rfl, h3, hT⟩ := HYES.out d3
    rw [HN.out] at d1 d2
    have hu : r.2.1.used 8 = 11 + n := by
      have h1 := used_fupd (D := DM.new cap) (E := r.2.1) (i := 1) (x := freshFile 1 im) (by decide) (by rw [d8]; rfl)
      rw [DM.new_used] at h1
      have h2 : ((DM.new cap).f 1).b.length = 0 := rfl
      have h3 : (freshFile 1 im).b.length = 11 + n := by show (frameOf (headF 1 im)).length = 11 + n; rw [frameOf_len, headF_len, HN.out]; omega
      omega
    have h60 : decide ((60000 : Int) < (n : Int) + 4) = false := decide_eq_false (by omega)
    have hci : decide ((cap : Int) < (n : Int) + 11) = false := decide_eq_false (by omega)
    obtain ⟨rm, hrm⟩ : ∃ rm, r.2.1.used 8 + rm = r.2.1.cap := ⟨r.2.1.cap - r.2.1.used 8, by rw [d5, hu]; omega⟩
    obtain ⟨V3, hd3⟩ := h3.disk
    have HR := Lib.hid (room_of hd3 hrm)
    have H3 := Lib.hid h3
    have HRM := Lib.hid hrm
    have HU := Lib.hid hu
    have D4 := Lib.hid d4
    have D5 := Lib.hid d5
    have D6 := Lib.hid d6
    have D7 := Lib.hid d7
    have D8 := Lib.hid d8
    clear d1 d2 d3 d4 d5 d6 d7 d8 h3 hd3 hrm hu HYES HNO HCN HC
    go_wp2_with fail
    refine HR.out.mono ?_
    rintro e w4 ⟨rfl, b4⟩
    have HB4 := Lib.hid (HB3.out.trans (b4.mono HB3.out.size))
    have H4 := Lib.hid (H3.out.below b4)
    have HA := Lib.hid (log_append H4.out (HH.out.below HB4.out) a2 b m c2 HM.out (HX2.out.below HB4.out) HC2.out (fun h0 x hx e => by
      have := HL2.out h0 x hx
      rcases e with e | e
      · have := H4.out.sB _ e; omega
      · have := H4.out.tB _ e; omega) (by rw [D4.out]; simp))
    have HO := Lib.hid (append_log (D := r.2.1) (L := r.2.2) (b := b) D6.out (by rw [D4.out]) (by rw [D4.out]; show 1 < 8; decide))
    obtain ⟨r2, hr2⟩ : ∃ r2, logAppend r.2.1 r.2.2 b = r2 := ⟨_, rfl⟩
    rw [hr2] at HA HO
    clear hr2 b4
    go_wp2_with fail
    refine HA.out.mono ?_
    rintro e w5 ⟨rfl, S5, T5, h5, g5⟩
    have HB5 : Hid (Below w.heap.size w w5) := HB4.out.trans (H4.out.went g5)
    have H5 := Lib.hid h5
    obtain ⟨V5, hd5⟩ := h5.disk
    have HD5 := Lib.hid hd5
    clear h5 g5 hd5
    rcases HO.out with ⟨d1, d2, d3, d4, d5, d6⟩ | ⟨_, _, _, ⟨k, h⟩, _⟩ | ⟨d1, d2⟩ | ⟨d1, d2, d3⟩
    · rw [d1]
      rw [HM.out] at d2 d3 d4
      have e2 : r.2.2.file = 1 := by rw [D4.out]
      rw [e2] at d5
      have hx1 : r.2.1.f 1 = freshFile 1 im := by rw [D8.out, fupd_same]
      have hlen0 : (r.2.1.f 1).b.length = 11 + n := by rw [hx1]; show (frameOf (headF 1 im)).length = 11 + n; rw [frameOf_len, headF_len, HN.out]; omega
      have hu5 : r2.2.1.used 8 + (rm - (7 + m)) = r2.2.1.cap := by
        have h1 := used_fupd (D := r.2.1) (E := r2.2.1) (i := 1) (x := ⟨true, (r.2.1.f 1).b ++ frameOf b, ((r.2.1.f 1).b ++ frameOf b).length⟩) (by decide) d5.f
        have h2 : ((r.2.1.f 1).b ++ frameOf b).length = 11 + n + (7 + m) := by rw [List.length_append, hlen0, frameOf_len, HM.out]
        simp only [h2] at h1
        rw [d5.cap]
        have := HRM.out
        omega
      have HR5 : Hid (∀ w', Below w5.heap.size w5 w' → Calls Tryd.prog 27 #[.pointer (some ⟨w1.heap.size, 0, none⟩)] w' fun e w2 => e = .returned (.int .i64 ((rm - (7 + m) : Nat) : Int)) ∧ Below w'.heap.size w' w2) := fun w' hw => room_of (HD5.out.below hw) hu5
      have hrmi : ((rm - (7 + m) : Nat) : Int) = (rm : Int) - (m : Int) - 7 := by have := HRM.out; have := HU.out; omega
      rw [hrmi] at HR5
      have hfs : (r2.2.1.f 1).safe = (r2.2.1.f 1).b.length := by rw [d5.f, fupd_same]
      have HFS := Lib.hid hfs
      have hlg := H5.out.log
      rw [d6] at hlg
      have HLN : Hid (∀ w', Below w5.heap.size w5 w' → Calls Tryd.prog 28 #[.pointer (some ⟨q, 0, none⟩)] w' fun e w2 => e = .returned (.int .i64 1) ∧ w' = w2) := fun w' hw => (log_len (hlg.below hw)).mono fun e w2 he => ⟨by rw [he.1]; show Ending.returned (.int .i64 (((r.2.2.recs ++ [b]).length : Nat) : Int)) = _; rw [D4.out]; rfl, he.2⟩
      have hm1 : ¬ (m : Int) < 1 := by omega
      have hm4 : ¬ (4000 : Int) < (m : Int) := by omega
      have hmr : decide ((rm : Int) < (m : Int) + 7) = false := decide_eq_false (by have := HRM.out; omega)
      have hmx : (rm : Int) ≤ 65536 := by have := HRM.out; have := D5.out; omega
      clear d1 d2 d3 d4 d5 d6 e2 hx1 hlen0 hu5 hrmi hfs hlg
      go_wp2_with fail
      refine (HR5.out _ (Below.refl _ _)).mono ?_
      rintro e w6 ⟨rfl, b6⟩
      go_wp2_with fail
      refine (HLN.out _ b6).mono ?_
      rintro e w7 ⟨rfl, rfl⟩
      have hS := Lib.hid (safe_in (HD5.out.below b6) 1 (by decide))
      have B6 := Lib.hid b6
      clear b6
      go_wp2_with fail
      refine hS.out.mono ?_
      rintro e w8 ⟨rfl, b8⟩
      have hZ := Lib.hid (size_in ((HD5.out.below B6.out).below b8) 1 (by decide))
      have B8 := Lib.hid (B6.out.trans (b8.mono B6.out.size))
      rw [HFS.out]
      clear b8
      go_wp2_with fail
      refine hZ.out.mono ?_
      rintro e w9 ⟨rfl, b9⟩
      go_wp2
      go_ret
      exact ⟨rfl, HB5.out.trans ((B8.out.trans (b9.mono B8.out.size)).mono HB5.out.size)⟩
    · have h1 := h.lit
      rw [D7.out] at h1
      cases h1
    · rw [HM.out] at d1
      have e1 : r2.1 = 4 := by rw [d2]
      have e2 : r2.2.1 = r.2.1 := by rw [d2]
      have e3 : r2.2.2 = r.2.2 := by rw [d2]
      rw [e1]
      have hd := HD5.out
      rw [e2] at hd
      have HR5 := Lib.hid (room_of hd HRM.out)
      have hlg := H5.out.log
      rw [e3] at hlg
      have HLG := Lib.hid hlg
      have HLN : Hid (∀ w', Below w5.heap.size w5 w' → Calls Tryd.prog 28 #[.pointer (some ⟨q, 0, none⟩)] w' fun e w2 => e = .returned (.int .i64 0) ∧ w' = w2) := fun w' hw => (log_len (HLG.out.below hw)).mono fun e w2 he => ⟨by rw [he.1, D4.out]; rfl, he.2⟩
      clear d2 e1 e2 e3 hd hlg
      by_cases hm1 : m < 1
      · have hm1' : (m : Int) < 1 := by omega
        clear d1 hm1
        go_wp2_with fail
        refine HR5.out.mono ?_
        rintro e w6 ⟨rfl, b6⟩
        go_wp2_with fail
        refine (HLN.out _ b6).mono ?_
        rintro e w7 ⟨rfl, rfl⟩
        go_wp2
        go_ret
        exact ⟨rfl, HB5.out.trans (b6.mono HB5.out.size)⟩
      · have hm1' : ¬ (m : Int) < 1 := by omega
        have hm4' : (4000 : Int) < (m : Int) := by omega
        clear d1 hm1
        go_wp2_with fail
        refine HR5.out.mono ?_
        rintro e w6 ⟨rfl, b6⟩
        go_wp2_with fail
        refine (HLN.out _ b6).mono ?_
        rintro e w7 ⟨rfl, rfl⟩
        go_wp2
        go_ret
        exact ⟨rfl, HB5.out.trans (b6.mono HB5.out.size)⟩
    · rw [HM.out] at d1 d2
      have e1 : r2.1 = 5 := by rw [d3]
      have e2 : r2.2.1 = r.2.1 := by rw [d3]
      have e3 : r2.2.2 = r.2.2 := by rw [d3]
      rw [e1]
      have hd := HD5.out
      rw [e2] at hd
      have HR5 := Lib.hid (room_of hd HRM.out)
      have hlg := H5.out.log
      rw [e3] at hlg
      have HLG := Lib.hid hlg
      have HLN : Hid (∀ w', Below w5.heap.size w5 w' → Calls Tryd.prog 28 #[.pointer (some ⟨q, 0, none⟩)] w' fun e w2 => e = .returned (.int .i64 0) ∧ w' = w2) := fun w' hw => (log_len (HLG.out.below hw)).mono fun e w2 he => ⟨by rw [he.1, D4.out]; rfl, he.2⟩
      have hm1 : ¬ (m : Int) < 1 := by omega
      have hm4 : ¬ (4000 : Int) < (m : Int) := by omega
      have hmr : decide ((rm : Int) < (m : Int) + 7) = true := decide_eq_true (by have := HRM.out; omega)
      clear d1 d2 d3 e1 e2 e3 hd hlg
      go_wp2_with fail
      refine HR5.out.mono ?_
      rintro e w6 ⟨rfl, b6⟩
      go_wp2_with fail
      refine (HLN.out _ b6).mono ?_
      rintro e w7 ⟨rfl, rfl⟩
      go_wp2
      go_ret
      exact ⟨rfl, HB5.out.trans (b6.mono HB5.out.size)⟩

theorem full_far (cap : Int) (a1 a2 : Option Addr) (n c1 m c2 : Nat) (w : World) (hH : HalvesAt w) (h : 70000 < n ∨ 70000 < m) :
    Calls Tryd.prog 5 #[.int .u16 cap, .slice a1 n c1, .slice a2 m c2] w fun e w' => e = .returned (.bool true) ∧ Below w.heap.size w w' := by
  have HH := Lib.hid hH
  clear hH
  by_cases h1 : (70000 : Int) < n
  · clear h
    go_enter Tryd.func5, Tryd.ntmps5
    go_wp2_with fail
    refine (log_awake _ HH.out).mono ?_
    rintro e w1 ⟨rfl, b1⟩
    go_wp2_with fail
    refine (log_awake _ (HH.out.below b1)).mono ?_
    rintro e w2 ⟨rfl, b2⟩
    go_wp2
    go_ret
    exact ⟨rfl, b1.trans (b2.mono b1.size)⟩
  · have h2 : (70000 : Int) < m := by omega
    clear h
    go_enter Tryd.func5, Tryd.ntmps5
    go_wp2_with fail
    refine (log_awake _ HH.out).mono ?_
    rintro e w1 ⟨rfl, b1⟩
    go_wp2_with fail
    refine (log_awake _ (HH.out.below b1)).mono ?_
    rintro e w2 ⟨rfl, b2⟩
    go_wp2
    go_ret
    exact ⟨rfl, b1.trans (b2.mono b1.size)⟩

theorem wf_u16' {n : Int} (h : (Lit.int .u16 n).wf = true) : 0 ≤ n ∧ n < 65536 := by
  simp [Lit.wf, IntKind.min, IntKind.max, IntKind.signed, IntKind.bits] at h
  omega
theorem full_contract (W : World) (args : Array Value) (hL : laidMetH Tryd.prog halvesLaid W) (h : Each Tryd.prog W Tryd.f5.params.toList args.toList) :
    Calls Tryd.prog 5 args W fun e W' => e = .returned (.bool true) ∧ Below W.heap.size W W' := by
  rw [Tryd.params5] at h
  obtain ⟨v0, r0, e0, ⟨_, o0⟩, d0, h⟩ := h.cons
  obtain ⟨v1, r1, rfl, ⟨_, o1⟩, d1, h⟩ := h.cons
  obtain ⟨v2, r2, rfl, ⟨_, o2⟩, d2, h⟩ := h.cons
  obtain rfl := h.nil
  obtain ⟨args⟩ := args
  obtain rfl : args = [v0, v1, v2] := e0
  obtain ⟨cap, rfl, hk⟩ := val_int o0 d0 Tryd.underlying53
  obtain ⟨a1, n1, c1, rfl, hc1⟩ := val_slice o1 Tryd.underlying22
  rw [hc1] at d1
  obtain ⟨a', c', im, e, h1, h2, h3, h4⟩ := d1.bytes Tryd.underlying22 Tryd.underlying5 cells_u8'
  injection e with e _
  injection e with e1 e2 e3
  subst e1 e2 e3
  obtain ⟨a2, n2, c2, rfl, hc2⟩ := val_slice o2 Tryd.underlying22
  rw [hc2] at d2
  obtain ⟨a', c', b, e, g1, g2, g3, g4⟩ := d2.bytes Tryd.underlying22 Tryd.underlying5 cells_u8'
  injection e with e _
  injection e with e1 e2 e3
  subst e1 e2 e3
  obtain ⟨hk1, hk2⟩ := wf_u16' hk
  obtain ⟨cap, rfl⟩ := Int.eq_ofNat_of_zero_le hk1
  have hH := halves_of_laid hL
  by_cases hbig : 70000 < im.length ∨ 70000 < b.length
  · exact full_far _ _ _ _ _ _ _ W hH hbig
  · exact full_near cap _ _ im b _ _ _ _ W hH (by omega) rfl h3 h4 rfl g3 g4 (by omega) (by omega)

theorem full_lifted (os : Os) (started : os.Started) (H : Type) (enc : TypeId × Value → H) :
    ReturnsInHanded {} Tryd.checked os 5 .any (fun w args => (Rows.logFullSpec.pre enc Tryd.prog Tryd.f5 [] false w args ∧ laidMetH Tryd.prog halvesLaid w) ∧ sizedMet enc Tryd.prog Tryd.f5 (OpenSpec.ofChange Rows.logFullSpec) false w args)
      (Rows.logFullSpec.post enc Tryd.prog Tryd.f5 false true false false) :=
  law_lifted_laid (C := Tryd.checked) frame_own frame_laidOut (by kernel_rfl) Tryd.func5 rfl (tb := 4) rfl Tryd.underlying4
    (by
      rw [Tryd.params5]; intro t ht; simp at ht
      rcases ht with rfl | rfl | rfl <;> exact ⟨by kernel_rfl, of_decide_eq_true (by kernel_rfl)⟩)
    (fun H ds hl => by
      rw [Tryd.params5] at hl
      match ds, hl with
      | [d1, d2, d3], _ => rfl)
    os started H enc
    (ChangeSpec.witness_shaped (enc := enc) (C := Tryd.checked) (os := os) (X := fun w _ => laidMetH Tryd.prog halvesLaid w) false (World.doorLaid Tryd.prog 14 os) #[.int .u16 0, .slice none 0 0, .slice none 0 0] 8 rfl (World.shaped_of_RefB (by kernel_rfl) (by kernel_rfl)) (by kernel_rfl) (by kernel_rfl) (by kernel_rfl) (door_met os _))
    full_contract

theorem logFull_holds : Rows.LogFullSaid :=
  OpenClaim.holds_of_wide 5 Tryd.f5 rfl rfl rfl rfl rfl rfl rfl ⟨rfl, rfl, rfl, rfl, rfl⟩ rfl rfl rfl rfl rfl (by kernel_rfl) Tryd.func5 (by kernel_rfl)
    (of_decide_eq_true (by kernel_rfl)) (by unfold Func.isWrapper; first | (rw [if_pos (by decide +kernel)]; kernel_rfl) | (rw [if_neg (by decide +kernel)]; exact ⟨rfl, rfl⟩))
    (fun os started H enc _ => full_lifted os started H enc)

theorem logFull_card : Rows.LogFullCardSaid :=
  Claim7.holds_tied_plain_at .later [] [.data] true _ false
    logFull_holds (fun _ h => by cases h) (by kernel_rfl) (fun _ h => by cases h) logFull_row_tie rfl ⟨rfl, rfl⟩ (by kernel_rfl) rfl
    (fun f fn hf hfn => by
      obtain rfl : f = 5 := Option.some.inj ((show Tryd.prog.funcNamed "recoup/recouplaw04.LogFull" = some 5 by kernel_rfl).symm.trans hf) |>.symm
      obtain rfl : fn = Tryd.f5 := (Option.some.inj (Tryd.func5.symm.trans hfn)).symm
      exact ⟨by kernel_rfl, fun j t ht => by
        rw [Tryd.params5] at ht
        have hm : t ∈ [53, 22, 22] := by simpa using Array.mem_of_getElem? ht
        have hall : ([53, 22, 22].all fun u => !Tryd.prog.wantsStandIn u) = true := by kernel_rfl
        exact (show Tryd.prog.wantsStandIn t = false by simpa using List.all_eq_true.1 hall t hm)⟩)
    (by kernel_rfl)
#print axioms logFull_card
end Go.Proofs.YtfoapnclfipkiaaDoor
