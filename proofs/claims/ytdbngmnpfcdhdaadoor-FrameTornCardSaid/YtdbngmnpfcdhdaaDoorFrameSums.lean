/-
  FrameSums: any bytes have the sum, and the frame, that the document says; tied to the program's text. No conditions: every input.
-/
import Derived.Test.YtdbngmnpfcdhdaaDoorLawLaid
import Derived.Test.YtdbngmnpfcdhdaaDoorSeal
import Derived.Test.YtdbngmnpfcdhdaaDoorCards
import Derived.Test.YtdbngmnpfcdhdaaDoorTie
import Derived.Lib.SmallJoins
import Derived.SevenTiedAt
namespace Go.Proofs.YtdbngmnpfcdhdaaDoor
open Go.RowKit Go.WideShapes
set_option maxRecDepth 100000

theorem crc_check : crcSum [49, 50, 51, 52, 53, 54, 55, 56, 57] = 3421780262 := by decide +kernel

set_option maxHeartbeats 800000 in
theorem frame_awake (w : World) (hH : HalvesAt w) : Calls Tryd.prog 7 #[] w fun e w' => e = .returned (.bool true) ∧ Below w.heap.size w w' := by
  have hx : IsBytes (w.alloc (.cells #[.int .u8 49, .int .u8 50, .int .u8 51, .int .u8 52, .int .u8 53, .int .u8 54, .int .u8 55, .int .u8 56, .int .u8 57] 5 (9, 10))) (some ⟨w.heap.size, 0, none⟩) [49, 50, 51, 52, 53, 54, 55, 56, 57] := by
    refine .inr ⟨_, _, rfl, by simp, fun i hi => ?_⟩
    rw [Nat.zero_add, cell_of_row _ _ i _ _ _ (heap_alloc_new w _)]
    have hi : i < 9 := hi
    match i, hi with
    | 0, _ => rfl
    | 1, _ => rfl
    | 2, _ => rfl
    | 3, _ => rfl
    | 4, _ => rfl
    | 5, _ => rfl
    | 6, _ => rfl
    | 7, _ => rfl
    | 8, _ => rfl
  have A0 : Below w.heap.size w (w.alloc (.cells #[.int .u8 49, .int .u8 50, .int .u8 51, .int .u8 52, .int .u8 53, .int .u8 54, .int .u8 55, .int .u8 56, .int .u8 57] 5 (9, 10))) := upd_box _
  have HH := Lib.hid (hH.below A0)
  have kc := fun (W : World) (C : Array Value) (n c g : Nat) (hg : g = W.heap.size) => Joins.run_convert_bytes_const_at (P := Tryd.prog) W 22 5 C n c g hg Tryd.underlying22 Tryd.underlying5
  clear hH
  go_enter Tryd.func7, Tryd.ntmps7
  go_wp2_with fail
  refine (code_sum _ [49, 50, 51, 52, 53, 54, 55, 56, 57] 9 9 _ HH.out rfl hx (by decide)).mono ?_
  rintro e w1 ⟨rfl, rfl⟩
  rw [crc_check]
  go_wp2
  go_ret
  exact ⟨rfl, A0⟩

theorem code_frame (a : Option Addr) (xs : List UInt8) (n c : Nat) (w : World) (hH : HalvesAt w) (hn : xs.length = n) (hx : IsBytes w a xs) (hnc : a = none → c = 0) :
    Calls Tryd.prog 8 #[.slice a n c] w (FrameOut w xs) := by
  subst hn
  by_cases h : xs.length < 1 ∨ 60000 < xs.length
  · exact code_frame_no a xs _ c w rfl h
  · exact code_frame_yes a xs c w hH hx hnc h

set_option maxHeartbeats 800000 in
theorem sums_far (a : Option Addr) (n c : Nat) (w : World) (hH : HalvesAt w) (h : 70000 < n) :
    Calls Tryd.prog 3 #[.slice a n c] w fun e w' => e = .returned (.bool true) ∧ Below w.heap.size w w' := by
  have h1 : (70000 : Int) < n := by omega
  have HH := Lib.hid hH
  clear hH
  go_enter Tryd.func3, Tryd.ntmps3
  go_wp2_with fail
  refine (frame_awake _ HH.out).mono ?_
  rintro e w1 ⟨rfl, b1⟩
  go_wp2_with fail
  refine (frame_awake _ (HH.out.below b1)).mono ?_
  rintro e w2 ⟨rfl, b2⟩
  go_wp2
  go_ret
  exact ⟨rfl, b1.trans (b2.mono b1.size)⟩

set_option maxHeartbeats 1600000 in
theorem sums_near (a : Option Addr) (xs : List UInt8) (n c : Nat) (w : World) (hH : HalvesAt w) (hn : xs.length = n) (hx : IsBytes w a xs) (hnc : a = none → c = 0) (hc : n ≤ c) (hcm : c ≤ maxLen) (h : ¬ 70000 < n) :
    Calls Tryd.prog 3 #[.slice a n c] w fun e w' => e = .returned (.bool true) ∧ Below w.heap.size w w' := by
  have h1 : ¬ (70000 : Int) < n := by omega
  have HH := Lib.hid hH
  have HN := Lib.hid hn
  have hnm : n ≤ maxLen := Nat.le_trans hc hcm
  clear hH hn
  go_enter Tryd.func3, Tryd.ntmps3
  go_wp2_with fail
  refine (frame_awake _ HH.out).mono ?_
  rintro e w1 ⟨rfl, b1⟩
  have hx1 := hx.below b1
  go_wp2_with fail
  refine (code_frame a xs n c w1 (HH.out.below b1) HN.out hx1 hnc).mono ?_
  rintro e w2 ⟨af, m, cf, er, rfl, hmm, hbad, hok, b2⟩
  have B2 := b1.trans (b2.mono b1.size)
  have hx2 := hx.below B2
  rw [HN.out] at hbad hok
  have HB := Lib.hid hbad
  have HO := Lib.hid hok
  clear hbad hok
  go_wp2_with fail
  refine (code_sum a xs n c w2 (HH.out.below B2) HN.out hx2 hnm).mono ?_
  rintro e w3 ⟨rfl, rfl⟩
  go_wp2_with fail
  refine (sum_ref a xs n c w2 HN.out hx2 hnm).mono ?_
  rintro e w4 ⟨rfl, rfl⟩
  by_cases hq : n < 1 ∨ 60000 < n
  · obtain ⟨rfl, rfl⟩ := HB.out hq
    have HQ := Lib.hid hq
    clear hq
    by_cases hq1 : n < 1
    · have hq1' : (n : Int) < 1 := by omega
      go_wp2
      go_ret
      exact ⟨rfl, B2⟩
    · have hq1' : ¬ (n : Int) < 1 := by omega
      have hq2' : (60000 : Int) < n := by have := HQ.out; omega
      go_wp2
      go_ret
      exact ⟨rfl, B2⟩
  · obtain ⟨rfl, rfl, hy, hr⟩ := HO.out hq
    have hq1' : ¬ (n : Int) < 1 := by omega
    have hq2' : ¬ (60000 : Int) < n := by omega
    have HFL : Hid ((frameOf xs).length = 7 + n) := by
      show (frameOf xs).length = 7 + n
      rw [frameOf_len, HN.out]
    clear hr hq
    go_wp2_with fail
    refine (frame_ref a xs n c w2 HN.out hx2 hnc (by omega)).mono ?_
    rintro e w4 ⟨⟨a4, c4, rfl, hr4⟩, b4⟩
    obtain ⟨g4, -, -, -, -⟩ := bytes_of_row hr4
    have B4 := B2.trans (b4.mono B2.size)
    go_wp2_with fail
    refine (bytes_any af a4 (7 + n) (7 + n) cf c4 (frameOf xs) (frameOf xs) w4 HFL.out HFL.out (hy.below b4) g4 hmm hmm).mono ?_
    rintro e w5 ⟨rfl, b5⟩
    have ed : decide (frameOf xs = frameOf xs) = true := by simp
    rw [ed]
    have B5 := B4.trans (b5.mono B4.size)
    clear ed
    go_wp2
    go_ret
    exact ⟨rfl, B5⟩

theorem sums_contract (W : World) (args : Array Value) (hL : laidMetH Tryd.prog halvesLaid W) (h : Each Tryd.prog W Tryd.f3.params.toList args.toList) :
    Calls Tryd.prog 3 args W fun e W' => e = .returned (.bool true) ∧ Below W.heap.size W W' := by
  rw [Tryd.params3] at h
  obtain ⟨v0, e0, ⟨_, o0⟩, d0⟩ := each_one h
  obtain ⟨args⟩ := args
  obtain rfl : args = [v0] := e0
  obtain ⟨a, n, c, rfl, hc0⟩ := val_slice o0 Tryd.underlying22
  rw [hc0] at d0
  obtain ⟨a', c', xs, e, h1, h2, h3, h4⟩ := d0.bytes Tryd.underlying22 Tryd.underlying5 cells_u8'
  injection e with e _
  injection e with e1 e2 e3
  subst e1 e2 e3
  have hH := halves_of_laid hL
  by_cases hbig : 70000 < xs.length
  · exact sums_far _ _ _ W hH hbig
  · exact sums_near _ _ _ _ W hH rfl h3 h4 h1 h2 hbig

theorem sums_lifted (os : Os) (started : os.Started) (H : Type) (enc : TypeId × Value → H) :
    ReturnsInHanded {} Tryd.checked os 3 .any (fun w args => (Rows.frameSumsSpec.pre enc Tryd.prog Tryd.f3 [] false w args ∧ laidMetH Tryd.prog halvesLaid w) ∧ sizedMet enc Tryd.prog Tryd.f3 (OpenSpec.ofChange Rows.frameSumsSpec) false w args)
      (Rows.frameSumsSpec.post enc Tryd.prog Tryd.f3 false true false false) :=
  law_lifted_laid (C := Tryd.checked) frame_own frame_laidOut (by kernel_rfl) Tryd.func3 rfl (tb := 4) rfl Tryd.underlying4
    (by
      rw [Tryd.params3]; intro t ht; simp at ht
      rcases ht with rfl; exact ⟨by kernel_rfl, of_decide_eq_true (by kernel_rfl)⟩)
    (fun H ds hl => by
      rw [Tryd.params3] at hl
      match ds, hl with
      | [d1], _ => rfl)
    os started H enc
    (ChangeSpec.witness_shaped (enc := enc) (C := Tryd.checked) (os := os) (X := fun w _ => laidMetH Tryd.prog halvesLaid w) false (World.doorLaid Tryd.prog 14 os) #[.slice none 0 0] 8 rfl (World.shaped_of_RefB (by kernel_rfl) (by kernel_rfl)) (by kernel_rfl) (by kernel_rfl) (by kernel_rfl) (door_met os _))
    sums_contract

theorem frameSums_holds : Rows.FrameSumsSaid :=
  OpenClaim.holds_of_wide 3 Tryd.f3 rfl rfl rfl rfl rfl rfl rfl ⟨rfl, rfl, rfl, rfl, rfl⟩ rfl rfl rfl rfl rfl (by kernel_rfl) Tryd.func3 (by kernel_rfl)
    (of_decide_eq_true (by kernel_rfl)) (by unfold Func.isWrapper; first | (rw [if_pos (by decide +kernel)]; kernel_rfl) | (rw [if_neg (by decide +kernel)]; exact ⟨rfl, rfl⟩))
    (fun os started H enc _ => sums_lifted os started H enc)

theorem frameSums_card : Rows.FrameSumsCardSaid :=
  Claim7.holds_tied_plain_at .later [] [.data] true _ false
    frameSums_holds (fun _ h => by cases h) (by kernel_rfl) (fun _ h => by cases h) frameSums_row_tie rfl ⟨rfl, rfl⟩ (by kernel_rfl) rfl
    (fun f fn hf hfn => by
      obtain rfl : f = 3 := Option.some.inj ((show Tryd.prog.funcNamed "recoup/recouplaw03.FrameSums" = some 3 by kernel_rfl).symm.trans hf) |>.symm
      obtain rfl : fn = Tryd.f3 := (Option.some.inj (Tryd.func3.symm.trans hfn)).symm
      exact ⟨by kernel_rfl, fun j t ht => by
        rw [Tryd.params3] at ht
        have hm : t ∈ [22] := by simpa using Array.mem_of_getElem? ht
        have hall : ([22].all fun u => !Tryd.prog.wantsStandIn u) = true := by kernel_rfl
        exact (show Tryd.prog.wantsStandIn t = false by simpa using List.all_eq_true.1 hall t hm)⟩)
    (by kernel_rfl)
#print axioms frameSums_card
end Go.Proofs.YtdbngmnpfcdhdaaDoor
