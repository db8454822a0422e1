/-
  The law TimerClones of layer 12 returns true whatever its arguments are, and leaves them as they were. No condition.
-/
import Derived.Test.YtoeiliaaidmmkaaTimSides
import Derived.Test.YtoeiliaaidmmkaaTimClone
import Derived.StillTailTactics
namespace Go.Proofs.Ytoeiliaaidmmkaa
open Go.RowKit
set_option maxRecDepth 100000

theorem timerClones_many (a b : Option Addr) (n r ca cb : Nat) (w : World) (h : 60 < n) : Calls Try.prog 5 #[.slice a n ca, .slice b r cb] w fun e w' => e = .returned (.bool true) ∧ Below w.heap.size w w' := by
  have h1 : (60 : Int) < (n : Int) := by omega
  go_enter Try.func5, Try.ntmps5
  go_wp2_with fail
  refine Calls.mono (tim_awake _) ?_
  rintro e w1 ⟨rfl, b1⟩
  go_wp2_with fail
  refine Calls.mono (tim_awake _) ?_
  rintro e w2 ⟨rfl, b2⟩
  go_wp2
  go_ret
  exact ⟨rfl, b1.trans (b2.mono b1.size)⟩
theorem timerClones_long (a b : Option Addr) (n r ca cb : Nat) (w : World) (h : n ≤ 60) (hr : 60 < r) : Calls Try.prog 5 #[.slice a n ca, .slice b r cb] w fun e w' => e = .returned (.bool true) ∧ Below w.heap.size w w' := by
  have h1 : ¬ (60 : Int) < (n : Int) := by omega
  have h2 : (60 : Int) < (r : Int) := by omega
  go_enter Try.func5, Try.ntmps5
  go_wp2_with fail
  refine Calls.mono (tim_awake _) ?_
  rintro e w1 ⟨rfl, b1⟩
  go_wp2_with fail
  refine Calls.mono (tim_awake _) ?_
  rintro e w2 ⟨rfl, b2⟩
  go_wp2
  go_ret
  exact ⟨rfl, b1.trans (b2.mono b1.size)⟩

set_option maxHeartbeats 8000000 in
theorem timerClones_ok (a b : Option Addr) (n r ca cb : Nat) (xs : List Tm) (g : Nat → Sct) (w : World) (hn : n ≤ 60) (hr : r ≤ 60) (hl : xs.length = n) (hx : TRow w a xs) (hw : ∀ x ∈ xs, W64 x.2) (hg : ActRow w b r g) (hgw : ∀ k, W64 (g k).A) :
    Calls Try.prog 5 #[.slice a n ca, .slice b r cb] w fun e w' => e = .returned (.bool true) ∧ Below w.heap.size w w' := by
  subst hl
  have h1 : ¬ (60 : Int) < (xs.length : Int) := by omega
  have h2 : ¬ (60 : Int) < (r : Int) := by omega
  have HX : Aside (TRow w a xs) := hx
  have HW : Aside (∀ x ∈ xs, W64 x.2) := hw
  have HG : Aside (ActRow w b r g) := hg
  have HGW : Aside (∀ k, W64 (g k).A) := hgw
  clear hx hw hg hgw
  go_enter Try.func5, Try.ntmps5
  go_wp2_with fail
  refine Calls.mono (tim_awake _) ?_
  rintro e w1 ⟨rfl, b1⟩
  have HB1 : Aside (Below w.heap.size w w1) := b1
  have BF : Aside (Beside w1.heap.size w1.heap.size w1 (w1.alloc (.cells #[.slice none 0 0, .map none] 30)) []) := bes_fresh w1
  clear b1
  go_upto_region 4 with (fail)
  show Code.wp _ _ _ _ (w1.alloc (.cells #[.slice none 0 0, .map none] 30))
  generalize w1.alloc (.cells #[.slice none 0 0, .map none] 30) = w2 at *
  have HBX : Aside (∀ W, Below w1.heap.size w1 W → Below w.heap.size w W) := fun W h => HB1.out.trans (h.mono HB1.out.size)
  obtain ⟨B, hB⟩ : ∃ B, B = w1.heap.size := ⟨_, rfl⟩
  rw [← hB] at BF HBX ⊢
  clear hB HB1
  go_wp2
  go_loopw [28] (fun s wr => ∃ (k : Nat) (ys : List Tm), k ≤ xs.length ∧ ys.length ≤ k ∧ s = .int .i64 k ∧ Aside (Beside B B w1 wr ys)) (fun s _ => xs.length - (intOf s).toNat)
  case atStart => exact ⟨0, [], Nat.zero_le _, Nat.le_refl _, rfl, BF.out⟩
  case round =>
    clear BF
    obtain ⟨k, ys, hk, hy, rfl, HS⟩ := hrel
    by_cases hlt : k < xs.length
    · have hkz : (k : Int) < (xs.length : Int) := by omega
      obtain ⟨b1, o1, rfl, hb1, hc1⟩ := (HX.out.below (HBX.out _ HS.out.below)).at_ (by omega)
      obtain ⟨l0, l1⟩ := hc1 k hlt
      have HSET : Aside _ := bes_set (HS.out.after (Below.refl _ _).drew) (tget xs k).2 (tget xs k).1 (HW.out _ (mem_tget.2 ⟨k, hlt, rfl⟩)) (by omega)
      clear hc1 HS
      generalize tget xs k = x at *
      obtain ⟨d, q⟩ := x
      dsimp only at *
      go_upto_region 7 with (fail)
      go_still_tail 11, (by kernel_rfl)
      change wpList _ _ _ _ _ wr.drew
      go_wp2_with fail
      refine Calls.mono HSET.out ?_
      rintro e w3 ⟨rfl, zs, hz, pz⟩
      have lz := set_len pz
      have HZ : Aside (Beside B B w1 w3 zs) := hz
      clear hz pz HSET
      go_wp2
      go_roundw
      case rel => exact ⟨k + 1, zs, by omega, by omega, by go_num, HZ.out⟩
      case measure => simp [intOf]; omega
    · obtain rfl : k = xs.length := by omega
      obtain ⟨ws, hws, pws⟩ := sorted_of HS.out.st.nd
      have HAL : Aside _ := tim_all HS.out.st hws pws
      have HWS : Aside (Srt ws ∧ ws.Perm ys) := ⟨hws, pws⟩
      clear hws pws
      go_wp2_with fail
      refine Calls.mono HAL.out ?_
      rintro e w3 ⟨a3, c3, rfl, r3, b3⟩
      have R3 : Aside (TRow w3 a3 ws) := r3
      have S3 : Aside (Beside B B w1 w3 ys) := HS.out.after b3
      have HCL : Aside _ := tim_clone S3.out.st
      clear r3 b3 HAL HS
      go_wp2_with fail
      refine Calls.mono HCL.out ?_
      rintro e w4 ⟨q, rfl, h4, b4⟩
      have HC0 : Aside (Beside w3.heap.size q w4 w4 ys ∧ Below w3.heap.size w3 w4) := ⟨⟨h4, Below.refl _ _, b4.size⟩, b4⟩
      clear h4 b4 HCL
      have HSM : Aside (∀ W, Below w3.heap.size w3 W → Calls Try.prog 13 #[.pointer (some ⟨B, 0, none⟩), .slice a3 ws.length c3] W fun e w' => e = .returned (.bool true) ∧ Below W.heap.size W w') :=
        fun W hb => tim_same (S3.out.st.below hb) HWS.out.1 HWS.out.2 (R3.out.below hb) rfl
      have HB3 : Aside (Below w.heap.size w w3) := HBX.out _ S3.out.below
      clear R3 S3 HWS HBX HX HW
      go_wp2
      go_loopw [50] (fun s wr => ∃ (k : Nat) (zs : List Tm), k ≤ r ∧ zs.length ≤ 60 + k ∧ s = .int .i64 k ∧ Aside (Beside w3.heap.size q w4 wr zs)) (fun s _ => r - (intOf s).toNat)
      case atStart => exact ⟨0, ys, Nat.zero_le _, by omega, rfl, HC0.out.1⟩
      case round =>
        obtain ⟨k, zs, hk, hz, rfl, HC⟩ := hrel
        have HB34 : Aside (Below w3.heap.size w3 wr) := HC0.out.2.trans HC.out.below
        have HBW : Aside (Below w.heap.size w wr) := HB3.out.trans (HB34.out.mono HB3.out.size)
        by_cases hlt : k < r
        · have hkr : (k : Int) < (r : Int) := by omega
          have hk0 : (0 : Int) ≤ (k : Int) := by omega
          obtain ⟨bq, o, rfl, lq, cq⟩ := (HG.out : ActRow w b r g) (by omega)
          obtain ⟨x0, x1, x2⟩ := act_all ((cq k hlt).below HBW.out lq)
          have hA := HGW.out k
          have HCX : Aside (Beside w3.heap.size q w4 (wr.alloc (.cells (g k).arr 32)) zs) := HC.out.after (upd_box _)
          have AX := act_all (arr_new wr (g k).arr 32)
          clear cq HB34 HBW HC
          generalize g k = y at *
          obtain ⟨K, A, D⟩ := y
          unfold Sct.arr at HCX AX
          dsimp only at x0 x1 x2 hA HCX AX
          have HSET : Aside _ := bes_set HCX.out A D hA (by omega)
          have HSTP : Aside _ := bes_stop HCX.out A hA
          have HDUE : Aside (∃ ws, Srt ws ∧ ws.Perm zs) := sorted_of HCX.out.st.nd
          obtain ⟨vs, hvs, pvs⟩ := HDUE.out
          have HDU : Aside _ := bes_due HCX.out hvs pvs D
          have lvs := pvs.length_eq
          clear HDUE hvs pvs HCX
          obtain ⟨y0, y1, y2⟩ := AX
          rw [Nat.zero_add] at y1 y2
          go_upto_region 16 with (fail)
          show Code.wp _ _ _ _ (wr.alloc (.cells #[.int .u8 K, .int .i64 A, .int .i64 D] 32))
          generalize wr.alloc (.cells #[.int .u8 K, .int .i64 A, .int .i64 D] 32) = w5 at *
          by_cases hK : K < 3
          · clear x0 x1 x2 HSTP HDU
            go_wp2_with fail
            refine Calls.mono HSET.out ?_
            rintro e w6 ⟨rfl, us, hu, pu⟩
            have lu := set_len pu
            have HN : Aside (Beside w3.heap.size q w4 w6 us) := hu
            clear hu pu HSET y0 y1 y2
            go_wp2
            go_roundw
            case rel => exact ⟨k + 1, us, by omega, by omega, by go_num, HN.out⟩
            case measure => simp [intOf]; omega
          · by_cases hK3 : K = 3
            · subst hK3
              clear x0 x1 x2 HSET HDU
              go_wp2_with fail
              refine Calls.mono HSTP.out ?_
              rintro e w6 ⟨rfl, us, hu, pu⟩
              have lu := stop_len pu
              have HN : Aside (Beside w3.heap.size q w4 w6 us) := hu
              clear hu pu HSTP y0 y1 y2
              go_wp2
              go_roundw
              case rel => exact ⟨k + 1, us, by omega, by omega, by go_num, HN.out⟩
              case measure => simp [intOf]; omega
            · have hne : (K == 3) = false := by simpa using hK3
              clear x0 x1 x2 HSET HSTP hK3
              go_wp2_with fail
              refine Calls.mono HDU.out ?_
              rintro e w6 ⟨j, a6, c6, hj, rfl, _, _, _, _, us, hu, pu⟩
              have lu : us.length ≤ zs.length := by rw [pu.length_eq, List.length_drop]; omega
              have HN : Aside (Beside w3.heap.size q w4 w6 us) := hu
              clear hu pu HDU y0 y1 y2
              go_wp2
              go_roundw
              case rel => exact ⟨k + 1, us, by omega, by omega, by go_num, HN.out⟩
              case measure => simp [intOf]; omega
        · obtain rfl : k = r := by omega
          have HSX : Aside _ := HSM.out _ HB34.out
          clear HC HB34 HSM HC0 HG HGW
          go_wp2_with fail
          refine Calls.mono HSX.out ?_
          rintro e w6 ⟨rfl, b6⟩
          have HF : Aside (Below w.heap.size w w6) := HBW.out.trans (b6.mono HBW.out.size)
          clear b6
          go_wp2
          go_ret
          exact ⟨rfl, HF.out⟩

theorem timerClones_law (a b : Option Addr) (n r ca cb : Nat) (xs : List Tm) (g : Nat → Sct) (w : World) (hl : xs.length = n) (hx : TRow w a xs) (hw : ∀ x ∈ xs, W64 x.2) (hg : ActRow w b r g) (hgw : ∀ k, W64 (g k).A) :
    Calls Try.prog 5 #[.slice a n ca, .slice b r cb] w fun e w' => e = .returned (.bool true) ∧ Below w.heap.size w w' := by
  by_cases h1 : 60 < n
  · exact timerClones_many a b n r ca cb w h1
  by_cases h2 : 60 < r
  · exact timerClones_long a b n r ca cb w (by omega) h2
  exact timerClones_ok a b n r ca cb xs g w (by omega) (by omega) hl hx hw hg hgw

theorem timerClones_contract (W : World) (args : Array Value) (h : Each Try.prog W Try.f5.params.toList args.toList) :
    Calls Try.prog 5 args W fun e W' => e = .returned (.bool true) ∧ Below W.heap.size W W' := by
  rw [Try.params5] at h
  obtain ⟨v0, r0, e0, ⟨_, o0⟩, d0, h⟩ := h.cons
  obtain ⟨v1, r1, rfl, ⟨_, o1⟩, d1, h⟩ := h.cons
  obtain rfl := h.nil
  obtain ⟨args⟩ := args
  obtain rfl : args = [v0, v1] := e0
  obtain ⟨sa0, sn0, sc0, rfl, hsc0⟩ := val_slice o0 Try.underlying25
  rw [hsc0] at d0
  obtain ⟨xs0, hl0, hr0, hw0⟩ := tms_of d0
  obtain ⟨sa1, sn1, sc1, rfl, hsc1⟩ := val_slice o1 Try.underlying22
  rw [hsc1] at d1
  obtain ⟨g1, hg1, hw1⟩ := acts_of d1
  exact timerClones_law _ _ _ _ _ _ _ g1 W hl0 hr0 hw0 hg1 hw1

theorem timerClones_lifted (os : Os) (started : os.Started) (H : Type) (enc : TypeId × Value → H) :
    ReturnsInHanded {} Try.checked os 5 .any (Rows.timerClonesSpec.pre6 enc Try.prog Try.f5 Rows.timerClonesRow.domain false) (Rows.timerClonesSpec.post enc Try.prog Try.f5 false true false false) :=
  law_lifted (C := Try.checked) seat_own seat_laid (by kernel_rfl) Try.func5 rfl (tb := 4) rfl Try.underlying4
    (by
      rw [Try.params5]; intro t ht; simp at ht
      rcases ht with rfl | rfl <;> exact ⟨by kernel_rfl, of_decide_eq_true (by kernel_rfl)⟩)
    (fun H ds hl => by
      rw [Try.params5] at hl
      match ds, hl with
      | [d1, d2], _ => rfl)
    os started H enc
    (ChangeSpec.witness6 (enc := enc) (C := Try.checked) false ⟨#[], #[.slice none 0 0, .slice none 0 0], []⟩ 8 (by kernel_rfl) (by kernel_rfl) (by kernel_rfl) (by kernel_rfl))
    timerClones_contract

theorem timerClones_holds : Rows.TimerClonesSaid :=
  OpenClaim.holds_of_wide 5 Try.f5 rfl rfl rfl rfl rfl rfl rfl ⟨rfl, rfl, rfl, rfl, rfl⟩ rfl rfl rfl rfl rfl (by kernel_rfl) Try.func5 (by kernel_rfl)
    (of_decide_eq_true (by kernel_rfl)) (by unfold Func.isWrapper; first | (rw [if_pos (by decide +kernel)]; kernel_rfl) | (rw [if_neg (by decide +kernel)]; exact ⟨rfl, rfl⟩))
    (fun os started H enc _ => timerClones_lifted os started H enc)
#print axioms timerClones_holds
end Go.Proofs.Ytoeiliaaidmmkaa
