/-
  OrderReads: any bytes are a right config's, just those, or refused. No conditions: every input.
-/
import Derived.Test.YtbiompjhenkieaaGreatOrderLaw
import Derived.Test.YtbiompjhenkieaaGreatOrdDecode
import Derived.Test.YtbiompjhenkieaaGreatRefRight
import Derived.BigQuiet
namespace Go.Proofs.YtbiompjhenkieaaGreat
open Go.RowKit Go.WideShapes
set_option maxRecDepth 100000

theorem is_byte {w : World} {a : Option Addr} {xs : List UInt8} (h : IsBytes w a xs) {k : Nat} (hk : k < xs.length) : ∃ b off, a = some ⟨b, off, none⟩ ∧ b < w.heap.size ∧ w.cell? ⟨b, off + k, none⟩ = some (.int .u8 (xs[k].toNat : Int)) := by
  rcases h with rfl | ⟨b, off, e, hb, hc⟩
  · simp at hk
  · exact ⟨b, off, e, hb, hc k hk⟩

set_option maxHeartbeats 4000000 in
theorem orderReads_law (a : Option Addr) (xs : List UInt8) (n c : Nat) (w : World) (hn : xs.length = n) (hx : IsBytes w a xs) (hnc : a = none → c = 0) (hmc : n ≤ c) (hcm : c ≤ maxLen) :
    Calls Tryz.prog 4 #[.slice a n c] w fun e w' => e = .returned (.bool true) ∧ Below w.heap.size w w' := by
  by_cases h5 : n ≤ 10000
  · have h5' : ¬ 10000 < (n : Int) := by omega
    have HD : Aside (∀ W : World, Below w.heap.size w W → _) := fun W h => order_decode a n c xs W hn hmc hcm hnc h5 (hx.below h)
    have HX : Aside (IsBytes w a xs) := hx
    have HN := Lib.hid hn
    clear hn hx hnc hmc hcm
    go_enter Tryz.func4, Tryz.ntmps4
    go_wp2_with fail
    refine (order_awake _).mono ?_
    rintro e w1 ⟨rfl, b1⟩
    go_wp2_with fail
    refine (HD.out _ b1).mono ?_
    rintro e w2 ⟨hk, b2⟩
    have b3 := b1.trans (b2.mono b1.size)
    have HB3 : Aside _ := b3
    clear b2 b1 HD b3
    obtain ⟨-, rfl⟩ | ⟨bO, mo, do', bS, ms, ds, bT, mt, dt, D, rfl, hD, hf, hk, hq, hxs⟩ := hk
    · have hbox := arr_new w2 (cfgCells none 0 0 none 0 0 none 0 0) 26
      have HBX : Aside _ := hbox
      have HB4 : Aside (Below w.heap.size w (w2.alloc (.cells (cfgCells none 0 0 none 0 0 none 0 0) 26))) := HB3.out.alloc HB3.out.size _
      clear hbox HB3
      dsimp only [cfgCells]
      go_upto_region 4 with (fail)
      show Code.wp _ _ _ _ (w2.alloc (.cells (cfgCells none 0 0 none 0 0 none 0 0) 26))
      generalize w2.alloc (.cells (cfgCells none 0 0 none 0 0 none 0 0) 26) = w4 at *
      obtain ⟨c0, c1, c2⟩ := cfgAt_all HBX.out
      simp only [Nat.zero_add] at c0 c1 c2
      as_aux_lemma =>
        go_wp2
        go_ret
        exact ⟨rfl, HB4.out⟩
    · have hbox := arr_new w2 (cfgCells bO mo do' bS ms ds bT mt dt) 26
      have HBX : Aside _ := hbox
      have HB4 : Aside (Below w.heap.size w (w2.alloc (.cells (cfgCells bO mo do' bS ms ds bT mt dt) 26))) := HB3.out.alloc HB3.out.size _
      have HC : Aside (CfgIs (w2.alloc (.cells (cfgCells bO mo do' bS ms ds bT mt dt) 26)) bO mo bS ms bT mt D) := hD.below (Below.alloc (Below.refl _ _) (Nat.le_refl _) _)
      have HF := Lib.hid hf
      have HK := Lib.hid hk
      have HQ := Lib.hid hq
      have HXS := Lib.hid hxs
      clear hbox HB3 hD hf hk hq hxs
      dsimp only [cfgCells]
      go_upto_region 4 with (fail)
      show Code.wp _ _ _ _ (w2.alloc (.cells (cfgCells bO mo do' bS ms ds bT mt dt) 26))
      generalize w2.alloc (.cells (cfgCells bO mo do' bS ms ds bT mt dt) 26) = w4 at *
      obtain ⟨c0, c1, c2⟩ := cfgAt_all HBX.out
      simp only [Nat.zero_add] at c0 c1 c2
      go_wp2_with fail
      refine Calls.mono (order_encode _ _ _ _ _ _ _ _ _ D _ HC.out HF.out HK.out) ?_
      rintro e w5 ⟨⟨a5, n5, c5, rfl, hl, -, -, -, hb⟩, b5⟩
      have hE : errC D = 0 := by unfold errC; rw [HQ.out]; rfl
      rw [HQ.out, if_pos rfl, HXS.out] at hl hb
      rw [hE]
      have hln : n5 = n := by have := HN.out; omega
      subst hln
      have HBy : Aside (IsBytes w5 a5 xs) := hb
      have HBX5 : Aside _ := HBX.out.grown b5
      have HC5 : Aside _ := HC.out.below b5
      have HB5 : Aside _ := HB4.out.trans (b5.mono HB4.out.size)
      have hnn : ((n5 : Int) != (n5 : Int)) = false := by simp
      clear b5 HBX HC HB4 hb hl hE c0 c1 c2
      obtain ⟨c0, c1, c2⟩ := cfgAt_all HBX5.out
      simp only [Nat.zero_add] at c0 c1 c2
      go_wp2_with fail
      refine Calls.mono (ref_rightConfig _ _ _ _ _ _ _ _ _ D _ HC5.out) ?_
      rintro e w6 ⟨rfl, b6⟩
      rw [HQ.out]
      have HB6 : Aside _ := HB5.out.trans (b6.mono HB5.out.size)
      have HBy6 : Aside (IsBytes w6 a5 xs) := HBy.out.below b6
      have HX6 : Aside (IsBytes w6 a xs) := HX.out.below HB6.out
      clear b6 HBX5 HC5 HB5 HBy HX c0 c1 c2 HF HK HQ HXS hnn
      go_wp2
      go_loopw [64] (fun i wr => ∃ k : Nat, k ≤ n5 ∧ i = .int .i64 k ∧ Aside (Below w6.heap.size w6 wr)) (fun i _ => n5 - (intOf i).toNat)
      case atStart => exact ⟨0, Nat.zero_le _, rfl, Below.refl _ _⟩
      case round =>
        obtain ⟨k, hk, rfl, HR⟩ := hrel
        by_cases hlt : k < n5
        · have hkn : (k : Int) < (n5 : Int) := by omega
          have hk0 : (0 : Int) ≤ (k : Int) := by omega
          have hl : k < xs.length := by rw [HN.out]; exact hlt
          obtain ⟨g1, o1, rfl, hg1, z1⟩ := is_byte (HBy6.out.below HR.out) hl
          obtain ⟨g2, o2, rfl, hg2, z2⟩ := is_byte (HX6.out.below HR.out) hl
          generalize ((xs[k].toNat : Nat) : Int) = v at *
          have hvv : (v != v) = false := by simp
          have HRO : Aside (Below w6.heap.size w6 wr.drew) := HR.out.trans ⟨rfl, rfl, rfl, Nat.le_refl _, fun _ _ => rfl⟩
          clear HBy6 HX6 HB6 HN
          go_upto_region 12 with (fail)
          as_aux_lemma =>
            go_quiet (fail)
            as_aux_lemma =>
              go_wp2
              go_roundw
              case rel => exact ⟨k + 1, by omega, by go_num, HR.out.trans ⟨rfl, rfl, rfl, Nat.le_refl _, fun _ _ => rfl⟩⟩
              case measure => simp [intOf]; omega
        · obtain rfl : k = n5 := by omega
          have HB8 : Aside _ := HB6.out.trans (HR.out.mono HB6.out.size)
          clear HBy6 HX6 HB6 HN HR
          as_aux_lemma =>
            go_wp2
            go_ret
            exact ⟨rfl, HB8.out⟩
  · have h5' : 10000 < (n : Int) := by omega
    go_enter Tryz.func4, Tryz.ntmps4
    go_wp2_with fail
    refine (order_awake _).mono ?_
    rintro e w1 ⟨rfl, b1⟩
    go_wp2_with fail
    refine (order_awake _).mono ?_
    rintro e w2 ⟨rfl, b2⟩
    have b3 := b1.trans (b2.mono b1.size)
    go_wp2
    go_ret
    exact ⟨rfl, b3⟩

theorem orderReads_contract (W : World) (args : Array Value) (h : Each Tryz.prog W Tryz.f4.params.toList args.toList) :
    Calls Tryz.prog 4 args W fun e W' => e = .returned (.bool true) ∧ Below W.heap.size W W' := by
  rw [Tryz.params4] at h
  obtain ⟨v0, r0, e0, ⟨_, o0⟩, d0, h⟩ := h.cons
  obtain rfl := h.nil
  obtain ⟨args⟩ := args
  obtain rfl : args = [v0] := e0
  obtain ⟨sa0, sn0, sc0, rfl, hsc0⟩ := val_slice o0 Tryz.underlying29
  rw [hsc0] at d0
  obtain ⟨a0', c0', xs0, e, h1, h2, h3, h4⟩ := d0.bytes Tryz.underlying29 Tryz.underlying5 (by kernel_rfl)
  injection e with e _
  injection e with e1 e2 e3
  subst e1 e2 e3
  exact orderReads_law sa0 xs0 xs0.length sc0 W rfl h3 h4 h1 h2

theorem orderReads_lifted (os : Os) (started : os.Started) (H : Type) (enc : TypeId × Value → H) :
    ReturnsInHanded {} Tryz.checked os 4 .any (Rows.orderReadsSpec.pre6 enc Tryz.prog Tryz.f4 Rows.orderReadsRow.domain false) (Rows.orderReadsSpec.post enc Tryz.prog Tryz.f4 false true false false) :=
  law_lifted (C := Tryz.checked) seat_own seat_laid (by kernel_rfl) Tryz.func4 rfl (tb := 4) rfl Tryz.underlying4
    (by
      rw [Tryz.params4]; intro t ht; simp at ht
      obtain rfl := ht; exact ⟨by kernel_rfl, of_decide_eq_true (by kernel_rfl)⟩)
    (fun H ds hl => by
      rw [Tryz.params4] at hl
      match ds, hl with
      | [d1], _ => rfl)
    os started H enc
    (ChangeSpec.witness6 (enc := enc) (C := Tryz.checked) false ⟨#[], #[.slice none 0 0], []⟩ 8 (by kernel_rfl) (by kernel_rfl) (by kernel_rfl) (by kernel_rfl))
    orderReads_contract

theorem orderReads_holds : Rows.OrderReadsSaid :=
  OpenClaim.holds_of_wide 4 Tryz.f4 rfl rfl rfl rfl rfl rfl rfl ⟨rfl, rfl, rfl, rfl, rfl⟩ rfl rfl rfl rfl rfl (by kernel_rfl) Tryz.func4 (by kernel_rfl)
    (of_decide_eq_true (by kernel_rfl)) (by unfold Func.isWrapper; first | (rw [if_pos (by decide +kernel)]; kernel_rfl) | (rw [if_neg (by decide +kernel)]; exact ⟨rfl, rfl⟩))
    (fun os started H enc _ => orderReads_lifted os started H enc)
#print axioms orderReads_holds
end Go.Proofs.YtbiompjhenkieaaGreat
