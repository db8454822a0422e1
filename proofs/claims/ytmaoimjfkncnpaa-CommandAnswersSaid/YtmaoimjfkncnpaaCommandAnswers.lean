/-
  CommandAnswers: any answer is encoded, and decoded as the same, or refused; any nine bytes are one. No conditions: every input.
-/
import Derived.Test.YtmaoimjfkncnpaaCmAns
namespace Go.Proofs.Ytmaoimjfkncnpaa
open Go.RowKit Go.WideShapes
set_option maxRecDepth 100000

theorem numLe_one {xs : List UInt8} (h : 0 < xs.length) : ((numLe (xs.take 1) : Nat) : Int) = (xs[0].toNat : Int) := by
  cases xs with
  | nil => simp at h
  | cons x xs => simp [numLe]
theorem ans_back {er va : Int} (hf : fits er 1 = true) (hv : I64 va) : ((numLe ((ansBytes er va).take 1) : Nat) : Int) = er ∧ wrap64 ((numLe ((ansBytes er va).drop 1) : Nat) : Int) = va := by
  have e1 : (ansBytes er va).take 1 = le er 1 := by
    unfold ansBytes
    rw [List.take_append_of_le_length (by rw [le_length]; omega), List.take_of_length_le (by rw [le_length]; omega)]
  have e2 : (ansBytes er va).drop 1 = le (IntKind.u64.wrap va) 8 := by
    unfold ansBytes
    rw [List.drop_append_of_le_length (by rw [le_length]; omega), List.drop_of_length_le (by rw [le_length]; omega), List.nil_append]
  rw [e1, e2]
  refine ⟨numLe_fits hf, ?_⟩
  obtain ⟨l0, l1⟩ := u64_lo va
  obtain ⟨m, hm⟩ := Int.eq_ofNat_of_zero_le l0
  rw [hm, numLe_le, Nat.mod_eq_of_lt (by have : (2 : Nat) ^ (8 * 8) = 18446744073709551616 := by decide
                                         omega)]
  have e := IntKind.wrap_u64 va
  rw [hm] at e
  unfold I64 at hv
  unfold wrap64
  omega

set_option maxHeartbeats 8000000 in
theorem commandAnswers_law (er va : Int) (her : I64 er) (hva : I64 va) (a : Option Addr) (xs : List UInt8) (n c : Nat) (w : World) (hn : xs.length = n) (hx : IsBytes w a xs) (hnc : a = none → c = 0) (hc : n ≤ c) (hcm : c ≤ maxLen) :
    Calls Try.prog 6 #[.agg #[.int .i64 er, .int .i64 va], .slice a n c] w fun e w' => e = .returned (.bool true) ∧ Below w.heap.size w w' := by
  obtain ⟨y0, y1⟩ := ans_cells w 43 er va
  have HB : Aside (Below w.heap.size w (w.alloc (.cells #[.int .i64 er, .int .i64 va] 43))) := upd_box _
  have hl1 : w.heap.size < (w.alloc (.cells #[.int .i64 er, .int .i64 va] 43)).heap.size := by simp
  have HN := Lib.hid hn
  have HX : Aside (IsBytes w a xs) := hx
  have HNC := Lib.hid hnc
  have HCC : Hid (n ≤ c ∧ c ≤ maxLen) := ⟨hc, hcm⟩
  have HV := Lib.hid hva
  have HER := Lib.hid her
  clear hn hx hnc hc hcm hva her
  go_enter Try.func6, Try.ntmps6
  go_wp2_with fail
  obtain ⟨g1, hg1⟩ : ∃ g, g = w.heap.size := ⟨_, rfl⟩
  rw [← hg1] at y0 y1 hl1 ⊢
  have HG1 : Hid (w.heap.size ≤ g1) := by show _ ≤ _; omega
  clear hg1
  generalize w.alloc (.cells #[.int .i64 er, .int .i64 va] 43) = W at *
  refine Calls.mono (cm_awake _) ?_
  rintro e w1 ⟨rfl, b1⟩
  have HB1 : Aside (Below w.heap.size w w1) := HB.out.trans (b1.mono HB.out.size)
  have z0 := (b1.cell (p := ⟨g1, 0, none⟩) hl1).trans y0
  have z1 := (b1.cell (p := ⟨g1, 1, none⟩) hl1).trans y1
  have hl2 : g1 < w1.heap.size := Nat.lt_of_lt_of_le hl1 b1.size
  clear HB b1 y0 y1 hl1
  by_cases h : 100 < n
  · have h400 : (100 : Int) < (n : Int) := by omega
    go_wp2_with fail
    refine Calls.mono (cm_awake _) ?_
    rintro e w2 ⟨rfl, b2⟩
    have HBF : Aside (Below w.heap.size w w2) := HB1.out.trans (b2.mono HB1.out.size)
    clear HB1 b2 z0 z1 hl2
    go_wp2
    go_ret
    exact ⟨rfl, HBF.out⟩
  · have h400 : ¬ (100 : Int) < (n : Int) := by omega
    have hn100 : n ≤ 100 := by omega
    clear h
    have HC : Aside _ := cm_encA er va HER.out w1
    go_wp2_with fail
    refine Calls.mono HC.out ?_
    rintro e w2 ⟨he, b2⟩
    have HB2 : Aside (Below w.heap.size w w2) := HB1.out.trans (b2.mono HB1.out.size)
    have y0 := (b2.cell (p := ⟨g1, 0, none⟩) hl2).trans z0
    have y1 := (b2.cell (p := ⟨g1, 1, none⟩) hl2).trans z1
    have hl3 : g1 < w2.heap.size := Nat.lt_of_lt_of_le hl2 b2.size
    clear HB1 b2 z0 z1 hl2 HC
    rcases he with ⟨hf, a1, c1, rfl, r1, r2⟩ | ⟨hf, rfl⟩
    · have hr : 0 ≤ er ∧ er ≤ 255 := by simp [fits] at hf; omega
      obtain ⟨hr0, hr1⟩ := hr
      have hr2 : ¬ er < 0 := by omega
      have hr3 : ¬ 255 < er := by omega
      have HF := Lib.hid hf
      have HC : Aside _ := cm_decA a1 (ansBytes er va) 9 c1 w2 (ansBytes_length er va) r1 r2 (by decide)
      clear hf r1 r2
      go_wp2_with fail
      refine Calls.mono HC.out ?_
      rintro e w3 ⟨hd, b3⟩
      have HB3 : Aside (Below w.heap.size w w3) := HB2.out.trans (b3.mono HB2.out.size)
      have z0 := (b3.cell (p := ⟨g1, 0, none⟩) hl3).trans y0
      have z1 := (b3.cell (p := ⟨g1, 1, none⟩) hl3).trans y1
      have hl4 : g1 < w3.heap.size := Nat.lt_of_lt_of_le hl3 b3.size
      clear HB2 b3 y0 y1 hl3 HC
      rcases hd with ⟨-, rfl⟩ | ⟨h9, -⟩
      · obtain ⟨e1, e2⟩ := ans_back HF.out HV.out
        rw [e1, e2]
        clear e1 e2
        go_upto_region 7 with (refine wpList_store_new rfl 43 _ _ rfl _ _ rfl rfl (by kernel_rfl) rfl rfl ?_)
        have HB4 : Aside (Below w.heap.size w (w3.alloc (.cells #[.int .i64 er, .int .i64 va] 43))) := blw_alloc HB3.out _
        have y0 : (w3.alloc (.cells #[.int .i64 er, .int .i64 va] 43)).cell? ⟨g1, 0, none⟩ = _ := (Below.cell (p := ⟨g1, 0, none⟩) (upd_box _) hl4).trans z0
        have y1 : (w3.alloc (.cells #[.int .i64 er, .int .i64 va] 43)).cell? ⟨g1, 1, none⟩ = _ := (Below.cell (p := ⟨g1, 1, none⟩) (upd_box _) hl4).trans z1
        obtain ⟨d0, d1⟩ := ans_cells w3 43 er va
        obtain ⟨g7, hg7⟩ : ∃ g, g = w3.heap.size := ⟨_, rfl⟩
        rw [← hg7] at d0 d1 ⊢
        clear hg7 HB3 z0 z1 hl4
        generalize w3.alloc (.cells #[.int .i64 er, .int .i64 va] 43) = w4 at *
        have hq : ∀ k, (Op.equalIn (k + 2) 43 (.agg #[.int .i64 er, .int .i64 va]) (.agg #[.int .i64 er, .int .i64 va])).run Try.prog w4 = .ok true w4 := fun k => by
          rw [run_equal_ans]
          simp [sameA]
        have hq' := hq 9997
        have hq'' := hq 9998
        clear hq
        go_upto_region 9 with (fail)
        have HC : Aside _ := cm_decA a xs n c w4 HN.out (HX.out.below HB4.out) HNC.out (by omega)
        clear hq' hq'' y0 y1 d0 d1
        go_wp2_with fail
        refine Calls.mono HC.out ?_
        rintro e w5 ⟨hd, b5⟩
        have HB5 : Aside (Below w.heap.size w w5) := HB4.out.trans (b5.mono HB4.out.size)
        clear HC b5 HB4
        rcases hd with ⟨h9, rfl⟩ | ⟨h9, rfl⟩
        · obtain rfl : 9 = n := by have := HN.out; omega
          have hl0 : 0 < xs.length := by omega
          have e1 := numLe_one hl0
          rw [e1]
          have hbb : (0 : Int) ≤ (xs[0].toNat : Int) ∧ (xs[0].toNat : Int) ≤ 255 := by have := xs[0].toNat_lt; omega
          obtain ⟨hb0, hb1⟩ := hbb
          have hX5 := HX.out.below HB5.out
          obtain ⟨ab, ao, ha, hab, hac⟩ : ∃ b o, a = some ⟨b, o, none⟩ ∧ b < w5.heap.size ∧ ∀ i (h : i < xs.length), w5.cell? ⟨b, o + i, none⟩ = some (.int .u8 (xs[i].toNat : Int)) := by
            rcases hX5 with e | e
            · rw [e] at hl0; exact absurd hl0 (Nat.lt_irrefl 0)
            · exact e
          have hk0 := hac 0 hl0
          rw [Nat.add_zero] at hk0
          have HD : Aside (IsBytes w5 (some ⟨ab, ao + 1, none⟩) (xs.drop 1)) := by
            refine .inr ⟨ab, ao + 1, rfl, hab, fun i hi => ?_⟩
            have hi' : i + 1 < xs.length := by rw [List.length_drop] at hi; omega
            rw [show ao + 1 + i = ao + (i + 1) by omega, hac (i + 1) hi', List.getElem_drop]
            congr 3
            simp [Nat.add_comm]
          have HNU : Aside (∀ X, IsBytes X (some ⟨ab, ao + 1, none⟩) (xs.drop 1) → ∀ cc, Calls Try.prog 21 #[.slice (some ⟨ab, ao + 1, none⟩) 8 cc] X fun e w' => e = .returned (.int .u64 ((u64r (numLe (xs.drop 1)) : Nat) : Int)) ∧ X = w') := fun X hX cc => number_ref _ _ 8 cc X (by rw [List.length_drop]; omega) hX (by decide)
          have hu : u64r (numLe (xs.drop 1)) = numLe (xs.drop 1) := u64r_small (by
            have h1 := numLe_lt (xs.drop 1)
            have h2 : (xs.drop 1).length = 8 := by rw [List.length_drop]; omega
            rw [h2] at h1
            have : (256 : Nat) ^ 8 = 2 ^ 64 := by decide
            omega)
          rw [hu] at HNU
          have hn0 : (0 : Int) ≤ ((numLe (xs.drop 1) : Nat) : Int) := by omega
          have hc9 : 9 ≤ c := HCC.out.1
          have hc9' : (9 : Int) ≤ (c : Int) := by omega
          have hc1 : ¬ c = 1 := by omega
          subst ha
          clear h9 e1 hac hX5 hu HN HX HNC
          generalize ((numLe (xs.drop 1) : Nat) : Int) = nv at *
          generalize (xs[0].toNat : Int) = bv at *
          clear hl0
          go_upto_region 12 with (refine wpList_store_new rfl 43 _ _ rfl _ _ rfl rfl (by kernel_rfl) rfl rfl ?_)
          have HB6 : Aside (Below w.heap.size w (w5.alloc (.cells #[.int .i64 bv, .int .i64 (wrap64 nv)] 43))) := blw_alloc HB5.out _
          obtain ⟨d0, d1⟩ := ans_cells w5 43 bv (wrap64 nv)
          have hlt : w5.heap.size < (w5.alloc (.cells #[.int .i64 bv, .int .i64 (wrap64 nv)] 43)).heap.size := by simp
          have hk6 : (w5.alloc (.cells #[.int .i64 bv, .int .i64 (wrap64 nv)] 43)).cell? ⟨ab, ao, none⟩ = some (.int .u8 bv) := (Below.cell (p := ⟨ab, ao, none⟩) (upd_box _) hab).trans hk0
          have hab6 : ab < (w5.alloc (.cells #[.int .i64 bv, .int .i64 (wrap64 nv)] 43)).heap.size := by simp; omega
          have HD6 : Aside (IsBytes (w5.alloc (.cells #[.int .i64 bv, .int .i64 (wrap64 nv)] 43)) (some ⟨ab, ao + 1, none⟩) (xs.drop 1)) := HD.out.below (upd_box _)
          obtain ⟨g9, hg9⟩ : ∃ g, g = w5.heap.size := ⟨_, rfl⟩
          rw [← hg9] at d0 d1 hlt ⊢
          clear hg9 HB5 hk0 hab HD
          generalize w5.alloc (.cells #[.int .i64 bv, .int .i64 (wrap64 nv)] 43) = v at *
          have HNV : Aside (∀ X, Below v.heap.size v X → ∀ cc, Calls Try.prog 21 #[.slice (some ⟨ab, ao + 1, none⟩) 8 cc] X fun e w' => e = .returned (.int .u64 nv) ∧ Below v.heap.size v w') := fun X hX cc => by
            refine (HNU.out X (HD6.out.below hX) cc).mono ?_
            rintro e w' ⟨rfl, rfl⟩
            exact ⟨rfl, hX⟩
          have hwb : IntKind.i64.wrap bv = bv := by rw [IntKind.wrap_i64]; omega
          have hwn : IntKind.i64.wrap nv = wrap64 nv := by rw [IntKind.wrap_i64]; unfold wrap64; omega
          have b0 := Below.refl v.heap.size v
          clear HNU HD6 HCC
          go_region_held3 (fun w' => Below v.heap.size v w' ∧ (∀ o, w'.cell? ⟨g9, o, none⟩ = v.cell? ⟨g9, o, none⟩) ∧ (∀ o, w'.cell? ⟨ab, o, none⟩ = v.cell? ⟨ab, o, none⟩))
            (refine ⟨?_, fun o => Below.cell (p := ⟨g9, o, none⟩) ?_ hlt, fun o => Below.cell (p := ⟨ab, o, none⟩) ?_ hab6⟩ <;> (with_reducible (repeat (first | assumption | refine Below.drew ?_))))
            ((first
              | (go_at_call 21; with_reducible refine Calls.mono (HNV.out _ ?_ _) ?_; (with_reducible (repeat (first | assumption | refine Below.drew ?_))); rintro e w31 ⟨rfl, b31⟩)))
          all_goals
            have HBF : Aside (Below w.heap.size w w31) := HB6.out.trans (b31.mono HB6.out.size)
            clear b31 b0 d0 d1 hk6
            go_wp2
            go_ret
            exact ⟨rfl, HBF.out⟩
        · have hne : ¬ n = 9 := by have := HN.out; omega
          have hne' : (((n : Int)) != 9) = true := by rw [bne_iff_ne]; omega
          go_upto_region 10 with (refine wpList_store_new rfl 43 _ _ rfl _ _ rfl rfl (by kernel_rfl) rfl rfl ?_)
          have HB6 : Aside (Below w.heap.size w (w5.alloc (.cells #[.int .i64 0, .int .i64 0] 43))) := blw_alloc HB5.out _
          obtain ⟨d0, d1⟩ := ans_cells w5 43 0 0
          have hlt : w5.heap.size < (w5.alloc (.cells #[.int .i64 0, .int .i64 0] 43)).heap.size := by simp
          obtain ⟨g9, hg9⟩ : ∃ g, g = w5.heap.size := ⟨_, rfl⟩
          rw [← hg9] at d0 d1 hlt ⊢
          clear hg9 HB5
          generalize w5.alloc (.cells #[.int .i64 0, .int .i64 0] 43) = w6 at *
          have hq : ∀ k, (Op.equalIn (k + 2) 43 (.agg #[.int .i64 0, .int .i64 0]) (.agg #[.int .i64 0, .int .i64 0])).run Try.prog w6 = .ok true w6 := fun k => by
            rw [run_equal_ans]
            rfl
          have hq' := hq 9997
          have hq'' := hq 9998
          clear hq h9 hne
          go_wp2
          go_ret
          exact ⟨rfl, HB6.out⟩
      · exact absurd (ansBytes_length er va) h9
    · have hr : ¬ (0 ≤ er ∧ er ≤ 255) := by simp [fits] at hf; omega
      clear hf
      by_cases h0 : er < 0
      · clear hr
        go_wp2
        go_ret
        exact ⟨rfl, HB2.out⟩
      · have h1 : 255 < er := by omega
        clear hr
        go_wp2
        go_ret
        exact ⟨rfl, HB2.out⟩

theorem commandAnswers_contract (W : World) (args : Array Value) (h : Each Try.prog W Try.f6.params.toList args.toList) :
    Calls Try.prog 6 args W fun e W' => e = .returned (.bool true) ∧ Below W.heap.size W W' := by
  rw [Try.params6] at h
  obtain ⟨v0, r0, e0, ⟨_, o0⟩, d0, h⟩ := h.cons
  obtain ⟨v1, r1, rfl, ⟨_, o1⟩, d1, h⟩ := h.cons
  obtain rfl := h.nil
  obtain ⟨args⟩ := args
  obtain rfl : args = [v0, v1] := e0
  obtain ⟨er0, va0, rfl, her0, hva0⟩ := val_ans o0 d0
  obtain ⟨sa1, sn1, sc1, rfl, hsc1⟩ := val_slice o1 Try.underlying26
  rw [hsc1] at d1
  obtain ⟨a1', c1', xs1, e, h1, h2, h3, h4⟩ := d1.bytes Try.underlying26 Try.underlying5 (by kernel_rfl)
  injection e with e _
  injection e with e1 e2 e3
  subst e1 e2 e3
  exact commandAnswers_law er0 va0 her0 hva0 sa1 xs1 xs1.length sc1 W rfl h3 h4 h1 h2

theorem commandAnswers_lifted (os : Os) (started : os.Started) (H : Type) (enc : TypeId × Value → H) :
    ReturnsInHanded {} Try.checked os 6 .any (Rows.commandAnswersSpec.pre6 enc Try.prog Try.f6 Rows.commandAnswersRow.domain false) (Rows.commandAnswersSpec.post enc Try.prog Try.f6 false true false false) :=
  law_lifted (C := Try.checked) seat_own seat_laid (by kernel_rfl) Try.func6 rfl (tb := 4) rfl Try.underlying4
    (by
      rw [Try.params6]; intro t ht; simp at ht
      rcases ht with rfl | rfl <;> exact ⟨by kernel_rfl, of_decide_eq_true (by kernel_rfl)⟩)
    (fun H ds hl => by
      rw [Try.params6] at hl
      match ds, hl with
      | [d1, d2], _ => rfl)
    os started H enc
    (ChangeSpec.witness6 (enc := enc) (C := Try.checked) false ⟨#[], #[.agg #[.int .i64 0, .int .i64 0], .slice none 0 0], []⟩ 8 (by kernel_rfl) (by kernel_rfl) (by kernel_rfl) (by kernel_rfl))
    commandAnswers_contract

theorem commandAnswers_holds : Rows.CommandAnswersSaid :=
  OpenClaim.holds_of_wide 6 Try.f6 rfl rfl rfl rfl rfl rfl rfl ⟨rfl, rfl, rfl, rfl, rfl⟩ rfl rfl rfl rfl rfl (by kernel_rfl) Try.func6 (by kernel_rfl)
    (of_decide_eq_true (by kernel_rfl)) (by unfold Func.isWrapper; first | (rw [if_pos (by decide +kernel)]; kernel_rfl) | (rw [if_neg (by decide +kernel)]; exact ⟨rfl, rfl⟩))
    (fun os started H enc _ => commandAnswers_lifted os started H enc)
#print axioms commandAnswers_holds
end Go.Proofs.Ytmaoimjfkncnpaa
