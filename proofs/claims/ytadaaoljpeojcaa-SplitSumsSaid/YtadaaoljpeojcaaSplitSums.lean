/-
  SplitSums: shares come to the sum, none is below 0; each is by less than 1 what it would be; of the same weights an earlier one hasn't less. No conditions: every input.
-/
import Derived.Test.YtadaaoljpeojcaaShareSums
import Derived.Test.YtadaaoljpeojcaaSplitShares
namespace Go.Proofs.Ytadaaoljpeojcaa
open Go.RowKit Go.WideShapes
set_option maxRecDepth 100000

theorem ints_at {w : World} {a : Option Addr} {xs : List Int} (h : IsInts w a xs) (h0 : 0 < xs.length) : ∃ b off, a = some ⟨b, off, none⟩ ∧ b < w.heap.size ∧ ∀ i, i < xs.length → w.cell? ⟨b, off + i, none⟩ = some (.int .i64 (wt xs i)) := by
  rcases h with rfl | ⟨b, off, rfl, hb, hc⟩
  · simp at h0
  · refine ⟨b, off, rfl, hb, fun i hi => ?_⟩
    rw [hc i hi]
    simp [wt, List.getD, hi]

/-- The law, behind the call, where it is not refused. -/
structure Sums6 (s : Int) (ws zs : List Int) (n : Nat) : Prop where
  right : rightW ws = true
  sum : okW s = true
  all : ws.sum ≤ 1125899906842624
  told : Told6 s ws zs
  len : ws.length = n

set_option maxHeartbeats 4000000 in
theorem sums_law (s : Int) (a : Option Addr) (ws : List Int) (n c : Nat) (w : World) (hn : ws.length = n) (hx : IsInts w a ws) (hl : n ≤ maxLen) :
    Calls Try.prog 4 #[.int .i64 s, .slice a n c] w fun e w' => e = .returned (.bool true) ∧ Below w.heap.size w w' := by
  have hl2 := hl
  unfold maxLen at hl2
  by_cases hbig : 300 < n
  · have hb' : 300 < (n : Int) := by omega
    clear hx hn
    go_enter Try.func4, Try.ntmps4
    go_wp2_with fail
    refine (split_awake w).mono ?_
    rintro e w1 ⟨rfl, d1⟩
    go_wp2_with fail
    refine (split_awake w1).mono ?_
    rintro e w2 ⟨rfl, d2⟩
    go_wp2
    go_ret
    exact ⟨rfl, d1.trans (d2.mono d1.size)⟩
  · have hb' : ¬ (300 : Int) < (n : Int) := by omega
    obtain ⟨k, hk⟩ : ∃ k, k = errS s ws := ⟨_, rfl⟩
    obtain ⟨zs, hzs⟩ : ∃ zs, zs = sharesR s ws := ⟨_, rfl⟩
    have hS : Aside (∀ W : World, IsInts W a ws → Calls Try.prog 8 #[.int .i64 s, .slice a n c] W fun e w' => ∃ (a : Option Addr) (m : Nat), e = .returned (.tuple #[.slice a m m, .int .i64 k]) ∧ zs.length = m ∧ m ≤ 200 ∧ IsInts w' a zs ∧ Below W.heap.size W w') :=
      fun W hx => (split_shares a ws n c s W hn hx hl).mono fun e w' h => by rw [hk, hzs]; exact h.out
    have hNo : Aside (k ≠ 0 → zs = []) := fun h => by rw [hzs]; unfold sharesR; rw [if_neg (by rw [← hk]; exact h)]
    have hYes : Aside (k = 0 → Sums6 s ws zs n) := fun h0 => by
      rw [hk] at h0
      obtain ⟨h1, h2, h3⟩ := errS_zero h0
      have hz : zs = sharesOf s ws := by rw [hzs]; unfold sharesR; rw [if_pos h0]
      rw [hz]
      exact ⟨h1, h2, h3, told6 h1 h2 h3, hn⟩
    have HX : Aside (IsInts w a ws) := hx
    clear hk hzs hn hx
    go_enter Try.func4, Try.ntmps4
    go_wp2_with fail
    refine (split_awake w).mono ?_
    rintro e w1 ⟨rfl, d1⟩
    have h1 := HX.out.below d1
    have H1 : Aside (IsInts w1 a ws) := h1
    clear h1
    go_wp2_with fail
    refine (hS.out w1 H1.out).mono ?_
    rintro e w2 ⟨a2, m, rfl, hm, hm2, h3, d2⟩
    have HM := Lib.hid hm
    have H3 : Aside (IsInts w2 a2 zs) := h3
    have H2 : Aside (IsInts w2 a ws) := H1.out.below d2
    have b2 := d1.trans (d2.mono d1.size)
    clear hm h3 d2
    by_cases h0 : k = 0
    · have hT := hYes.out h0
      subst h0
      have hmn : m = n := by rw [← HM.out, hT.told.length, hT.len]
      subst hmn
      have hf := rightW_few hT.right
      have hn1 : 1 ≤ m := by rw [← hT.len]; exact hf.1
      obtain ⟨b, off, rfl, hb, hc⟩ := ints_at H2.out (by rw [hT.len]; omega)
      obtain ⟨b', off', rfl, hb3, hc3⟩ := ints_at H3.out (by rw [HM.out]; omega)
      rw [hT.len] at hc
      rw [HM.out] at hc3
      have CW : Aside (∀ i, i < m → w2.cell? ⟨b, off + i, none⟩ = some (.int .i64 (wt ws i))) := hc
      have CZ : Aside (∀ i, i < m → w2.cell? ⟨b', off' + i, none⟩ = some (.int .i64 (wt zs i))) := hc3
      have T : Aside (Sums6 s ws zs m) := hT
      clear hc hc3 hT hYes hNo hS H3 H2 H1 HX HM hf
      go_wp2
      go_loop [7, 8, 35] (fun v7 v8 v35 => ∃ (j : Nat) (x y : Int), v7 = .int .i64 x ∧ v8 = .int .i64 y ∧ v35 = .int .i64 j ∧ j ≤ m ∧ Hid (x = sumTo (wt ws) j) ∧ Hid (y = sumTo (wt zs) j)) (fun _ _ v35 => m - (intOf v35).toNat)
      case atStart => exact ⟨0, 0, 0, rfl, rfl, rfl, Nat.zero_le _, rfl, rfl⟩
      case round =>
        obtain ⟨j, x, y, rfl, rfl, rfl, hj, HXS, HYS⟩ := hrel
        by_cases hlt : j < m
        · have hlt' : (j : Int) < (m : Int) := by omega
          have c1 := CW.out j hlt
          have c2 := CZ.out j hlt
          have p1 := partial_sum (rightW_all T.out.right) T.out.all j (by rw [T.out.len]; omega)
          have p2 := partial_sum (rightW_all T.out.right) T.out.all (j + 1) (by rw [T.out.len]; omega)
          have hz := T.out.told.bounds j (by rw [T.out.len]; exact hlt)
          have hy : 0 ≤ y ∧ y ≤ j * 1125899906842625 := by
            have h1 := sumTo_nonneg (f := wt zs) j (fun t ht => (T.out.told.bounds t (by rw [T.out.len]; omega)).1)
            have h2 := sumTo_le (f := wt zs) (b := 1125899906842625) j (fun t ht => (T.out.told.bounds t (by rw [T.out.len]; omega)).2)
            rw [HYS.out]; exact ⟨h1, h2⟩
          rw [← HXS.out] at p1
          have HXN : Hid (x + wt ws j = sumTo (wt ws) (j + 1)) := by show _ = _; rw [sumTo, HXS.out]
          have HYN : Hid (y + wt zs j = sumTo (wt zs) (j + 1)) := by show _ = _; rw [sumTo, HYS.out]
          rw [← HXN.out] at p2
          generalize wt ws j = u at *
          generalize wt zs j = v at *
          obtain ⟨p3, p4⟩ := p1
          obtain ⟨p5, p6⟩ := p2
          obtain ⟨z1, z2⟩ := hz
          obtain ⟨y1, y2⟩ := hy
          go_wp2
          go_round
          case rel => exact ⟨j + 1, x + u, y + v, rfl, rfl, by go_num, hlt, HXN.out, HYN.out⟩
          case measure => simp [intOf]; omega
        · obtain rfl : j = m := by omega
          have hxs : x = ws.sum := by rw [HXS.out, ← all_sum, T.out.len]
          have hys : y = s := by rw [HYS.out, ← T.out.told.sum, T.out.len]
          subst hys
          have x0 := sum_nonneg (rightW_all T.out.right)
          have x1 := T.out.all
          rw [← hxs] at x0 x1
          have HXS2 := Lib.hid hxs
          have hok := okW_yes T.out.sum
          obtain ⟨s0, s1⟩ := hok
          clear hxs HXS HYS
          go_wp2
          go_loopw [53] (fun v53 wr => ∃ i : Nat, v53 = .int .i64 i ∧ i ≤ j ∧ Aside (Below w2.heap.size w2 wr)) (fun v53 _ => j - (intOf v53).toNat)
          case atStart => exact ⟨0, rfl, Nat.zero_le _, Below.refl _ _⟩
          case round =>
            obtain ⟨i, rfl, hi, BI⟩ := hrel
            by_cases hlt2 : i < j
            · have hlt3 : (i : Int) < (j : Int) := by omega
              have c1 := CW.out i hlt2
              have c2 := CZ.out i hlt2
              rw [← BI.out.cell (p := ⟨b, off + i, none⟩) hb] at c1
              rw [← BI.out.cell (p := ⟨b', off' + i, none⟩) hb3] at c2
              have hzb := T.out.told.bounds i (by rw [T.out.len]; exact hlt2)
              have hw0 := all_okW (rightW_all T.out.right) i
              have hwx : 0 < x → wt ws i ≤ x := fun h0 => by
                have W6 : Weights y ws x := ⟨s0, s1, fun t => all_okW (rightW_all T.out.right) t, by rw [all_sum, HXS2.out], h0, x1⟩
                exact W6.wa i
              have HNEAR : Aside (0 < x → wt zs i = quo y ws x i ∨ wt zs i = quo y ws x i + 1) := fun h => by
                have := T.out.told.near (by rw [← HXS2.out]; exact h) i (by rw [T.out.len]; exact hlt2)
                rwa [← HXS2.out] at this
              have HSAME : Aside (∀ k, k < i → wt ws k = wt ws i → wt zs i ≤ wt zs k ∧ wt zs k ≤ wt zs i + 1) := fun k hk hw => T.out.told.same k i hk (by rw [T.out.len]; exact hlt2) hw
              have hQ : Aside (0 < x → quo y ws x i = partV y (wt ws i) x ∧ partE y (wt ws i) x = 0) := fun h0 => by
                have := part_good (a := y) (n := wt ws i) (o := x) ⟨s0, s1⟩ ⟨by omega, hw0, hwx h0⟩
                exact ⟨by rw [this.1, quo], this.2⟩
              obtain ⟨u, hu⟩ : ∃ u, u = wt ws i := ⟨_, rfl⟩
              obtain ⟨v, hv⟩ : ∃ v, v = wt zs i := ⟨_, rfl⟩
              obtain ⟨q, hq⟩ : ∃ q, q = quo y ws x i := ⟨_, rfl⟩
              rw [← hu] at c1 hw0 hwx hQ HSAME
              rw [← hv] at c2 hzb HNEAR HSAME
              rw [← hq] at HNEAR hQ
              have HWX : Aside (0 < x → u ≤ x) := hwx
              obtain ⟨v0, v1⟩ := hzb
              have HU := Lib.hid hu
              have HV := Lib.hid hv
              clear hu hv hq hwx
              have v2 : ¬ v < 0 := by omega
              go_upto_if 62 with (fail)
              go_cut [] (fun wx => wr = wx)
              case first =>
                by_cases hx0 : 0 < x
                · have hux := HWX.out hx0
                  have hP := ref_part y u x ⟨by omega, by omega⟩ ⟨by omega, by omega⟩ wr
                  rw [← (hQ.out hx0).1, (hQ.out hx0).2] at hP
                  have HN := HNEAR.out hx0
                  clear HWX hQ HNEAR
                  rcases HN with rfl | hvq
                  · go_wp2_with fail
                    refine hP.mono ?_
                    rintro e w4 ⟨rfl, rfl⟩
                    go_wp2
                    go_meet
                    rfl
                  · have hq0 : -1 ≤ q := by omega
                    have hq1 : q ≤ 1125899906842625 := by omega
                    have hvne : ¬ q + 1 = q := by omega
                    have hvne2 : ((q + 1 : Int) == q) = false := beq_eq_false_iff_ne.2 (by omega)
                    subst hvq
                    go_wp2_with fail
                    refine hP.mono ?_
                    rintro e w4 ⟨rfl, rfl⟩
                    go_wp2
                    go_meet
                    rfl
                · clear HWX hQ HNEAR
                  go_wp2_with fail
                  go_meet
                  rfl
              case rest =>
                obtain rfl := hcut
                clear c1 c2 HWX hQ HNEAR
                have HWU : Hid (u = wt ws i) := HU
                have HVZ : Hid (v = wt zs i) := HV
                generalize wr = wo at *
                go_wp2
                go_loopw [93] (fun v93 wr => ∃ t : Nat, v93 = .int .i64 t ∧ t ≤ i ∧ Aside (Below w2.heap.size w2 wr)) (fun v93 _ => i - (intOf v93).toNat)
                case atStart => exact ⟨0, rfl, Nat.zero_le _, BI.out⟩
                case round =>
                  obtain ⟨t, rfl, ht, BT⟩ := hrel
                  by_cases hlt4 : t < i
                  · have hlt5 : (t : Int) < (i : Int) := by omega
                    have htj : t < j := by omega
                    have htj2 : (t : Int) < (j : Int) := by omega
                    have c1 := CW.out i hlt2
                    have c2 := CZ.out i hlt2
                    have c3 := CW.out t htj
                    have c4 := CZ.out t htj
                    rw [← BT.out.cell (p := ⟨b, off + i, none⟩) hb] at c1
                    rw [← BT.out.cell (p := ⟨b', off' + i, none⟩) hb3] at c2
                    rw [← BT.out.cell (p := ⟨b, off + t, none⟩) hb] at c3
                    rw [← BT.out.cell (p := ⟨b', off' + t, none⟩) hb3] at c4
                    rw [← HWU.out] at c1
                    rw [← HVZ.out] at c2
                    have hsame := HSAME.out t hlt4
                    generalize wt ws t = u2 at c3 hsame
                    generalize wt zs t = z2 at c4 hsame
                    by_cases hu2 : u2 = u
                    · obtain ⟨s3, s4⟩ := hsame hu2
                      subst hu2
                      have n1 : ¬ z2 < v := by omega
                      have n1' : decide (z2 < v) = false := decide_eq_false n1
                      have n2 : ¬ v + 1 < z2 := by omega
                      have n2' : decide (v + 1 < z2) = false := decide_eq_false n2
                      have wv : IntKind.i64.wrap (v + 1) = v + 1 := by rw [IntKind.wrap_i64]; omega
                      clear hsame
                      go_wp2_with fail
                      go_quiet (fail)
                      have BN : Aside (Below w2.heap.size w2 (wr.drewN nq)) := below_drawn' BT.out nq
                      clear BT c1 c2 c3 c4 wv
                      generalize wr.drewN nq = wq at BN ⊢
                      go_wp2
                      go_roundw
                      case rel => exact ⟨t + 1, by go_num, by omega, BN.out⟩
                      case measure => simp [intOf]; omega
                    · have hu3 : (u2 == u) = false := by simpa using hu2
                      clear hsame
                      go_wp2_with fail
                      go_quiet (fail)
                      have BN : Aside (Below w2.heap.size w2 (wr.drewN nq)) := below_drawn' BT.out nq
                      clear BT c1 c2 c3 c4
                      generalize wr.drewN nq = wq at BN ⊢
                      go_wp2
                      go_roundw
                      case rel => exact ⟨t + 1, by go_num, by omega, BN.out⟩
                      case measure => simp [intOf]; omega
                  · obtain rfl : t = i := by omega
                    go_wp2
                    go_roundw
                    case rel => exact ⟨t + 1, by go_num, by omega, BT.out⟩
                    case measure => simp [intOf]; omega
            · obtain rfl : i = j := by omega
              have b3 := b2.trans (BI.out.mono b2.size)
              go_wp2
              go_ret
              exact ⟨rfl, b3⟩
    · have hz : m = 0 := by rw [← HM.out, hNo.out h0]; rfl
      subst hz
      clear hNo hYes
      go_wp2
      go_ret
      exact ⟨rfl, b2⟩

theorem sums_contract (W : World) (args : Array Value) (h : Each Try.prog W Try.f4.params.toList args.toList) :
    Calls Try.prog 4 args W fun e W' => e = .returned (.bool true) ∧ Below W.heap.size W W' := by
  rw [Try.params4] at h
  obtain ⟨v0, r0, e0, ⟨_, o0⟩, d0, h⟩ := h.cons
  obtain ⟨v1, r1, rfl, ⟨_, o1⟩, d1, h⟩ := h.cons
  obtain rfl := h.nil
  obtain ⟨args⟩ := args
  obtain rfl : args = [v0, v1] := e0
  obtain ⟨x0, rfl, hx0⟩ := val_int o0 d0 Try.underlying2
  obtain ⟨a1, n1, c1, rfl, hc1⟩ := val_slice o1 Try.underlying22
  rw [hc1] at d1
  obtain ⟨a1', c1', xs1, e, h1, h2, h3⟩ := d1.ints Try.underlying22 Try.underlying2 (by kernel_rfl)
  injection e with e _
  injection e with e1 e2 e3
  subst e1 e2 e3
  exact sums_law x0 _ xs1 _ _ W rfl h3 (Nat.le_trans h1 h2)

theorem sums_lifted (os : Os) (started : os.Started) (H : Type) (enc : TypeId × Value → H) :
    ReturnsInHanded {} Try.checked os 4 .any (Rows.splitSumsSpec.pre6 enc Try.prog Try.f4 Rows.splitSumsRow.domain false) (Rows.splitSumsSpec.post enc Try.prog Try.f4 false true false false) :=
  law_lifted (C := Try.checked) seat_own seat_laid (by kernel_rfl) Try.func4 rfl (tb := 4) rfl Try.underlying4
    (by
      rw [Try.params4]; intro t ht; simp at ht
      rcases ht with rfl | rfl <;> exact ⟨by kernel_rfl, of_decide_eq_true (by kernel_rfl)⟩)
    (fun H ds hl => by
      rw [Try.params4] at hl
      match ds, hl with
      | [d1, d2], _ => rfl)
    os started H enc
    (ChangeSpec.witness6 (enc := enc) (C := Try.checked) false ⟨#[], #[.int .i64 0, .slice none 0 0], []⟩ 8 (by kernel_rfl) (by kernel_rfl) (by kernel_rfl) (by kernel_rfl))
    sums_contract

theorem splitSums_holds : Rows.SplitSumsSaid :=
  OpenClaim.holds_of_wide 4 Try.f4 rfl rfl rfl rfl rfl rfl rfl ⟨rfl, rfl, rfl, rfl, rfl⟩ rfl rfl rfl rfl rfl (by kernel_rfl) Try.func4 (by kernel_rfl)
    (of_decide_eq_true (by kernel_rfl)) (by unfold Func.isWrapper; first | (rw [if_pos (by decide +kernel)]; kernel_rfl) | (rw [if_neg (by decide +kernel)]; exact ⟨rfl, rfl⟩))
    (fun os started H enc _ => sums_lifted os started H enc)
#print axioms splitSums_holds
end Go.Proofs.Ytadaaoljpeojcaa
