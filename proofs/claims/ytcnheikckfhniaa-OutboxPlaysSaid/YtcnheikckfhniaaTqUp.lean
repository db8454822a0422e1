/-
  Package container/heap over package timer's queue: up, down. Conditions: those of each theorem.
-/
import Derived.Test.YtcnheikckfhniaaTqSwap
namespace Go.Proofs.Ytcnheikckfhniaa
open Go.RowKit
set_option maxRecDepth 100000

theorem m_less (p o : Nat) (w : World) : (method 236 78 (.pointer (some ⟨p, o, none⟩)) "Less").run Try.prog w = .ok (87, .pointer (some ⟨p, o, none⟩)) w := by kernel_rfl
theorem m_swap (p o : Nat) (w : World) : (method 236 78 (.pointer (some ⟨p, o, none⟩)) "Swap").run Try.prog w = .ok (90, .pointer (some ⟨p, o, none⟩)) w := by kernel_rfl
theorem m_len (p o : Nat) (w : World) : (method 236 78 (.pointer (some ⟨p, o, none⟩)) "Len").run Try.prog w = .ok (86, .pointer (some ⟨p, o, none⟩)) w := by kernel_rfl
theorem m_push (p o : Nat) (w : World) : (method 236 78 (.pointer (some ⟨p, o, none⟩)) "Push").run Try.prog w = .ok (89, .pointer (some ⟨p, o, none⟩)) w := by kernel_rfl
theorem m_pop (p o : Nat) (w : World) : (method 236 78 (.pointer (some ⟨p, o, none⟩)) "Pop").run Try.prog w = .ok (88, .pointer (some ⟨p, o, none⟩)) w := by kernel_rfl

set_option maxHeartbeats 4000000 in
theorem h_up {w : World} {p o g m c : Nat} {xs : List Tm} (h : TimAt w p o g m c xs) {n j : Nat} (hn : n ≤ xs.length) (hj : j < n) (hu : UpAt xs n j) : Calls Try.prog 47 #[.iface 78 (.pointer (some ⟨p, o, none⟩)), .int .i64 j] w fun e w' => e = .returned (.tuple #[]) ∧ ∃ ys, TimAt w' p o g m c ys ∧ ys.Perm xs ∧ (∀ i, n ≤ i → tget ys i = tget xs i) ∧ HeapTo ys n ∧ Upd (fun k => k = g ∨ k = m) w w' := by
  have H : Aside _ := h
  have HU : Aside _ := hu
  have hfew := h.few
  clear h hu
  go_enter Try.func47, Try.ntmps47
  go_wp2
  go_loopw [1] (fun s wr => ∃ (k : Nat) (ys : List Tm), k < n ∧ s = .int .i64 k ∧ Aside (TimAt wr p o g m c ys ∧ ys.Perm xs ∧ (∀ i, n ≤ i → tget ys i = tget xs i) ∧ UpAt ys n k ∧ Upd (fun k => k = g ∨ k = m) w wr)) (fun s _ => (intOf s).toNat)
  case atStart => exact ⟨j, xs, hj, rfl, H.out, List.Perm.refl _, fun _ _ => rfl, HU.out, Upd.refl _ _⟩
  case round =>
    clear H HU
    obtain ⟨k, ys, hk, rfl, HR⟩ := hrel
    obtain ⟨h, hp, hs, hu, hw⟩ := HR.out
    have hl := hp.length_eq
    by_cases hk0 : k = 0
    · subst hk0
      have HF : Aside (∃ ys, TimAt wr p o g m c ys ∧ ys.Perm xs ∧ (∀ i, n ≤ i → tget ys i = tget xs i) ∧ HeapTo ys n ∧ Upd (fun k => k = g ∨ k = m) w wr) := ⟨ys, h, hp, hs, hu.done (.inl rfl), hw⟩
      clear h hp hs hu hw HR
      go_wp2
      go_end0
      exact ⟨rfl, HF.out⟩
    · have hpk : par k < k := by unfold par; omega
      have hq : ((k : Int) - 1).tdiv 2 = (par k : Int) := by
        unfold par
        rw [Int.tdiv_eq_ediv_of_nonneg (by omega)]
        omega
      have hne : ((par k : Int) == (k : Int)) = false := by simp; omega
      have HL : Aside _ := q_less h (i := k) (j := par k) (by omega) (by omega)
      have HS : Aside (∀ w2, Below wr.heap.size wr w2 → Calls Try.prog 90 #[.pointer (some ⟨p, o, none⟩), .int .i64 (par k), .int .i64 k] w2 fun e w' => e = .returned (.tuple #[]) ∧ TimAt w' p o g m c (tswp ys (par k) k) ∧ Upd (fun k => k = g ∨ k = m) w2 w') :=
        fun w2 hb => q_swap (h.below hb) (by omega) (by omega)
      have HD : Aside (∀ w2, Below wr.heap.size wr w2 → tlt (tget ys k) (tget ys (par k)) = false → ∃ ys, TimAt w2 p o g m c ys ∧ ys.Perm xs ∧ (∀ i, n ≤ i → tget ys i = tget xs i) ∧ HeapTo ys n ∧ Upd (fun k => k = g ∨ k = m) w w2) :=
        fun w2 hb hf => ⟨ys, h.below hb, hp, hs, hu.done (.inr hf), hw.trans (Upd.below hb) (fun _ _ x => x)⟩
      have HN : Aside (∀ w2 w3, Below wr.heap.size wr w2 → tlt (tget ys k) (tget ys (par k)) = true → TimAt w3 p o g m c (tswp ys (par k) k) → Upd (fun k => k = g ∨ k = m) w2 w3 → TimAt w3 p o g m c (tswp ys (par k) k) ∧ (tswp ys (par k) k).Perm xs ∧ (∀ i, n ≤ i → tget (tswp ys (par k) k) i = tget xs i) ∧ UpAt (tswp ys (par k) k) n (par k) ∧ Upd (fun k => k = g ∨ k = m) w w3) :=
        fun w2 w3 hb ht h3 u3 => ⟨h3, (tswp_perm (by omega) (by omega)).trans hp, fun i hi => by rw [tget_swp (by omega) (by omega), if_neg (by omega), if_neg (by omega)]; exact hs i hi, hu.step (by omega) hk (by omega) ht, (hw.trans (Upd.below hb) (fun _ _ x => x)).trans u3 (fun _ _ x => x)⟩
      have hml := m_less p o
      have hms := m_swap p o
      generalize tswp ys (par k) k = zs at *
      generalize tlt (tget ys k) (tget ys (par k)) = lt at *
      clear h hp hs hu hw HR
      generalize par k = q at *
      go_wp2_with fail
      refine Calls.mono HL.out ?_
      rintro e w2 ⟨rfl, b2⟩
      have HB : Aside _ := b2
      clear b2
      cases lt
      · go_wp2
        go_end0
        exact ⟨rfl, HD.out _ HB.out trivial⟩
      · go_wp2_with fail
        refine Calls.mono (HS.out _ HB.out) ?_
        rintro e w3 ⟨rfl, h3, u3⟩
        have HT : Aside _ := HN.out _ _ HB.out trivial h3 u3
        clear h3 u3
        go_wp2
        go_roundw
        case rel => exact ⟨q, zs, by omega, rfl, HT.out⟩
        case measure => simp [intOf]; omega

set_option maxHeartbeats 4000000 in
theorem h_down {w : World} {p o g m c : Nat} {xs : List Tm} (h : TimAt w p o g m c xs) {n i0 : Nat} (hn : n ≤ xs.length) (hi : i0 ≤ n) (hd : DownAt xs n i0 i0) :
    Calls Try.prog 46 #[.iface 78 (.pointer (some ⟨p, o, none⟩)), .int .i64 i0, .int .i64 n] w fun e w' => ∃ (b : Bool) (ys : List Tm), e = .returned (.bool b) ∧ TimAt w' p o g m c ys ∧ ys.Perm xs ∧ (∀ k, n ≤ k → tget ys k = tget xs k) ∧ (b = true → HeapTo ys n) ∧ (b = false → UpAt ys n i0) ∧ Upd (fun k => k = g ∨ k = m) w w' := by
  have H : Aside _ := h
  have HD : Aside _ := hd
  have hfew := h.few
  clear h hd
  go_enter Try.func46, Try.ntmps46
  go_wp2
  go_loopw [7] (fun s wr => ∃ (k : Nat) (ys : List Tm), k ≤ n ∧ s = .int .i64 k ∧ Aside (TimAt wr p o g m c ys ∧ ys.Perm xs ∧ (∀ k, n ≤ k → tget ys k = tget xs k) ∧ DownAt ys n i0 k ∧ Upd (fun k => k = g ∨ k = m) w wr)) (fun s _ => n - (intOf s).toNat)
  case atStart => exact ⟨i0, xs, hi, rfl, H.out, List.Perm.refl _, fun _ _ => rfl, HD.out, Upd.refl _ _⟩
  case round =>
    clear H HD
    obtain ⟨k, ys, hk, rfl, HR⟩ := hrel
    obtain ⟨h, hp, hs, hd, hw⟩ := HR.out
    have hl := hp.length_eq
    have DONE : Aside (∀ w2, Below wr.heap.size wr w2 → (∀ c, 0 < c → c < n → par c = k → tlt (tget ys c) (tget ys k) = false) → ∃ (b : Bool) (zs : List Tm), Ending.returned (Value.bool (decide (i0 < k))) = .returned (.bool b) ∧ TimAt w2 p o g m c zs ∧ zs.Perm xs ∧ (∀ k, n ≤ k → tget zs k = tget xs k) ∧ (b = true → HeapTo zs n) ∧ (b = false → UpAt zs n i0) ∧ Upd (fun k => k = g ∨ k = m) w w2) := by
      intro w2 hb hc
      obtain ⟨d1, d2⟩ := hd.done hc
      have hle := hd.le
      refine ⟨_, ys, rfl, h.below hb, hp, hs, fun e => d1 ?_, fun e => d2 ?_, hw.trans (Upd.below hb) (fun _ _ x => x)⟩
      · have := of_decide_eq_true e; omega
      · have := of_decide_eq_false e; omega
    have TAIL : Aside (∀ (jj : Nat) (J : Int), (jj : Int) = J → 0 < jj → jj < n → par jj = k → (∀ c, 0 < c → c < n → par c = k → tlt (tget ys c) (tget ys jj) = false) →
        (∀ w2, Below wr.heap.size wr w2 → Calls Try.prog 87 #[.pointer (some ⟨p, o, none⟩), .int .i64 J, .int .i64 k] w2 fun e w' => e = .returned (.bool (tlt (tget ys jj) (tget ys k))) ∧ Below wr.heap.size wr w') ∧
        (tlt (tget ys jj) (tget ys k) = false → ∀ w2, Below wr.heap.size wr w2 → ∃ (b : Bool) (zs : List Tm), Ending.returned (Value.bool (decide (i0 < k))) = .returned (.bool b) ∧ TimAt w2 p o g m c zs ∧ zs.Perm xs ∧ (∀ k, n ≤ k → tget zs k = tget xs k) ∧ (b = true → HeapTo zs n) ∧ (b = false → UpAt zs n i0) ∧ Upd (fun k => k = g ∨ k = m) w w2) ∧
        (tlt (tget ys jj) (tget ys k) = true → ∀ w2, Below wr.heap.size wr w2 → Calls Try.prog 90 #[.pointer (some ⟨p, o, none⟩), .int .i64 k, .int .i64 J] w2 fun e w' => e = .returned (.tuple #[]) ∧ Aside (TimAt w' p o g m c (tswp ys k jj) ∧ (tswp ys k jj).Perm xs ∧ (∀ i, n ≤ i → tget (tswp ys k jj) i = tget xs i) ∧ DownAt (tswp ys k jj) n i0 jj ∧ Upd (fun k => k = g ∨ k = m) w w'))) := by
      intro jj J hJ j0 jn jp hsm
      subst hJ
      have hkj : k < jj := by rw [← jp]; unfold par; omega
      refine ⟨fun w2 hb => ?_, fun hf w2 hb => DONE.out w2 hb fun c c0 cn cp => tge_trans hf (hsm c c0 cn cp), fun ht w2 hb => ?_⟩
      · exact (q_less (h.below hb) (i := jj) (j := k) (by omega) (by omega)).mono fun e w' x => ⟨x.1, hb.trans (x.2.mono hb.size)⟩
      · refine (q_swap (h.below hb) (i := k) (j := jj) (by omega) (by omega)).mono fun e w' x => ⟨x.1, x.2.1, (tswp_perm (by omega) (by omega)).trans hp, fun i hi => ?_, hd.step j0 jn jp (by omega) hsm ht, (hw.trans (Upd.below hb) (fun _ _ x => x)).trans x.2.2 (fun _ _ x => x)⟩
        rw [tget_swp (by omega) (by omega), if_neg (by omega), if_neg (by omega)]
        exact hs i hi
    have HL12 : Aside (2 * k + 2 < n → Calls Try.prog 87 #[.pointer (some ⟨p, o, none⟩), .int .i64 (2 * (k : Int) + 1 + 1), .int .i64 (2 * (k : Int) + 1)] wr fun e w' => e = .returned (.bool (tlt (tget ys (2 * k + 2)) (tget ys (2 * k + 1)))) ∧ Below wr.heap.size wr w') :=
      fun h2 => by
        have := q_less h (i := 2 * k + 2) (j := 2 * k + 1) (by omega) (by omega)
        rwa [show ((2 * k + 2 : Nat) : Int) = 2 * (k : Int) + 1 + 1 by omega, show ((2 * k + 1 : Nat) : Int) = 2 * (k : Int) + 1 by omega] at this
    have KIDS : Aside (∀ c, 0 < c → par c = k → c = 2 * k + 1 ∨ c = 2 * k + 2) := fun c c0 cp => by unfold par at cp; omega
    have hml := m_less p o
    have hms := m_swap p o
    clear h hp hs hd hw HR
    have hB0 : Aside (Below wr.heap.size wr wr) := Below.refl _ _
    by_cases h1 : n ≤ 2 * k + 1
    · have h1' : (n : Int) ≤ 2 * (k : Int) + 1 := by omega
      go_wp2
      go_ret
      exact DONE.out wr hB0.out (fun c c0 cn cp => by rcases KIDS.out c c0 cp with e | e <;> omega)
    · have h1' : ¬ (n : Int) ≤ 2 * (k : Int) + 1 := by omega
      have h1d : decide ((n : Int) ≤ 2 * (k : Int) + 1) = false := decide_eq_false h1'
      by_cases h2 : 2 * k + 2 < n
      · have h2' : 2 * (k : Int) + 1 + 1 < (n : Int) := by omega
        go_wp2_with fail
        refine Calls.mono (HL12.out h2) ?_
        rintro e w2 ⟨rfl, b2⟩
        have HB : Aside (Below wr.heap.size wr w2) := b2
        clear b2
        by_cases hq : tlt (tget ys (2 * k + 2)) (tget ys (2 * k + 1)) = true
        · rw [hq]
          obtain ⟨HT1, HT2, HT3⟩ := TAIL.out (2 * k + 2) (2 * (k : Int) + 1 + 1) (by omega) (by omega) (by omega) (by unfold par; omega) (fun c c0 cn cp => (KIDS.out c c0 cp).elim (fun e => by subst e; exact tge_of_lt hq) (fun e => by subst e; exact tlt_self _))
          have T1 : Aside _ := HT1 _ HB.out
          have T2 : Aside _ := HT2
          have T3 : Aside _ := HT3
          clear HT1 HT2 HT3
          generalize tlt (tget ys (2 * k + 2)) (tget ys k) = lt at *
          go_wp2_with fail
          refine Calls.mono T1.out ?_
          rintro e w3 ⟨rfl, b3⟩
          have HB3 : Aside (Below wr.heap.size wr w3) := b3
          clear b3
          cases lt
          · have DN : Aside _ := T2.out rfl _ HB3.out
            clear DONE TAIL HL12 KIDS T1 T2 T3
            go_wp2
            go_ret
            exact DN.out
          · have SWP : Aside _ := T3.out rfl _ HB3.out
            clear DONE TAIL HL12 KIDS T1 T2 T3
            go_wp2_with fail
            refine Calls.mono SWP.out ?_
            rintro e w4 ⟨rfl, h4⟩
            have H4 : Aside _ := h4.out
            clear h4 SWP
            go_wp2
            go_roundw
            case rel => exact ⟨2 * k + 2, tswp ys k (2 * k + 2), by omega, by go_num, H4.out⟩
            case measure => simp [intOf]; omega
        · have hq := Bool.eq_false_iff.2 hq
          rw [hq]
          obtain ⟨HT1, HT2, HT3⟩ := TAIL.out (2 * k + 1) (2 * (k : Int) + 1) (by omega) (by omega) (by omega) (by unfold par; omega) (fun c c0 cn cp => (KIDS.out c c0 cp).elim (fun e => by subst e; exact tlt_self _) (fun e => by subst e; exact hq))
          have T1 : Aside _ := HT1 _ HB.out
          have T2 : Aside _ := HT2
          have T3 : Aside _ := HT3
          clear HT1 HT2 HT3
          generalize tlt (tget ys (2 * k + 1)) (tget ys k) = lt at *
          go_wp2_with fail
          refine Calls.mono T1.out ?_
          rintro e w3 ⟨rfl, b3⟩
          have HB3 : Aside (Below wr.heap.size wr w3) := b3
          clear b3
          cases lt
          · have DN : Aside _ := T2.out rfl _ HB3.out
            clear DONE TAIL HL12 KIDS T1 T2 T3
            go_wp2
            go_ret
            exact DN.out
          · have SWP : Aside _ := T3.out rfl _ HB3.out
            clear DONE TAIL HL12 KIDS T1 T2 T3
            go_wp2_with fail
            refine Calls.mono SWP.out ?_
            rintro e w4 ⟨rfl, h4⟩
            have H4 : Aside _ := h4.out
            clear h4 SWP
            go_wp2
            go_roundw
            case rel => exact ⟨2 * k + 1, tswp ys k (2 * k + 1), by omega, by go_num, H4.out⟩
            case measure => simp [intOf]; omega
      · have h2' : ¬ 2 * (k : Int) + 1 + 1 < (n : Int) := by omega
        have HB := hB0
        obtain ⟨HT1, HT2, HT3⟩ := TAIL.out (2 * k + 1) (2 * (k : Int) + 1) (by omega) (by omega) (by omega) (by unfold par; omega) (fun c c0 cn cp => (KIDS.out c c0 cp).elim (fun e => by subst e; exact tlt_self _) (fun e => by omega))
        have T1 : Aside _ := HT1 _ HB.out
        have T2 : Aside _ := HT2
        have T3 : Aside _ := HT3
        clear HT1 HT2 HT3
        generalize tlt (tget ys (2 * k + 1)) (tget ys k) = lt at *
        go_wp2_with fail
        refine Calls.mono T1.out ?_
        rintro e w3 ⟨rfl, b3⟩
        have HB3 : Aside (Below wr.heap.size wr w3) := b3
        clear b3
        cases lt
        · have DN : Aside _ := T2.out rfl _ HB3.out
          clear DONE TAIL HL12 KIDS T1 T2 T3
          go_wp2
          go_ret
          exact DN.out
        · have SWP : Aside _ := T3.out rfl _ HB3.out
          clear DONE TAIL HL12 KIDS T1 T2 T3
          go_wp2_with fail
          refine Calls.mono SWP.out ?_
          rintro e w4 ⟨rfl, h4⟩
          have H4 : Aside _ := h4.out
          clear h4 SWP
          go_wp2
          go_roundw
          case rel => exact ⟨2 * k + 1, tswp ys k (2 * k + 1), by omega, by go_num, H4.out⟩
          case measure => simp [intOf]; omega
end Go.Proofs.Ytcnheikckfhniaa
