/-
  The library's Equal, of lines, of supplies, of policies: whatever they are. Conditions: those of each theorem.
-/
import Derived.Test.YtbiompjhenkieaaGreatRefSame
namespace Go.Proofs.YtbiompjhenkieaaGreat
open Go.RowKit
set_option maxRecDepth 100000

set_option maxHeartbeats 4000000 in
theorem eq_pols (a b : Option Addr) (xs ys : List Pol) (n m c d : Nat) (w : World) (hn : xs.length = n) (hm : ys.length = m) (hp : PolsAt w a xs) (hq : PolsAt w b ys) (hnm : n ≤ maxLen) (hmm : m ≤ maxLen) :
    Calls Tryz.prog 51 #[.slice a n c, .slice b m d] w fun e w' => e = .returned (.bool (sameBy samePol xs ys)) ∧ Below w.heap.size w w' := by
  unfold maxLen at hnm hmm
  by_cases he : n = m
  · subst he
    have HN := Lib.hid hn
    have HM := Lib.hid hm
    clear hn hm
    go_enter Tryz.func51, Tryz.ntmps51
    go_wp2
    go_loopw [13] (fun i wr => ∃ k : Nat, k ≤ n ∧ i = .int .i64 k ∧ Aside (Below w.heap.size w wr) ∧ Hid (∀ j (_ : j < k) (h1 : j < xs.length) (h2 : j < ys.length), samePol xs[j] ys[j] = true)) (fun i _ => n - (intOf i).toNat)
    case atStart => exact ⟨0, Nat.zero_le _, rfl, Below.refl _ _, fun j h => absurd h (Nat.not_lt_zero _)⟩
    case round =>
      obtain ⟨k, hk, rfl, HB, HK⟩ := hrel
      by_cases hlt : k < n
      · have hkn : (k : Int) < (n : Int) := by omega
        have hk0 : (0 : Int) ≤ (k : Int) := by omega
        rcases hp with rfl | ⟨b1, o1, rfl, hb1, hc1⟩
        · have := HN.out; simp at this; omega
        rcases hq with rfl | ⟨b2, o2, rfl, hb2, hc2⟩
        · have := HM.out; simp at this; omega
        have hlk : k < xs.length := by rw [HN.out]; exact hlt
        have hlk' : k < ys.length := by rw [HM.out]; exact hlt
        have h1 := PolAt.all ((hc1 k hlk).below HB.out hb1)
        have h2 := PolAt.all ((hc2 k hlk').below HB.out hb2)
        have HF : Hid (samePol xs[k] ys[k] = false → sameBy samePol xs ys = false) := fun e => sameBy_at hlk hlk' e
        have HT : Hid (samePol xs[k] ys[k] = true → ∀ j (_ : j < k + 1) (h1 : j < xs.length) (h2 : j < ys.length), samePol xs[j] ys[j] = true) := fun e j hj h1 h2 => by
          by_cases h : j = k
          · subst h; exact e
          · exact HK.out j (by omega) h1 h2
        have hqs := fun W => pol_eq 9996 xs[k] ys[k] W
        clear hc1 hc2 HK
        generalize xs[k] = p at *
        generalize ys[k] = q at *
        generalize samePol p q = v at *
        obtain ⟨z0, z1, z2, z3, z4, z5, z6, z7, z8, z9, za, zb, zc, zd, ze, zf⟩ := h1
        obtain ⟨y0, y1, y2, y3, y4, y5, y6, y7, y8, y9, ya, yb, yc, yd, ye, yf⟩ := h2
        unfold Pol.arr at hqs
        go_upto_region 6 with (fail)
        as_aux_lemma =>
          cases v with
          | false =>
            have HX := Lib.hid (HF.out rfl)
            clear HF HT
            go_quiet (fail)
            as_aux_lemma =>
              clear hqs z0 z1 z2 z3 z4 z5 z6 z7 z8 z9 za zb zc zd ze zf y0 y1 y2 y3 y4 y5 y6 y7 y8 y9 ya yb yc yd ye yf
              go_wp2
              go_ret
              exact ⟨by rw [HX.out]; rfl, HB.out.trans ⟨rfl, rfl, rfl, Nat.le_refl _, fun _ _ => rfl⟩⟩
          | true =>
            have HX := Lib.hid (HT.out rfl)
            clear HF HT
            go_quiet (fail)
            as_aux_lemma =>
              clear hqs z0 z1 z2 z3 z4 z5 z6 z7 z8 z9 za zb zc zd ze zf y0 y1 y2 y3 y4 y5 y6 y7 y8 y9 ya yb yc yd ye yf
              go_wp2
              go_roundw
              case rel => exact ⟨k + 1, by omega, by go_num, HB.out.trans ⟨rfl, rfl, rfl, Nat.le_refl _, fun _ _ => rfl⟩, HX.out⟩
              case measure => simp [intOf]; omega
      · obtain rfl : k = n := by omega
        have HX : Hid (sameBy samePol xs ys = true) := sameBy_all (by rw [HN.out, HM.out]) (fun j h1 h2 => HK.out j (by have := HN.out; omega) h1 h2)
        go_wp2
        go_ret
        exact ⟨by rw [HX.out]; rfl, HB.out⟩
  · have hne : ((n : Int) != (m : Int)) = true := by simp; omega
    have HX : Hid (sameBy samePol xs ys = false) := sameBy_len (by omega)
    clear hn hm hp hq he
    go_enter Tryz.func51, Tryz.ntmps51
    go_wp2
    go_ret
    exact ⟨by rw [HX.out]; rfl, Below.refl _ _⟩

theorem table_same (a b : Option Addr) (ps qs : List Pol) (n m c d : Nat) (w : World) (hn : ps.length = n) (hm : qs.length = m) (hp : PolsAt w a ps) (hq : PolsAt w b qs) (hnm : n ≤ maxLen) (hmm : m ≤ maxLen) :
    Calls Tryz.prog 25 #[.slice a n c, .slice b m d] w fun e w' => e = .returned (.bool (sameBy samePol ps qs)) ∧ Below w.heap.size w w' := by
  have H : Aside _ := eq_pols a b ps qs n m c d w hn hm hp hq hnm hmm
  clear hn hp hq hm
  generalize sameBy samePol ps qs = v at *
  go_enter Tryz.func25, Tryz.ntmps25
  go_wp2_with fail
  refine Calls.mono H.out ?_
  rintro e w1 ⟨rfl, b1⟩
  go_wp2
  go_ret
  exact ⟨rfl, b1⟩
end Go.Proofs.YtbiompjhenkieaaGreat
