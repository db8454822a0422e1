/-
  The library's Equal, of lines, of supplies, of policies: whatever they are. Conditions: those of each theorem.
-/
import Derived.Test.YtbiompjhenkieaaGreatRefSame
namespace Go.Proofs.YtbiompjhenkieaaGreat
open Go.RowKit
set_option maxRecDepth 100000

set_option maxHeartbeats 4000000 in
theorem eq_lines (a b : Option Addr) (xs ys : List Ln) (n m c d : Nat) (w : World) (hn : xs.length = n) (hm : ys.length = m) (hp : LnsAt w a xs) (hq : LnsAt w b ys) (hnm : n ≤ maxLen) (hmm : m ≤ maxLen) :
    Calls Tryz.prog 50 #[.slice a n c, .slice b m d] w fun e w' => e = .returned (.bool (sameBy sameLn xs ys)) ∧ Below w.heap.size w w' := by
  unfold maxLen at hnm hmm
  by_cases he : n = m
  · subst he
    have HN := Lib.hid hn
    have HM := Lib.hid hm
    clear hn hm
    go_enter Tryz.func50, Tryz.ntmps50
    go_wp2
    go_loopw [13] (fun i wr => ∃ k : Nat, k ≤ n ∧ i = .int .i64 k ∧ Aside (Below w.heap.size w wr) ∧ Hid (∀ j (_ : j < k) (h1 : j < xs.length) (h2 : j < ys.length), sameLn xs[j] ys[j] = true)) (fun i _ => n - (intOf i).toNat)
    case atStart => exact ⟨0, Nat.zero_le _, rfl, Below.refl _ _, fun j h => absurd h (Nat.not_lt_zero _)⟩
    case round =>
      obtain ⟨k, hk, rfl, HB, HK⟩ := hrel
      by_cases hlt : k < n
      · have hkn : (k : Int) < (n : Int) := by omega
        have hk0 : (0 : Int) ≤ (k : Int) := by omega
        rcases hp with rfl | ⟨b1, o1, rfl, hb1, hc1⟩
        · have := HN.out; simp at this; omega
        rcases hq with rfl | ⟨b2, o2, rfl, hb2, hc2⟩
        · have := HM.out; simp at this; omega
        have hlk : k < xs.length := by rw [HN.out]; exact hlt
        have hlk' : k < ys.length := by rw [HM.out]; exact hlt
        have h1 := LnAt.all ((hc1 k hlk).below HB.out hb1)
        have h2 := LnAt.all ((hc2 k hlk').below HB.out hb2)
        have HF : Hid (sameLn xs[k] ys[k] = false → sameBy sameLn xs ys = false) := fun e => sameBy_at hlk hlk' e
        have HT : Hid (sameLn xs[k] ys[k] = true → ∀ j (_ : j < k + 1) (h1 : j < xs.length) (h2 : j < ys.length), sameLn xs[j] ys[j] = true) := fun e j hj h1 h2 => by
          by_cases h : j = k
          · subst h; exact e
          · exact HK.out j (by omega) h1 h2
        have hqs := fun W => ln_eq 9998 xs[k] ys[k] W
        clear hc1 hc2 HK
        generalize xs[k] = p at *
        generalize ys[k] = q at *
        generalize sameLn p q = v at *
        obtain ⟨z0, z1, z2, z3⟩ := h1
        obtain ⟨y0, y1, y2, y3⟩ := h2
        unfold Ln.arr at hqs
        go_upto_region 6 with (fail)
        as_aux_lemma =>
          cases v with
          | false =>
            have HX := Lib.hid (HF.out rfl)
            clear HF HT
            go_quiet (fail)
            as_aux_lemma =>
              clear hqs z0 z1 z2 z3 y0 y1 y2 y3
              go_wp2
              go_ret
              exact ⟨by rw [HX.out]; rfl, HB.out.trans ⟨rfl, rfl, rfl, Nat.le_refl _, fun _ _ => rfl⟩⟩
          | true =>
            have HX := Lib.hid (HT.out rfl)
            clear HF HT
            go_quiet (fail)
            as_aux_lemma =>
              clear hqs z0 z1 z2 z3 y0 y1 y2 y3
              go_wp2
              go_roundw
              case rel => exact ⟨k + 1, by omega, by go_num, HB.out.trans ⟨rfl, rfl, rfl, Nat.le_refl _, fun _ _ => rfl⟩, HX.out⟩
              case measure => simp [intOf]; omega
      · obtain rfl : k = n := by omega
        have HX : Hid (sameBy sameLn xs ys = true) := sameBy_all (by rw [HN.out, HM.out]) (fun j h1 h2 => HK.out j (by have := HN.out; omega) h1 h2)
        go_wp2
        go_ret
        exact ⟨by rw [HX.out]; rfl, HB.out⟩
  · have hne : ((n : Int) != (m : Int)) = true := by simp; omega
    have HX : Hid (sameBy sameLn xs ys = false) := sameBy_len (by omega)
    clear hn hm hp hq he
    go_enter Tryz.func50, Tryz.ntmps50
    go_wp2
    go_ret
    exact ⟨by rw [HX.out]; rfl, Below.refl _ _⟩

set_option maxHeartbeats 4000000 in
theorem eq_sups (a b : Option Addr) (xs ys : List Sup) (n m c d : Nat) (w : World) (hn : xs.length = n) (hm : ys.length = m) (hp : SupsAt w a xs) (hq : SupsAt w b ys) (hnm : n ≤ maxLen) (hmm : m ≤ maxLen) :
    Calls Tryz.prog 24 #[.slice a n c, .slice b m d] w fun e w' => e = .returned (.bool (sameBy sameSup xs ys)) ∧ Below w.heap.size w w' := by
  unfold maxLen at hnm hmm
  by_cases he : n = m
  · subst he
    have HN := Lib.hid hn
    have HM := Lib.hid hm
    clear hn hm
    go_enter Tryz.func24, Tryz.ntmps24
    go_wp2
    go_loopw [13] (fun i wr => ∃ k : Nat, k ≤ n ∧ i = .int .i64 k ∧ Aside (Below w.heap.size w wr) ∧ Hid (∀ j (_ : j < k) (h1 : j < xs.length) (h2 : j < ys.length), sameSup xs[j] ys[j] = true)) (fun i _ => n - (intOf i).toNat)
    case atStart => exact ⟨0, Nat.zero_le _, rfl, Below.refl _ _, fun j h => absurd h (Nat.not_lt_zero _)⟩
    case round =>
      obtain ⟨k, hk, rfl, HB, HK⟩ := hrel
      by_cases hlt : k < n
      · have hkn : (k : Int) < (n : Int) := by omega
        have hk0 : (0 : Int) ≤ (k : Int) := by omega
        rcases hp with rfl | ⟨b1, o1, rfl, hb1, hc1⟩
        · have := HN.out; simp at this; omega
        rcases hq with rfl | ⟨b2, o2, rfl, hb2, hc2⟩
        · have := HM.out; simp at this; omega
        have hlk : k < xs.length := by rw [HN.out]; exact hlt
        have hlk' : k < ys.length := by rw [HM.out]; exact hlt
        have h1 := SupAt.all ((hc1 k hlk).below HB.out hb1)
        have h2 := SupAt.all ((hc2 k hlk').below HB.out hb2)
        have HF : Hid (sameSup xs[k] ys[k] = false → sameBy sameSup xs ys = false) := fun e => sameBy_at hlk hlk' e
        have HT : Hid (sameSup xs[k] ys[k] = true → ∀ j (_ : j < k + 1) (h1 : j < xs.length) (h2 : j < ys.length), sameSup xs[j] ys[j] = true) := fun e j hj h1 h2 => by
          by_cases h : j = k
          · subst h; exact e
          · exact HK.out j (by omega) h1 h2
        have hqs := fun W => sup_eq 9998 xs[k] ys[k] W
        clear hc1 hc2 HK
        generalize xs[k] = p at *
        generalize ys[k] = q at *
        generalize sameSup p q = v at *
        obtain ⟨z0, z1, z2⟩ := h1
        obtain ⟨y0, y1, y2⟩ := h2
        unfold Sup.arr at hqs
        go_upto_region 6 with (fail)
        as_aux_lemma =>
          cases v with
          | false =>
            have HX := Lib.hid (HF.out rfl)
            clear HF HT
            go_quiet (fail)
            as_aux_lemma =>
              clear hqs z0 z1 z2 y0 y1 y2
              go_wp2
              go_ret
              exact ⟨by rw [HX.out]; rfl, HB.out.trans ⟨rfl, rfl, rfl, Nat.le_refl _, fun _ _ => rfl⟩⟩
          | true =>
            have HX := Lib.hid (HT.out rfl)
            clear HF HT
            go_quiet (fail)
            as_aux_lemma =>
              clear hqs z0 z1 z2 y0 y1 y2
              go_wp2
              go_roundw
              case rel => exact ⟨k + 1, by omega, by go_num, HB.out.trans ⟨rfl, rfl, rfl, Nat.le_refl _, fun _ _ => rfl⟩, HX.out⟩
              case measure => simp [intOf]; omega
      · obtain rfl : k = n := by omega
        have HX : Hid (sameBy sameSup xs ys = true) := sameBy_all (by rw [HN.out, HM.out]) (fun j h1 h2 => HK.out j (by have := HN.out; omega) h1 h2)
        go_wp2
        go_ret
        exact ⟨by rw [HX.out]; rfl, HB.out⟩
  · have hne : ((n : Int) != (m : Int)) = true := by simp; omega
    have HX : Hid (sameBy sameSup xs ys = false) := sameBy_len (by omega)
    clear hn hm hp hq he
    go_enter Tryz.func24, Tryz.ntmps24
    go_wp2
    go_ret
    exact ⟨by rw [HX.out]; rfl, Below.refl _ _⟩
end Go.Proofs.YtbiompjhenkieaaGreat
