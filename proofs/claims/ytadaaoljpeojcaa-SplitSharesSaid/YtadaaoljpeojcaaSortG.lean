/-
  The library's stable sort, whole: blocks of twenty, then merged. Conditions: those of the theorems.
-/
import Derived.Test.YtadaaoljpeojcaaSortF
namespace Go.Proofs.Ytadaaoljpeojcaa
open Go.RowKit Go.Sort
set_option maxRecDepth 100000
variable {α : Type} [Inhabited α]

set_option maxHeartbeats 4000000 in
theorem sort_stable (v : α → Int) (cf : α → α → Int) (lx : α → α → Bool) (tie : α → α → Prop) (T : Two (less cf) lx tie) (g : Nat) (cb : Array Value) (w0 w : World) (blk off cap sz : Nat) (d0 d : Array α) (S : St v w0 blk off d0 d w)
    (eg : ∀ args w, (callFunc g args).run Try.prog w = .ok (.enter g args) w) (hC : Cmp Try.prog g cb v cf w0 blk off d0)
    (hz : d.size = sz) (hsz : sz ≤ 1000000) (ht : ∀ p q, p < q → q < sz → tie d[p]! d[q]!) :
    Calls Try.prog 33 #[.slice (some ⟨blk, off, none⟩) sz cap, .int .i64 sz, .func (.func g) #[] cb] w fun e w' => e = .returned (.tuple #[]) ∧ Merged v lx w0 blk off 0 sz d0 d w' := by
  have S0 : Aside (St v w0 blk off d0 d w) := S
  have HC : Aside (Cmp Try.prog g cb v cf w0 blk off d0) := hC
  have HZ := Lib.hid hz
  have F0 : Aside (First lx tie 20 sz 0 d d) := First.start 20 sz d ht
  have IH : Aside (MergeAll Try.prog 37 v lx tie g cb w0 blk off cap sz d0 (sz + 1)) := sort_merge v cf lx tie T g cb w0 blk off cap sz d0 eg hC (by omega) (sz + 1)
  clear S hz hC ht
  go_enter Try.func33, Try.ntmps33
  go_wp2
  go_loopw [7, 8] (fun va vb wr => ∃ (a b : Nat) (dk : Array α), va = .int .i64 a ∧ vb = .int .i64 b ∧ a ≤ sz ∧ a + 20 ≤ b ∧ b ≤ a + 20 ∧ Hid (dk.size = sz) ∧ Aside (First lx tie 20 sz a d dk) ∧ Aside (St v w0 blk off d0 dk wr)) (fun va _ _ => sz - (intOf va).toNat)
  case atStart => exact ⟨0, 20, d, rfl, rfl, Nat.zero_le _, Nat.le_refl _, Nat.le_refl _, HZ.out, F0.out, S0.out⟩
  case round =>
    clear S0 F0
    obtain ⟨a, b, dk, rfl, rfl, ha, hab, hba, HK, FK, SK⟩ := hrel
    by_cases hlt : b ≤ sz
    · have hlt' : (b : Int) ≤ (sz : Int) := by omega
      go_wp2_with fail
      refine (sort_insert v cf g cb w0 wr blk off cap a b sz d0 dk SK.out eg HC.out HK.out (by omega) hlt (by omega)).mono ?_
      rintro e w' ⟨rfl, hi⟩
      have SI : Aside (St v w0 blk off d0 (insertionSort (less cf) dk a b) w') := hi
      obtain ⟨hp, hs⟩ := ins_lex T (show a ≤ b by omega) (by have := HK.out; omega) (FK.out.asc hlt)
      have HS : Hid ((insertionSort (less cf) dk a b).size = sz) := hp.1.trans HK.out
      have FN : Aside (First lx tie 20 sz b d (insertionSort (less cf) dk a b)) := by
        have e := FK.out.next (by have := HZ.out; omega) (by omega) (d' := insertionSort (less cf) dk a b) (by rw [show a + 20 = b by omega]; exact hp) (by rw [show a + 20 = b by omega]; exact hs)
        rw [show a + 20 = b by omega] at e
        exact e
      clear hi hp hs SK FK
      go_wp2
      go_roundw
      case rel => exact ⟨b, b + 20, _, rfl, by go_num, hlt, Nat.le_refl _, Nat.le_refl _, HS.out, FN.out, SI.out⟩
      case measure => simp [intOf]; omega
    · have hlt' : ¬ (b : Int) ≤ (sz : Int) := by omega
      go_wp2_with fail
      refine (sort_insert v cf g cb w0 wr blk off cap a sz sz d0 dk SK.out eg HC.out HK.out ha (Nat.le_refl _) (by omega)).mono ?_
      rintro e w' ⟨rfl, hi⟩
      have SI : Aside (St v w0 blk off d0 (insertionSort (less cf) dk a sz) w') := hi
      obtain ⟨hp, hs⟩ := ins_lex T ha (by have := HK.out; omega) (FK.out.asc (Nat.le_refl _))
      have HS : Hid ((insertionSort (less cf) dk a sz).size = sz) := hp.1.trans HK.out
      have FN : Aside (Lev lx tie 20 sz d (insertionSort (less cf) dk a sz)) := FK.out.last (by have := HZ.out; omega) ha (by omega) hp hs
      clear hi hp hs SK FK
      generalize insertionSort (less cf) dk a sz = d1 at SI HS FN
      go_wp2
      go_loopw [6] (fun vk wr => ∃ (k : Nat) (dk : Array α), vk = .int .i64 k ∧ 20 ≤ k ∧ k ≤ 2 * sz + 20 ∧ Hid (dk.size = sz) ∧ Aside (Lev lx tie k sz d dk) ∧ Aside (St v w0 blk off d0 dk wr)) (fun vk _ => 2 * sz + 20 - (intOf vk).toNat)
      case atStart => exact ⟨20, d1, rfl, Nat.le_refl _, by omega, HS.out, FN.out, SI.out⟩
      case round =>
        clear SI FN HS
        obtain ⟨k, dk, rfl, hk, hk2, HK2, LK, SK⟩ := hrel
        by_cases hlt2 : k < sz
        · have hlt3 : (k : Int) < (sz : Int) := by omega
          go_wp2
          go_loopw [7, 8] (fun va vb wr => ∃ (a b : Nat) (dk : Array α), va = .int .i64 a ∧ vb = .int .i64 b ∧ a ≤ sz ∧ a + 2 * k ≤ b ∧ b ≤ a + 2 * k ∧ Hid (dk.size = sz) ∧ Aside (Half lx tie k sz a d dk) ∧ Aside (St v w0 blk off d0 dk wr)) (fun va _ _ => sz - (intOf va).toNat)
          case atStart => exact ⟨0, 2 * k, dk, rfl, by go_num, Nat.zero_le _, by omega, by omega, HK2.out, LK.out.half, SK.out⟩
          case round =>
            clear SK LK HK2
            obtain ⟨a2, b2, dj, rfl, rfl, ha2, hab2, hba2, HJ, FJ, SJ⟩ := hrel
            have EA := Lib.hid (show (a2 : Int) + (k : Int) = ((a2 + k : Nat) : Int) by omega)
            by_cases hlt4 : b2 ≤ sz
            · have hlt5 : (b2 : Int) ≤ (sz : Int) := by omega
              go_wp2_with fail
              rw [EA.out]
              refine (IH.out a2 (a2 + k) b2 dj wr (by omega) (by omega) (by omega) hlt4 HJ.out SJ.out (FJ.out.rowA (by omega)) (FJ.out.rowB (by omega) hlt4) (FJ.out.cutA.row hlt4)).mono ?_
              rintro e w' ⟨rfl, hi⟩
              obtain ⟨dn, hp, hs, hw⟩ := hi
              have SI : Aside (St v w0 blk off d0 dn w') := hw
              have HS : Hid (dn.size = sz) := hp.1.trans HJ.out
              have FN : Aside (Half lx tie k sz b2 d dn) := by
                have e := FJ.out.next (by have := HZ.out; omega) (by omega) (d' := dn) (by rw [show a2 + 2 * k = b2 by omega]; exact hp) (by rw [show a2 + 2 * k = b2 by omega]; exact hs)
                rw [show a2 + 2 * k = b2 by omega] at e
                exact e
              clear hw hp hs SJ FJ EA
              go_wp2
              go_roundw
              case rel => exact ⟨b2, b2 + 2 * k, dn, rfl, by go_num, hlt4, by omega, by omega, HS.out, FN.out, SI.out⟩
              case measure => simp [intOf]; omega
            · have hlt5 : ¬ (b2 : Int) ≤ (sz : Int) := by omega
              by_cases hm : a2 + k < sz
              · have hm' : (a2 : Int) + (k : Int) < (sz : Int) := by omega
                go_wp2_with fail
                rw [EA.out]
                refine (IH.out a2 (a2 + k) sz dj wr (by omega) (by omega) hm (Nat.le_refl _) HJ.out SJ.out (FJ.out.rowA (by omega)) (FJ.out.rowB (by omega) (Nat.le_refl _)) (FJ.out.cutA.row (Nat.le_refl _))).mono ?_
                rintro e w' ⟨rfl, hi⟩
                obtain ⟨dn, hp, hs, hw⟩ := hi
                have SI : Aside (St v w0 blk off d0 dn w') := hw
                have HS : Hid (dn.size = sz) := hp.1.trans HJ.out
                have FN : Aside (Lev lx tie (2 * k) sz d dn) := FJ.out.last (by have := HZ.out; omega) ha2 (by omega) hp hs
                clear hw hp hs SJ FJ EA
                go_wp2
                go_roundw
                case rel => exact ⟨2 * k, dn, by go_num, by omega, by omega, HS.out, FN.out, SI.out⟩
                case measure => simp [intOf]; omega
              · have hm' : ¬ (a2 : Int) + (k : Int) < (sz : Int) := by omega
                have FN : Aside (Lev lx tie (2 * k) sz d dj) := FJ.out.alone (by have := HZ.out; omega) ha2 (by omega) (by omega)
                clear FJ EA
                go_wp2
                go_roundw
                case rel => exact ⟨2 * k, dj, by go_num, by omega, by omega, HJ.out, FN.out, SJ.out⟩
                case measure => simp [intOf]; omega
        · have hlt3 : ¬ (k : Int) < (sz : Int) := by omega
          go_wp2
          go_end0
          exact ⟨rfl, dk, LK.out.perm, LK.out.sorted (by omega), SK.out⟩
end Go.Proofs.Ytadaaoljpeojcaa
