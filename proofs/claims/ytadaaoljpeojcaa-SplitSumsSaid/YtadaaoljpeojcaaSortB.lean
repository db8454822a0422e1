/-
  The library's stable sort, a rotation. Conditions: those of the theorem.
-/
import Derived.Test.YtadaaoljpeojcaaSortA
namespace Go.Proofs.Ytadaaoljpeojcaa
open Go.RowKit Go.Sort
set_option maxRecDepth 100000
variable {α : Type} [Inhabited α]

def Rotated (v : α → Int) (w0 : World) (blk off a m b : Nat) (d0 d : Array α) (w' : World) : Prop := ∃ d', Rot a m b d d' ∧ St v w0 blk off d0 d' w'
def RotLeft (a m b i j : Nat) (d dk : Array α) : Prop := ∀ d', Rot (m - i) m (m + j) dk d' → Rot a m b d d'

set_option maxHeartbeats 1000000 in
theorem sort_rotate (v : α → Int) (fn : Value) (w0 w : World) (blk off cap a m b sz : Nat) (d0 d : Array α) (S : St v w0 blk off d0 d w) (hz : d.size = sz) (ham : a < m) (hmb : m < b) (hb : b ≤ sz) (hsz : sz < 4611686018427387904) :
    Calls Try.prog 38 #[.slice (some ⟨blk, off, none⟩) sz cap, .int .i64 a, .int .i64 m, .int .i64 b, fn] w fun e w' => e = .returned (.tuple #[]) ∧ Rotated v w0 blk off a m b d0 d w' := by
  have S0 : Aside (St v w0 blk off d0 d w) := S
  have HZ := Lib.hid hz
  clear S hz
  go_enter Try.func38, Try.ntmps38
  go_wp2
  go_loopw [10, 11] (fun vi vj wr => ∃ (i j : Nat) (dk : Array α), vi = .int .i64 i ∧ vj = .int .i64 j ∧ 0 < i ∧ 0 < j ∧ i + a ≤ m ∧ m + j ≤ b ∧ Hid (dk.size = sz) ∧ Aside (RotLeft a m b i j d dk) ∧ Aside (St v w0 blk off d0 dk wr)) (fun vi vj _ => (intOf vi).toNat + (intOf vj).toNat)
  case atStart =>
    refine ⟨m - a, b - m, d, by congr 1; omega, by congr 1; omega, by omega, by omega, by omega, by omega, HZ.out, ?_, S0.out⟩
    show RotLeft _ _ _ _ _ _ _
    intro d' h
    rwa [show m - (m - a) = a by omega, show m + (b - m) = b by omega] at h
  case round =>
    clear S0
    obtain ⟨i, j, dk, rfl, rfl, hi, hj, him, hjb, HK, RL, SK⟩ := hrel
    have hsi : (m : Int) - (i : Int) = ((m - i : Nat) : Int) := by omega
    by_cases hij : i = j
    · subst hij
      have HI := Lib.hid hsi
      clear hsi
      go_wp2_with fail
      rw [HI.out]
      refine (sort_swapRange v _ w0 wr blk off cap (m - i) m i sz d0 dk SK.out HK.out (by omega) (by omega) hsz).mono ?_
      rintro e w' ⟨rfl, d', SW, ST⟩
      go_wp2
      go_end0
      exact ⟨rfl, d', RL.out d' (Rot.of_swapped (by rwa [show m + i - m = i by omega]) (by omega) (by omega) (by omega)), ST⟩
    · have hne : ¬ (i : Int) = (j : Int) := by omega
      by_cases hgt : j < i
      · have hgt' : (j : Int) < (i : Int) := by omega
        have HI := Lib.hid hsi
        clear hsi
        go_wp2_with fail
        rw [HI.out]
        refine (sort_swapRange v _ w0 wr blk off cap (m - i) m j sz d0 dk SK.out HK.out (by omega) (by omega) hsz).mono ?_
        rintro e w' ⟨rfl, d', SW, ST⟩
        have A1 : Aside (Swapped (m - i) m j dk d') := SW
        have A2 : Aside (St v w0 blk off d0 d' w') := ST
        clear SW ST
        go_wp2
        go_roundw
        case rel =>
          refine ⟨i - j, j, d', by congr 1; omega, rfl, by omega, hj, by omega, hjb, A1.out.size.trans HK.out, ?_, A2.out⟩
          show RotLeft _ _ _ _ _ _ _
          intro d2 h2
          exact RL.out d2 (Rot.left_more A1.out (by rwa [show m - i + j = m - (i - j) by omega]) rfl (by omega))
        case measure => simp [intOf]; omega
      · have hgt' : ¬ (j : Int) < (i : Int) := by omega
        have hsj : (m : Int) + (j : Int) - (i : Int) = ((m + j - i : Nat) : Int) := by omega
        have HI := Lib.hid hsi
        have HJ := Lib.hid hsj
        clear hsi hsj
        go_wp2_with fail
        rw [HI.out, HJ.out]
        refine (sort_swapRange v _ w0 wr blk off cap (m - i) (m + j - i) i sz d0 dk SK.out HK.out (by omega) (by omega) hsz).mono ?_
        rintro e w' ⟨rfl, d', SW, ST⟩
        have A1 : Aside (Swapped (m - i) (m + j - i) i dk d') := SW
        have A2 : Aside (St v w0 blk off d0 d' w') := ST
        clear SW ST
        go_wp2
        go_roundw
        case rel =>
          refine ⟨i, j - i, d', rfl, by congr 1; omega, hi, by omega, him, by omega, A1.out.size.trans HK.out, ?_, A2.out⟩
          show RotLeft _ _ _ _ _ _ _
          intro d2 h2
          exact RL.out d2 (Rot.right_more A1.out (by rwa [show m + j - i = m + (j - i) by omega]) (by omega) (by omega))
        case measure => simp [intOf]; omega
end Go.Proofs.Ytadaaoljpeojcaa
