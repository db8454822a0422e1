/-
  The statements' comparison of two lists of bytes. Conditions: those of the theorem.
-/
import Derived.Test.YtdoaaambimkdkaaDiskF
namespace Go.Proofs.Ytdoaaambimkdkaa
open Go.RowKit

theorem take_eq {xs ys : List UInt8} {k : Nat} (h : xs.take k = ys.take k) (h1 : k < xs.length) (h2 : k < ys.length) (e : xs[k] = ys[k]) : xs.take (k+1) = ys.take (k+1) := by
  rw [List.take_succ_eq_append_getElem h1, List.take_succ_eq_append_getElem h2, h, e]

set_option maxHeartbeats 400000 in
theorem bytes_any0 (a b : Option Addr) (ca cb : Nat) (xs ys : List UInt8) (w : World) (ha : IsBytes w a xs) (hb : IsBytes w b ys)
   (hx : xs.length ≤ maxLen) (hy : ys.length ≤ maxLen) :
    Calls Try.prog 22 #[.slice a xs.length ca, .slice b ys.length cb] w fun e w' => e = .returned (.bool (decide (xs = ys))) ∧ ∃ n, w' = w.drewN n := by
  unfold maxLen at hx hy
  by_cases hl : xs.length = ys.length
  · have HL := Lib.hid hl
    have hle : ys.length ≤ xs.length := by omega
    go_enter Try.func22, Try.ntmps22
    go_wp2
    clear hl
    go_loopw [5, 13] (fun _ i wr => ∃ k : Nat, k ≤ ys.length ∧ i = .int .i64 k ∧ (∃ n, wr = w.drewN n) ∧ xs.take k = ys.take k)
      (fun _ i _ => ys.length - (intOf i).toNat)
    case atStart => exact ⟨0, by omega, rfl, ⟨0, rfl⟩, rfl⟩
    case round =>
      obtain ⟨k, hk, rfl, ⟨n, rfl⟩, hpre⟩ := hrel
      by_cases hlt : k < ys.length
      · rcases ha with rfl | ⟨ba, oa, rfl, _, hca⟩
        · simp at hle; simp [hle] at hlt
        rcases hb with rfl | ⟨bb, ob, rfl, _, hcb⟩
        · simp at hlt
        have c1 := hca k (by omega)
        have c2 := hcb k (by omega)
        have HP := Lib.hid hpre
        clear hca hcb hpre
        by_cases he : xs[k] = ys[k]
        · have hb1 : ((xs[k].toNat : Int) != (ys[k].toNat : Int)) = false := by simp [he]
          have H1 := Lib.hid he
          clear he
          go_wp2
          go_quiet (fail)
          go_wp2
          go_roundw
          case rel => exact ⟨k + 1, by omega, by go_num, ⟨n + nq, by first | rfl | exact World.drewN_drewN _ _ _⟩, take_eq HP.out (by omega) hlt H1.out⟩
          case measure => simp [intOf]; omega
        · have hb1 : ((xs[k].toNat : Int) != (ys[k].toNat : Int)) = true := by
            rw [bne_iff_ne]; intro e; exact he (UInt8.toNat_inj.1 (by omega))
          have hne : ¬ xs = ys := by intro e; subst e; exact he rfl
          have H1 := Lib.hid hne
          clear he hne
          go_wp2
          go_quiet (fail)
          go_wp2
          go_ret
          exact ⟨by simp [H1.out], n + nq, by first | rfl | exact World.drewN_drewN _ _ _⟩
      · go_wp2
        go_ret
        have e : xs = ys := by
          have := hpre
          have h1 : k = ys.length := by omega
          have h2 : k = xs.length := by have := HL.out; omega
          rw [List.take_of_length_le (by omega), List.take_of_length_le (by omega)] at this
          exact this
        exact ⟨by simp [e], n, rfl⟩
  · go_enter Try.func22, Try.ntmps22
    go_wp2
    go_ret
    exact ⟨by simp [show xs ≠ ys from fun e => hl (by rw [e])], 0, rfl⟩

theorem bytes_any (a b : Option Addr) (n m ca cb : Nat) (xs ys : List UInt8) (w : World) (hn : xs.length = n) (hm : ys.length = m) (ha : IsBytes w a xs) (hb : IsBytes w b ys) (hx : n ≤ maxLen) (hy : m ≤ maxLen) :
    Calls Try.prog 22 #[.slice a n ca, .slice b m cb] w fun e w' => e = .returned (.bool (decide (xs = ys))) ∧ Below w.heap.size w w' := by
  subst hn hm
  refine (bytes_any0 a b ca cb xs ys w ha hb hx hy).mono ?_
  rintro e w' ⟨he, n, rfl⟩
  exact ⟨he, ⟨rfl, rfl, rfl, Nat.le_refl _, fun _ _ => rfl⟩⟩
end Go.Proofs.Ytdoaaambimkdkaa
