/-
  The laws of layer 6, what they share: awake, Same. Conditions: those of the theorems.
-/
import Derived.Test.YtadaaoljpeojcaaSplitC
namespace Go.Proofs.Ytadaaoljpeojcaa
open Go.RowKit
set_option maxRecDepth 100000

/-- What is told: the shares, or none. -/
def sharesR (s : Int) (ws : List Int) : List Int := if errS s ws = 0 then sharesOf s ws else []
theorem sharesR_length {s : Int} {ws : List Int} : (sharesR s ws).length ≤ 200 := by
  unfold sharesR
  by_cases h : errS s ws = 0
  · rw [if_pos h, sharesOf_length]
    cases hr : rightW ws with
    | true => exact (rightW_few hr).2
    | false => rw [errS_arg hr] at h; cases h
  · rw [if_neg h]; exact Nat.zero_le _
theorem SharesEnd.out {s : Int} {ws : List Int} {w : World} {e : Ending} {w' : World} (h : SharesEnd s ws w e w') :
    ∃ (a : Option Addr) (n : Nat), e = .returned (.tuple #[.slice a n n, .int .i64 (errS s ws)]) ∧ (sharesR s ws).length = n ∧ n ≤ 200 ∧ IsInts w' a (sharesR s ws) ∧ Below w.heap.size w w' := by
  have hl := sharesR_length (s := s) (ws := ws)
  obtain ⟨hb, ⟨h1, rfl⟩ | ⟨h1, S, rfl, _, h3, h4⟩⟩ := h
  · refine ⟨none, 0, rfl, ?_, Nat.zero_le _, .inl ?_, hb⟩ <;> unfold sharesR <;> rw [if_neg h1]
    rfl
  · have e1 : sharesR s ws = sharesOf s ws := by unfold sharesR; rw [if_pos h1]
    rw [e1, sharesOf_length] at hl
    refine ⟨some ⟨S, 0, none⟩, ws.length, by rw [h1], by rw [e1, sharesOf_length], hl, .inr ⟨S, 0, rfl, h3, fun i hi => ?_⟩, hb⟩
    rw [e1, sharesOf_length] at hi
    rw [Nat.zero_add, h4 i hi]
    simp [e1, List.getD, sharesOf_length, hi]

theorem split_awake (w : World) : Calls Try.prog 7 #[] w fun e w' => e = .returned (.bool true) ∧ Below w.heap.size w w' := by
  have hS : ∀ W : World, w.heap.size < W.heap.size → Below w.heap.size w W → (∀ i (h : i < [(1 : Int), 1, 1].length), W.cell? ⟨w.heap.size, 0 + i, none⟩ = some (.int .i64 [(1 : Int), 1, 1][i])) →
      Calls Try.prog 8 #[.int .i64 100, .slice (some ⟨w.heap.size, 0, none⟩) 3 3] W fun e w' => ∃ S : Nat, e = .returned (.tuple #[.slice (some ⟨S, 0, none⟩) 3 3, .int .i64 0]) ∧ w'.cell? ⟨S, 0, none⟩ = some (.int .i64 34) ∧ Below w.heap.size w w' := by
    intro W h1 h2 h3
    refine (split_shares (some ⟨w.heap.size, 0, none⟩) [1, 1, 1] 3 3 100 W rfl (.inr ⟨_, 0, rfl, h1, h3⟩) (by decide)).mono ?_
    rintro e w' ⟨hb, ⟨h4, _⟩ | ⟨_, S, rfl, _, _, h5⟩⟩
    · exact absurd (show errS 100 [1, 1, 1] = 0 by decide +kernel) h4
    · refine ⟨S, rfl, ?_, h2.trans (hb.mono h2.size)⟩
      rw [h5 0 (by decide), show (sharesOf 100 [1, 1, 1]).getD 0 0 = 34 by decide +kernel]
  have HS : Aside _ := hS
  clear hS
  go_enter Try.func7, Try.ntmps7
  go_wp2_with fail
  refine (HS.out _ (by simp) ((Below.refl _ _).alloc (Nat.le_refl _) _) (fun i hi => ?_)).mono ?_
  · match i, hi with
    | 0, _ => simp
    | 1, _ => simp
    | 2, _ => simp
  rintro e w1 ⟨S, rfl, hc, hb⟩
  go_wp2
  go_ret
  exact ⟨rfl, hb⟩

theorem split_same (a b : Option Addr) (xs : List Int) (n c d : Nat) (w : World) (hn : xs.length = n) (hm : n ≤ 200) (hx : IsInts w a xs) (hy : IsInts w b xs) :
    Calls Try.prog 10 #[.slice a n c, .slice b n d] w fun e w' => e = .returned (.bool true) ∧ Below w.heap.size w w' := by
  have HN := Lib.hid hn
  clear hn
  go_enter Try.func10, Try.ntmps10
  go_wp2
  go_loopw [13] (fun i wr => ∃ k : Nat, k ≤ n ∧ i = .int .i64 k ∧ Aside (Below w.heap.size w wr)) (fun i _ => n - (intOf i).toNat)
  case atStart => exact ⟨0, Nat.zero_le _, rfl, Below.refl _ _⟩
  case round =>
    obtain ⟨k, hk, rfl, BK⟩ := hrel
    by_cases hlt : k < n
    · have hkn : (k : Int) < (n : Int) := by omega
      have hlk : k < xs.length := by rw [HN.out]; exact hlt
      rcases hx with rfl | ⟨b1, o1, rfl, hb1, hc1⟩
      · have := HN.out; simp at this; omega
      rcases hy with rfl | ⟨b2, o2, rfl, hb2, hc2⟩
      · have := HN.out; simp at this; omega
      have h1 := hc1 k hlk
      have h2 := hc2 k hlk
      rw [← BK.out.cell (p := ⟨b1, o1 + k, none⟩) hb1] at h1
      rw [← BK.out.cell (p := ⟨b2, o2 + k, none⟩) hb2] at h2
      clear hc1 hc2
      generalize xs[k] = x at *
      go_wp2_with fail
      go_quiet (fail)
      go_wp2
      go_roundw
      case rel => exact ⟨k + 1, by omega, by go_num, below_drawn' BK.out nq⟩
      case measure => simp [intOf]; omega
    · obtain rfl : k = n := by omega
      go_wp2
      go_ret
      exact ⟨rfl, BK.out⟩
end Go.Proofs.Ytadaaoljpeojcaa
