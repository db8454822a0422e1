/-
  The codec statements' own test: recouplaw02.awake answers true. Conditions: none.
-/
import Derived.Test.YtljoalihioflmaaNumbers
namespace Go.Proofs.Ytljoalihioflmaa
open Go.RowKit
set_option maxRecDepth 100000

theorem OutAt.new (w : World) : OutAt (w.alloc (.cells #[.slice none 0 0, .bool false] 56)) w.heap.size (fun k => k = w.heap.size) [] false :=
  ⟨fun _ => rfl, rfl, fun k hk => by subst hk; simp, ⟨_, heap_alloc_new w _, rfl⟩, ⟨none, 0, by simp, World.ownsRow_nil _ _ _ _, fun g hg => by simp [Value.ownBlock] at hg⟩, by simp⟩

/-- Nothing below B has turned, where only blocks from B on have. -/
theorem upd_below {B : Nat} {S : Nat → Prop} {w w' : World} (h : Upd S w w') (hB : B ≤ w.heap.size) (hs : ∀ k, S k → B ≤ k) : Below B w w' :=
  h.toBelow hB (fun k hk hS => by have := hs k hS; omega)

theorem put258 : putN [] false 258 2 = ([2, 1], false) := by decide +kernel
theorem took258 : took [2, 1] false 2 = ([2, 1], [], false) := by decide +kernel
theorem num258 : numLe [2, 1] = 258 := by decide +kernel

set_option maxHeartbeats 800000 in
theorem codec_awake (w : World) : Calls Try.prog 31 #[] w fun e w' => e = .returned (.bool true) ∧ Below w.heap.size w w' := by
  go_enter Try.func31, Try.ntmps31
  go_wp2_with fail
  have A0 : Below w.heap.size w (w.alloc (.cells #[.slice none 0 0, .bool false] 56)) := (Below.refl _ _).alloc (Nat.le_refl _) _
  refine (out_u16 (OutAt.new w) 258 ⟨by decide, by decide⟩ (by simp)).mono ?_
  rw [put258]
  rintro e w1 ⟨rfl, S1, h1, u1, m1⟩
  have hS1 : ∀ k, S1 k → w.heap.size ≤ k := fun k hk => by
    rcases m1 k hk with x | x
    · have h9 : k = w.heap.size := x; omega
    · simp at x; omega
  have B1 : Below w.heap.size w w1 := A0.trans (upd_below u1 (by simp) (fun k hk => by have h9 : k = w.heap.size := hk; omega))
  go_wp2_with fail
  refine (end_in h1 (by decide)).mono ?_
  rintro e w2 ⟨⟨a, c, rfl, hr⟩, b2⟩
  obtain ⟨g1, _, g3, g4, g5⟩ := bytes_of_row hr
  have B2 : Below w.heap.size w w2 := B1.trans (b2.mono B1.size)
  have hc0 : ∃ b off, a = some ⟨b, off, none⟩ ∧ w2.cell? ⟨b, off, none⟩ = some (.int .u8 2) := by
    rcases g1 with h | ⟨b, off, rfl, _, hc⟩
    · cases h
    · exact ⟨b, off, rfl, hc 0 (by decide)⟩
  obtain ⟨b, off, rfl, hc0⟩ := hc0
  have e2 : ([2, 1] : List UInt8).length = 2 := rfl
  have ee : endE false = 0 := rfl
  rw [e2, ee]
  clear hr b2 h1 u1 m1
  go_wp2_with fail
  refine (in_new _ [2, 1] 2 c w2 rfl g1 g5 (by decide)).mono ?_
  rintro e w3 ⟨p, S, rfl, hi, b3, hs⟩
  go_wp2_with fail
  refine (in_u16 hi).mono ?_
  rw [took258, num258]
  rintro e w4 ⟨rfl, d4⟩
  have B4 : Below w.heap.size w w4 := (B2.trans (b3.mono B2.size)).trans (upd_below d4.2 (Nat.le_trans B2.size b3.size) (fun k hk => by
    have h9 : k = p := hk
    subst h9
    exact Nat.le_trans B2.size (hs _ hi.own)))
  go_wp2
  go_ret
  exact ⟨rfl, B4⟩
end Go.Proofs.Ytljoalihioflmaa
