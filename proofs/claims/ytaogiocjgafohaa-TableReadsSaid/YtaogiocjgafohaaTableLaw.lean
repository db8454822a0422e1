/-
  The laws of layer 8, what they share: awake. Conditions: those of the theorems.
-/
import Derived.Test.YtaogiocjgafohaaTableCode
import Derived.Test.YtaogiocjgafohaaPolArgs
import Derived.Test.YtaogiocjgafohaaSlices
namespace Go.Proofs.Ytaogiocjgafohaa
open Go.RowKit
set_option maxRecDepth 100000

theorem table_awake (w : World) : Calls Try.prog 7 #[] w fun e w' => e = .returned (.bool true) ∧ Below w.heap.size w w' := by
  have h1 : ∀ W : World, Calls Try.prog 8 #[.slice none 0 0] W fun e w' => (∃ (a' : Option Addr) (c' : Nat), e = .returned (.tuple #[.slice a' 2 c', .int .i64 0])) ∧ Below W.heap.size W w' := fun W =>
    (table_encode none [] 0 0 W rfl (.inl rfl) (by decide)).mono fun e w' ⟨⟨a', m, c', ys, he, hy, _, _, _, _, hys⟩, hb⟩ => by
      rw [show rightT [] = true from rfl, if_pos rfl] at hys he
      subst hys
      obtain rfl : 2 = m := hy
      exact ⟨⟨a', c', he⟩, hb⟩
  have h2 : ∀ W : World, Calls Try.prog 10 #[.slice none 0 0] W fun e w' => e = .returned (.bool true) ∧ Below W.heap.size W w' := fun W => table_right none [] 0 0 W rfl (.inl rfl) (by decide)
  have H1 : Aside _ := h1
  have H2 : Aside _ := h2
  clear h1 h2
  go_enter Try.func7, Try.ntmps7
  go_wp2_with fail
  refine (H1.out _).mono ?_
  rintro e w1 ⟨⟨a', c', rfl⟩, b1⟩
  go_wp2_with fail
  refine (H2.out _).mono ?_
  rintro e w2 ⟨rfl, b2⟩
  go_wp2
  go_ret
  exact ⟨rfl, b1.trans (b2.mono b1.size)⟩
end Go.Proofs.Ytaogiocjgafohaa
