/-
  The statements' first look at the program (awake) answers true. No conditions.
-/
import Derived.Test.YtljoalihioflmaaDiskE
import Derived.Lib.SmallJoins
namespace Go.Proofs.Ytljoalihioflmaa
open Go.RowKit
set_option maxRecDepth 100000

theorem awake_append : (DM.new 10).append 1 [97, 98, 99] = (0, (DM.new 10).set 1 { has := true, b := [97, 98, 99], safe := 0 }) := rfl

set_option maxHeartbeats 1000000 in
theorem awake_any (w : World) :
    Calls Try.prog 11 #[] w fun e w' => e = .returned (.bool true) ∧ Below w.heap.size w w' := by
  have kc := fun (W : World) (C : Array Value) (n c g : Nat) (hg : g = W.heap.size) => Joins.run_convert_bytes_const_at (P := Try.prog) W 31 5 C n c g hg Try.underlying31 Try.underlying5
  go_enter Try.func11, Try.ntmps11
  go_wp2_with fail
  refine (new_in 10 w (by decide)).mono ?_
  rintro e w1 ⟨rfl, ⟨V, h1⟩, b1, s1⟩
  have S1 := Lib.hid s1
  clear s1
  go_wp2_with fail
  have b2 : Below w1.heap.size w1 (w1.alloc (.cells #[.int .u8 97, .int .u8 98, .int .u8 99] 5 (3, 4))) := (Below.refl _ _).alloc (Nat.le_refl _) _
  have h2 := h1.below b2
  have hlt := h1.lt _ h1.own
  refine (append_in h2 1 (some ⟨w1.heap.size, 0, none⟩) [97, 98, 99] 3 (by decide) (by decide) (.inr ⟨_, _, rfl, by simp, ?_⟩) (fun x => by cases x) (fun _ x hx => by cases hx; simp; omega)).mono ?_
  · intro i hi
    rw [Nat.zero_add, World.cell?_alloc_mark]
    match i, hi with
    | 0, _ => rfl
    | 1, _ => rfl
    | 2, _ => rfl
  rw [awake_append]
  rintro e w3 ⟨rfl, S3, V3, h3, u3, _⟩
  have b3 : Below w.heap.size w w3 := b1.trans ((b2.mono b1.size).trans (u3.toBelow (by have := b1.size; have := b2.size; omega) (fun k hk => by omega)))
  go_wp2_with fail
  refine (size_in h3 1 (by decide)).mono ?_
  rintro e w4 ⟨rfl, b4⟩
  have h4 := h3.below b4
  go_wp2_with fail
  refine (safe_in h4 1 (by decide)).mono ?_
  rintro e w5 ⟨rfl, b5⟩
  go_wp2
  go_ret
  exact ⟨rfl, b3.trans ((b4.mono b3.size).trans (b5.mono (Nat.le_trans b3.size b4.size)))⟩
end Go.Proofs.Ytljoalihioflmaa
