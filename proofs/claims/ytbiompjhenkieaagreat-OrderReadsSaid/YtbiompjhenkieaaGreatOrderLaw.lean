/-
  The laws of layer 10, what they share: awake. Conditions: those of the theorems.
-/
import Derived.Test.YtbiompjhenkieaaGreatOrderCode
import Derived.Test.YtbiompjhenkieaaGreatBase
namespace Go.Proofs.YtbiompjhenkieaaGreat
open Go.RowKit
set_option maxRecDepth 100000

def cfg0 : Cfg := ⟨[], [], []⟩
def cfg1 : Cfg := ⟨[], [⟨1, 2, 3⟩], []⟩
theorem cfg0_is (w : World) : CfgIs w none 0 none 0 none 0 cfg0 := ⟨rfl, rfl, rfl, .inl rfl, .inl rfl, .inl rfl, by decide, by decide, by decide⟩
theorem cfg1_is (w : World) (t : TypeId) : CfgIs (w.alloc (.cells #[.int .i64 1, .int .i64 2, .int .i64 3] t)) none 0 (some ⟨w.heap.size, 0, none⟩) 1 none 0 cfg1 :=
  ⟨rfl, rfl, rfl, .inl rfl, .inr ⟨w.heap.size, 0, rfl, by simp, fun i hi => by
    obtain rfl : i = 0 := by simpa [cfg1] using hi
    exact arr_new w #[.int .i64 1, .int .i64 2, .int .i64 3] t⟩, .inl rfl, by decide, by decide, by decide⟩
theorem cfg0_fit : CfgFit cfg0 := ⟨fun x hx => by simp [cfg0] at hx, fun x hx => by simp [cfg0] at hx, fun x hx => by simp [cfg0] at hx⟩
theorem cfg1_fit : CfgFit cfg1 := ⟨fun x hx => by simp [cfg1] at hx, fun x hx => by
  obtain rfl : x = ⟨1, 2, 3⟩ := by simpa [cfg1] using hx
  exact ⟨⟨by decide, by decide⟩, ⟨by decide, by decide⟩, ⟨by decide, by decide⟩⟩, fun x hx => by simp [cfg1] at hx⟩
theorem caps0 : CfgCaps 0 0 0 0 0 0 := ⟨⟨by decide, by decide⟩, ⟨by decide, by decide⟩, ⟨by decide, by decide⟩⟩
theorem caps1 : CfgCaps 0 0 1 1 0 0 := ⟨⟨by decide, by decide⟩, ⟨by decide, by decide⟩, ⟨by decide, by decide⟩⟩

set_option maxHeartbeats 1000000 in
theorem order_awake (w : World) : Calls Tryz.prog 5 #[] w fun e w' => e = .returned (.bool true) ∧ Below w.heap.size w w' := by
  have HU : Aside (∀ W, Calls Tryz.prog 13 #[.agg #[.slice none 0 0, .slice (some ⟨W.heap.size, 0, none⟩) 1 1, .slice none 0 0]] (W.alloc (.cells #[.int .i64 1, .int .i64 2, .int .i64 3] 42)) fun e w' => (∃ a c, e = .returned (.tuple #[.slice a 3 c, .int .i64 0])) ∧ Below W.heap.size W w') := fun W => by
    refine (order_units _ _ _ _ _ _ _ _ _ cfg1 _ (cfg1_is W 42) cfg1_fit caps1).mono ?_
    rintro e w' ⟨⟨a, n, c, h1, h2, -⟩, hb⟩
    have e1 : errC cfg1 = 0 := by decide
    have e2 : (unitsV cfg1).length = 3 := by decide
    rw [e2] at h2
    subst h2
    rw [e1] at h1
    exact ⟨⟨a, c, h1⟩, ((Below.refl _ _).alloc (Nat.le_refl _) _).trans (hb.mono (by simp))⟩
  have HR : Aside (∀ W, Calls Tryz.prog 14 #[.agg #[.slice none 0 0, .slice none 0 0, .slice none 0 0]] W fun e w' => e = .returned (.bool true) ∧ Below W.heap.size W w') := fun W => by
    have := order_right none none none 0 0 0 0 0 0 cfg0 W (cfg0_is W) cfg0_fit caps0
    rwa [show rightC cfg0 = true by decide] at this
  go_enter Tryz.func5, Tryz.ntmps5
  go_wp2_with fail
  refine Calls.mono (HU.out _) ?_
  rintro e w1 ⟨⟨a, c, rfl⟩, b1⟩
  have HB1 : Aside _ := b1
  go_wp2_with fail
  refine Calls.mono (HR.out _) ?_
  rintro e w2 ⟨rfl, b2⟩
  have HB2 : Aside _ := HB1.out.trans (b2.mono HB1.out.size)
  go_wp2
  go_ret
  exact ⟨rfl, HB2.out⟩
end Go.Proofs.YtbiompjhenkieaaGreat
