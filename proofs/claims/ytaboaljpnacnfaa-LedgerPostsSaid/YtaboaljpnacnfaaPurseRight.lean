/-
  The document's Right. No conditions.
-/
import Derived.Test.YtaboaljpnacnfaaPurse
namespace Go.Proofs.Ytaboaljpnacnfaa
open Go.RowKit
set_option maxRecDepth 100000

theorem ref_right (a : Int) (w : World) : Calls Try.prog 9 #[.int .i64 a] w fun e w' => e = .returned (.bool (Rt a)) ∧ w = w' := by
  by_cases h1 : (-1125899906842624 : Int) ≤ a
  · by_cases h2 : a ≤ (1125899906842624 : Int)
    · have hr : Rt a = true := rt_iff.2 ⟨h1, h2⟩
      rw [hr]
      clear hr
      go_enter Try.func9, Try.ntmps9
      go_wp2
      go_ret
      exact ⟨rfl, rfl⟩
    · have hr : Rt a = false := rt_not.2 (by omega)
      rw [hr]
      clear hr
      go_enter Try.func9, Try.ntmps9
      go_wp2
      go_ret
      exact ⟨rfl, rfl⟩
  · have hr : Rt a = false := rt_not.2 (by omega)
    rw [hr]
    clear hr
    go_enter Try.func9, Try.ntmps9
    go_wp2
    go_ret
    exact ⟨rfl, rfl⟩

end Go.Proofs.Ytaboaljpnacnfaa
