/-
  What a seat's program is laid as. No conditions.
-/
import Derived.Test.YtjlgjdmnjjfhnaaLaw
namespace Go.Proofs.Ytjlgjdmnjjfhnaa
open Go.RowKit
theorem seat_own : ownKnob Try.prog.godebug = none := by kernel_rfl
theorem seat_laid : laidOutB Try.prog = true := by kernel_rfl
end Go.Proofs.Ytjlgjdmnjjfhnaa
