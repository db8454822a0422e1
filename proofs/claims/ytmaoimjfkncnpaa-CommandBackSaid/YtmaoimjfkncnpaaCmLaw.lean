/-
  The laws of layer 15, what they share: a copy is formed just if the command is. Conditions: those of each theorem.
-/
import Derived.Test.YtmaoimjfkncnpaaCmCopy
import Derived.Test.YtmaoimjfkncnpaaCmDec
namespace Go.Proofs.Ytmaoimjfkncnpaa
open Go.RowKit
set_option maxRecDepth 100000

theorem FormedC.at1 {r : Com} {us : List Int} (a : Option Addr) (c : Nat) : FormedC (r.at1 a c) us ↔ FormedC r us := ⟨fun h => h.same (show sameB (r.at1 a c) r us us = true from sameB_self r us), fun h => h.same (show sameB r (r.at1 a c) us us = true from sameB_self r us)⟩
theorem Fit64.at1 {r : Com} {us : List Int} (h : Fit64 r us) (a : Option Addr) (c : Nat) : Fit64 (r.at1 a c) us := ⟨h.kind, h.ord, h.us, h.rea, h.want, h.rma, h.unit, h.grd, h.days, h.key⟩
theorem LiAt.past {w X w' : World} {a : Option Addr} {n c : Nat} {xs : List Int} (h : LiAt w a n c xs) (hX : Below w.heap.size w X) (l : Below X.heap.size X w') : LiAt w' a n c xs := (h.below hX).below l
end Go.Proofs.Ytmaoimjfkncnpaa
