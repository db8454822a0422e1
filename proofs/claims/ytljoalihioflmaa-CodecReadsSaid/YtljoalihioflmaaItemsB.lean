/-
  The codec statements' own answer: recouplaw02.bytes. Conditions: those of each theorem.
-/
import Derived.Test.YtljoalihioflmaaItems
import Derived.Deep.RegionHeld3
import Derived.Deep.RegionLaw
namespace Go.Proofs.Ytljoalihioflmaa
open Go.RowKit
set_option maxRecDepth 100000

/-- An item's bytes, by the document. -/
def docB (x : Item) : List UInt8 :=
  if x.kind = 0 then le (IntKind.u64.wrap x.V) 1 else if x.kind = 1 then le (IntKind.u64.wrap x.V) 2 else if x.kind = 2 then le (IntKind.u64.wrap x.V) 4
  else if x.kind = 3 then le (IntKind.u64.wrap x.L) 8 else if x.kind = 4 then [if x.F then 1 else 0] else if x.kind = 5 then le x.B.length 2 ++ x.B else x.B
/-- Whether it can be put. -/
def okB (x : Item) : Bool :=
  if x.kind = 0 then fits x.V 1 else if x.kind = 1 then fits x.V 2 else if x.kind = 2 then fits x.V 4 else if x.kind = 5 then decide (x.B.length < 65536) else true

/-- What 'bytes' answers. -/
def BytesOut (w : World) (bs : List UInt8) (ok : Bool) (e : Ending) (w' : World) : Prop :=
  ∃ a c, e = .returned (.tuple #[.slice a bs.length c, .bool ok]) ∧ IsBytes w' a bs ∧ (a = none → c = 0) ∧ Below w.heap.size w w'

theorem u64_lo (v : Int) : 0 ≤ IntKind.u64.wrap v ∧ IntKind.u64.wrap v ≤ 18446744073709551615 := by
  have : IntKind.u64.wrap v = v % 18446744073709551616 := by simp [IntKind.wrap, IntKind.signed, IntKind.bits]
  rw [this]
  omega

theorem bytes_over {W w : World} {B : Nat} (hb : Below B W w) (hB : B ≤ W.heap.size) (v : Int) (size : Nat) (hs : size ≤ 1000) :
    Calls Try.prog 68 #[.int .u64 (IntKind.u64.wrap v), .int .i64 size] w fun e w' => ∃ a c, e = .returned (.slice a size c) ∧ w'.ownsRow w.heap.size 5 1 (.slice a size c) size ((le (IntKind.u64.wrap v) size).map bval) ∧ Below B W w' ∧ Below w.heap.size w w' :=
  (bytes_ref _ size w (u64_lo v).1 (u64_lo v).2 hs).mono fun _ _ ⟨⟨a, c, h1, h2⟩, h3⟩ => ⟨a, c, h1, h2, hb.trans (h3.mono (Nat.le_trans hB hb.size)), h3⟩
theorem bytesOut_mk {w W w2 : World} {bs : List UInt8} {a : Option Addr} {n c base : Nat} {ok ok' : Bool} (A0 : Below w.heap.size w W) (b2 : Below W.heap.size W w2) (hn : bs.length = n)
    (hr : w2.ownsRow base 5 1 (.slice a n c) n (bs.map bval)) (h : ok = ok') : BytesOut w bs ok (.returned (.tuple #[.slice a n c, .bool ok'])) w2 := by
  subst hn h
  obtain ⟨g1, _, _, _, g5⟩ := bytes_of_row hr
  exact ⟨a, c, rfl, g1, g5, A0.trans (b2.mono A0.size)⟩
end Go.Proofs.Ytljoalihioflmaa
