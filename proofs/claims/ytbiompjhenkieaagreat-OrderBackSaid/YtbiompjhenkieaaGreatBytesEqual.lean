/-
  The library's bytes.Equal tells whether two rows of bytes are the same. Conditions: those of each theorem.
-/
import Derived.Test.YtbiompjhenkieaaGreatBase
import Derived.Laws.BytesArg
import Derived.Lib.Bytes
namespace Go.Proofs.YtbiompjhenkieaaGreat
open Go.RowKit
set_option maxRecDepth 100000

/-- Bytes as a string. -/
def strB (xs : List UInt8) : ByteArray := ⟨xs.toArray⟩
theorem strB_inj {xs ys : List UInt8} : ((strB xs).toList == (strB ys).toList) = decide (xs = ys) := by
  rw [Lib.toList_data, Lib.toList_data]
  show (xs.toArray.toList == ys.toArray.toList) = _
  rw [Bool.eq_iff_iff]
  simp
theorem conv_bytes {P : Program} (w : World) (a : Option Addr) (xs : List UInt8) (n c : Nat) (src e dst : TypeId) (hs : P.underlying src = some (.slice e)) (he : P.underlying e = some (.int .u8)) (hd : P.underlying dst = some .string)
    (hn : xs.length = n) (hx : IsBytes w a xs) : (convert src dst (.slice a n c)).run P w = .ok (.string (strB xs)) w := by
  subst hn
  rcases hx with rfl | ⟨b, off, rfl, _, hc⟩
  · cases a with
    | none => exact run_convert_bytes_nil w src e hs he 0 c dst hd
    | some p =>
      show (convert src dst (.slice (some p) 0 c)).run P w = _
      rw [run_convert_bytes_string w src dst e _ 0 c hs he hd]
      exact run_bytesToString w p 0 c [] (by simp [loadCells, loadCellsFrom])
  · have := run_convert_bytes_arg (P := P) w src e hs he b off xs.length c (xs.map fun x => (x.toNat : Int)) (by simp) (fun i hi => by rw [hc i hi]; simp [hi]) dst hd
    rw [this]
    congr 2
    unfold strOfNums strB
    congr 2
    rw [List.map_map]
    conv => rhs; rw [← List.map_id xs]
    apply List.map_congr_left
    intro x _
    simp
theorem bytes_equal (a b : Option Addr) (n m ca cb : Nat) (xs ys : List UInt8) (w : World) (hn : xs.length = n) (hm : ys.length = m) (ha : IsBytes w a xs) (hb : IsBytes w b ys) :
    Calls Tryz.prog 21 #[.slice a n ca, .slice b m cb] w fun e w' => e = .returned (.bool (decide (xs = ys))) ∧ w' = w := by
  have h1 := conv_bytes (P := Tryz.prog) w a xs n ca 29 5 9 Tryz.underlying29 Tryz.underlying5 Tryz.underlying9 hn ha
  have h2 := conv_bytes (P := Tryz.prog) w b ys m cb 29 5 9 Tryz.underlying29 Tryz.underlying5 Tryz.underlying9 hm hb
  have HI := Lib.hid (@strB_inj xs ys)
  generalize strB xs = A at *
  generalize strB ys = B at *
  generalize decide (xs = ys) = q at *
  clear hn hm ha hb
  go_enter Tryz.func21, Tryz.ntmps21
  go_wp2
  go_ret
  exact ⟨by rw [← HI.out]; rfl, rfl⟩
end Go.Proofs.YtbiompjhenkieaaGreat
