/-
  TableReads: any bytes are a table's, just those, or refused. No conditions: every input.
-/
import Derived.Test.YtaogiocjgafohaaTableLaw
import Derived.Test.YtaogiocjgafohaaReadable
import Derived.Test.YtaogiocjgafohaaOwn
namespace Go.Proofs.Ytaogiocjgafohaa
open Go.RowKit Go.WideShapes
set_option maxRecDepth 100000

set_option maxHeartbeats 2000000 in
theorem tableReads_law (a : Option Addr) (xs : List UInt8) (m c : Nat) (w : World) (hn : xs.length = m) (hx : IsBytes w a xs) (hnc : a = none → c = 0) (hmc : m ≤ c) (hcm : c ≤ maxLen) :
    Calls Try.prog 5 #[.slice a m c] w fun e w' => e = .returned (.bool true) ∧ Below w.heap.size w w' := by
  by_cases h5 : m ≤ 5000
  · have h5' : ¬ 5000 < (m : Int) := by omega
    have HD : Aside (∀ W : World, Below w.heap.size w W → _) := fun W h => table_decode a xs m c W hn (hx.below h) hnc hmc h5
    have HRd : Aside (∀ W : World, Below w.heap.size w W → _) := fun W h => ref_readable a xs m c W hn (hx.below h) hmc hcm h5
    have HX : Aside (IsBytes w a xs) := hx
    have HN := Lib.hid hn
    clear hn hx hnc hmc hcm
    go_enter Try.func5, Try.ntmps5
    go_wp2_with fail
    refine (table_awake _).mono ?_
    rintro e w1 ⟨rfl, b1⟩
    go_wp2_with fail
    refine (HD.out _ b1).mono ?_
    rintro e w2 ⟨⟨a4, n4, c4, qs, k, rfl, hq, hqa, hk⟩, b2⟩
    have b3 := b1.trans (b2.mono b1.size)
    clear b2 b1 HD
    obtain ⟨rfl, hqr, hqt⟩ | ⟨rfl, rfl, hno⟩ := hk
    · have hq16 := (rightT_facts hqr).1
      have HQL := Lib.hid hq
      have HRT : Aside (Calls _ _ _ w2 _) := ref_rightTable a4 qs n4 c4 w2 hq hqa (by unfold maxLen; omega)
      have HBy : Aside (∀ W : World, Below w2.heap.size w2 W → _) := fun W h => ref_tableBytes a4 qs n4 c4 W hq (hqa.below h) hqr
      have HRT2 := HRT.out
      simp only [hqr] at HRT2
      have HRT3 : Aside _ := HRT2
      simp only [hqt] at HBy
      clear hq hqa hqr hqt HRT HRT2 HRd
      go_wp2_with fail
      refine Calls.mono HRT3.out ?_
      rintro e w4 ⟨rfl, b4⟩
      have HBy4 : Aside _ := HBy.out w4 b4
      have b5 := b3.trans (b4.mono b3.size)
      clear b4 b3 HBy
      go_wp2_with fail
      refine Calls.mono HBy4.out ?_
      rintro e w6 ⟨⟨a9, m9, c9, rfl, hr9⟩, b6⟩
      obtain ⟨g1, g2, -, -, -⟩ := bytes_of_row hr9
      have HG : Aside (IsBytes w6 a9 xs) := g1
      have HGL := Lib.hid g2
      have b7 := b5.trans (b6.mono b5.size)
      clear b6 b5 hr9 g1 g2
      go_wp2_with fail
      refine (bytes_any a9 a m9 m c9 c xs xs w6 HGL.out.symm HN.out HG.out (HX.out.below b7) (by have := HGL.out; have := HN.out; unfold maxLen; omega) (by unfold maxLen; omega)).mono ?_
      rintro e w8 ⟨rfl, b8⟩
      rw [decide_eq_true rfl]
      go_wp2
      go_ret
      exact ⟨rfl, b7.trans (b8.mono b7.size)⟩
    · have HNo : Hid (∀ qs, rightT qs = true → tableBytes qs ≠ xs) := hno
      clear hno hq hqa
      go_wp2_with fail
      refine (HRd.out _ b3).mono ?_
      rintro e w4 ⟨⟨r, rfl, hr⟩, b4⟩
      cases r with
      | true =>
        obtain ⟨ps, h1, h2⟩ := hr rfl
        exact absurd h2 (HNo.out ps h1)
      | false =>
        clear hr
        go_wp2
        go_ret
        exact ⟨rfl, b3.trans (b4.mono b3.size)⟩
  · have h5' : 5000 < (m : Int) := by omega
    go_enter Try.func5, Try.ntmps5
    go_wp2_with fail
    refine (table_awake _).mono ?_
    rintro e w1 ⟨rfl, b1⟩
    go_wp2_with fail
    refine (table_awake _).mono ?_
    rintro e w2 ⟨rfl, b2⟩
    go_wp2
    go_ret
    exact ⟨rfl, b1.trans (b2.mono b1.size)⟩

theorem tableReads_contract (W : World) (args : Array Value) (h : Each Try.prog W Try.f5.params.toList args.toList) :
    Calls Try.prog 5 args W fun e W' => e = .returned (.bool true) ∧ Below W.heap.size W W' := by
  rw [Try.params5] at h
  obtain ⟨v0, r0, e0, ⟨_, o0⟩, d0, h⟩ := h.cons
  obtain rfl := h.nil
  obtain ⟨args⟩ := args
  obtain rfl : args = [v0] := e0
  obtain ⟨sa0, sn0, sc0, rfl, hsc0⟩ := val_slice o0 Try.underlying24
  rw [hsc0] at d0
  obtain ⟨a0', c0', xs0, e, h1, h2, h3, h4⟩ := d0.bytes Try.underlying24 Try.underlying5 (by kernel_rfl)
  injection e with e _
  injection e with e1 e2 e3
  subst e1 e2 e3
  exact tableReads_law sa0 xs0 xs0.length sc0 W rfl h3 h4 h1 h2

theorem tableReads_lifted (os : Os) (started : os.Started) (H : Type) (enc : TypeId × Value → H) :
    ReturnsInHanded {} Try.checked os 5 .any (Rows.tableReadsSpec.pre6 enc Try.prog Try.f5 Rows.tableReadsRow.domain false) (Rows.tableReadsSpec.post enc Try.prog Try.f5 false true false false) :=
  law_lifted (C := Try.checked) seat_own seat_laid (by kernel_rfl) Try.func5 rfl (tb := 4) rfl Try.underlying4
    (by
      rw [Try.params5]; intro t ht; simp at ht
      obtain rfl := ht; exact ⟨by kernel_rfl, of_decide_eq_true (by kernel_rfl)⟩)
    (fun H ds hl => by
      rw [Try.params5] at hl
      match ds, hl with
      | [d1], _ => rfl)
    os started H enc
    (ChangeSpec.witness6 (enc := enc) (C := Try.checked) false ⟨#[], #[.slice none 0 0], []⟩ 8 (by kernel_rfl) (by kernel_rfl) (by kernel_rfl) (by kernel_rfl))
    tableReads_contract

theorem tableReads_holds : Rows.TableReadsSaid :=
  OpenClaim.holds_of_wide 5 Try.f5 rfl rfl rfl rfl rfl rfl rfl ⟨rfl, rfl, rfl, rfl, rfl⟩ rfl rfl rfl rfl rfl (by kernel_rfl) Try.func5 (by kernel_rfl)
    (of_decide_eq_true (by kernel_rfl)) (by unfold Func.isWrapper; first | (rw [if_pos (by decide +kernel)]; kernel_rfl) | (rw [if_neg (by decide +kernel)]; exact ⟨rfl, rfl⟩))
    (fun os started H enc _ => tableReads_lifted os started H enc)
#print axioms tableReads_holds
end Go.Proofs.Ytaogiocjgafohaa
