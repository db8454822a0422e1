/-
  TableWrites: any table has the bytes that the document says, or is none. No conditions: every input.
-/
import Derived.Test.YtaogiocjgafohaaTableLaw
import Derived.Test.YtaogiocjgafohaaOwn
namespace Go.Proofs.Ytaogiocjgafohaa
open Go.RowKit Go.WideShapes
set_option maxRecDepth 100000

set_option maxHeartbeats 2000000 in
theorem writes_law (a : Option Addr) (ps : List Pol) (n c : Nat) (w : World) (hn : ps.length = n) (hp : PolsAt w a ps) (hm : n ≤ maxLen) :
    Calls Try.prog 3 #[.slice a n c] w fun e w' => e = .returned (.bool true) ∧ Below w.heap.size w w' := by
  have HEn : Aside (∀ W : World, Below w.heap.size w W → _) := fun W h => table_encode a ps n c W hn (hp.below h) hm
  have HRi : Aside (∀ W : World, Below w.heap.size w W → _) := fun W h => table_right a ps n c W hn (hp.below h) hm
  have HRT : Aside (∀ W : World, Below w.heap.size w W → _) := fun W h => ref_rightTable a ps n c W hn (hp.below h) hm
  have HBy : Aside (∀ W : World, Below w.heap.size w W → rightT ps = true → _) := fun W h hr => ref_tableBytes a ps n c W hn (hp.below h) hr
  have HPL : Hid (rightT ps = true → (tableBytes ps).length ≤ 1000) := fun hr => by rw [tableBytes_length]; have := (rightT_facts hr).1; omega
  unfold maxLen at hm
  clear hn hp
  by_cases h100 : n ≤ 100
  · have h100' : ¬ 100 < (n : Int) := by omega
    go_enter Try.func3, Try.ntmps3
    go_wp2_with fail
    refine (table_awake _).mono ?_
    rintro e w1 ⟨rfl, b1⟩
    go_wp2_with fail
    refine (HEn.out _ b1).mono ?_
    rintro e w2 ⟨⟨a', m, c', ys, rfl, hy, hyb, hnc, hmc, hcm, he⟩, b2⟩
    have b3 := b1.trans (b2.mono b1.size)
    clear b2 b1
    cases hr : rightT ps with
    | false =>
      rw [hr, if_neg (by decide)] at he
      subst he
      obtain rfl : 0 = m := hy
      have HRT2 := HRT.out
      have HRi2 := HRi.out
      simp only [hr] at HRT2 HRi2
      have HRT3 : Aside _ := HRT2
      have HRi3 : Aside _ := HRi2
      clear HRT HRi HRT2 HRi2 HBy HEn hyb hnc hr HPL
      go_wp2_with fail
      refine (HRT3.out _ b3).mono ?_
      rintro e w4 ⟨rfl, b4⟩
      have b5 := b3.trans (b4.mono b3.size)
      clear b4 b3
      go_wp2_with fail
      refine (HRi3.out _ b5).mono ?_
      rintro e w6 ⟨rfl, b6⟩
      go_wp2
      go_ret
      exact ⟨rfl, b5.trans (b6.mono b5.size)⟩
    | true =>
      rw [hr, if_pos rfl] at he
      have hlen := HPL.out hr
      subst he
      have HRT2 := HRT.out
      have HRi2 := HRi.out
      simp only [hr] at HRT2 HRi2
      have HRT3 : Aside _ := HRT2
      have HRi3 : Aside _ := HRi2
      have HBy2 : Aside (∀ W : World, Below w.heap.size w W → _) := fun W h => HBy.out W h hr
      clear HRT HRi HRT2 HRi2 HBy HEn hr HPL
      generalize tableBytes ps = T at *
      have HY : Aside (IsBytes w2 a' T) := hyb
      have HYL := Lib.hid hy
      clear hyb hy
      go_wp2_with fail
      refine (HRT3.out _ b3).mono ?_
      rintro e w4 ⟨rfl, b4⟩
      have HY4 : Aside (IsBytes w4 a' T) := HY.out.below b4
      have b5 := b3.trans (b4.mono b3.size)
      clear b4 b3 HY
      go_wp2_with fail
      refine (HBy2.out _ b5).mono ?_
      rintro e w6 ⟨⟨a9, m9, c9, rfl, hr9⟩, b6⟩
      obtain ⟨g1, g2, -, -, -⟩ := bytes_of_row hr9
      have HG : Aside (IsBytes w6 a9 T) := g1
      have HGL := Lib.hid g2
      have HY6 : Aside (IsBytes w6 a' T) := HY4.out.below b6
      have b7 := b5.trans (b6.mono b5.size)
      clear b6 b5 HY4 hr9 g1 g2
      go_wp2_with fail
      refine (bytes_any a' a9 m m9 c' c9 T T w6 HYL.out HGL.out.symm HY6.out HG.out (by have := HYL.out; unfold maxLen; omega) (by have := HGL.out; unfold maxLen; omega)).mono ?_
      rintro e w8 ⟨rfl, b8⟩
      have b9 := b7.trans (b8.mono b7.size)
      rw [decide_eq_true rfl]
      clear b8 b7
      go_wp2_with fail
      refine (HRi3.out _ b9).mono ?_
      rintro e wa ⟨rfl, ba⟩
      go_wp2
      go_ret
      exact ⟨rfl, b9.trans (ba.mono b9.size)⟩
  · have h100' : 100 < (n : Int) := by omega
    go_enter Try.func3, Try.ntmps3
    go_wp2_with fail
    refine (table_awake _).mono ?_
    rintro e w1 ⟨rfl, b1⟩
    go_wp2_with fail
    refine (table_awake _).mono ?_
    rintro e w2 ⟨rfl, b2⟩
    go_wp2
    go_ret
    exact ⟨rfl, b1.trans (b2.mono b1.size)⟩

theorem writes_contract (W : World) (args : Array Value) (h : Each Try.prog W Try.f3.params.toList args.toList) :
    Calls Try.prog 3 args W fun e W' => e = .returned (.bool true) ∧ Below W.heap.size W W' := by
  rw [Try.params3] at h
  obtain ⟨v0, r0, e0, ⟨_, o0⟩, d0, h⟩ := h.cons
  obtain rfl := h.nil
  obtain ⟨args⟩ := args
  obtain rfl : args = [v0] := e0
  obtain ⟨sa0, sn0, sc0, rfl, hsc0⟩ := val_slice o0 Try.underlying22
  rw [hsc0] at d0
  obtain ⟨ps0, hps0, hpa0, hpm0, hpf0⟩ := pols_of d0
  exact writes_law sa0 ps0 sn0 sc0 W hps0 hpa0 hpm0

theorem writes_lifted (os : Os) (started : os.Started) (H : Type) (enc : TypeId × Value → H) :
    ReturnsInHanded {} Try.checked os 3 .any (Rows.tableWritesSpec.pre6 enc Try.prog Try.f3 Rows.tableWritesRow.domain false) (Rows.tableWritesSpec.post enc Try.prog Try.f3 false true false false) :=
  law_lifted (C := Try.checked) seat_own seat_laid (by kernel_rfl) Try.func3 rfl (tb := 4) rfl Try.underlying4
    (by
      rw [Try.params3]; intro t ht; simp at ht
      obtain rfl := ht; exact ⟨by kernel_rfl, of_decide_eq_true (by kernel_rfl)⟩)
    (fun H ds hl => by
      rw [Try.params3] at hl
      match ds, hl with
      | [d1], _ => rfl)
    os started H enc
    (ChangeSpec.witness6 (enc := enc) (C := Try.checked) false ⟨#[], #[.slice none 0 0], []⟩ 8 (by kernel_rfl) (by kernel_rfl) (by kernel_rfl) (by kernel_rfl))
    writes_contract

theorem tableWrites_holds : Rows.TableWritesSaid :=
  OpenClaim.holds_of_wide 3 Try.f3 rfl rfl rfl rfl rfl rfl rfl ⟨rfl, rfl, rfl, rfl, rfl⟩ rfl rfl rfl rfl rfl (by kernel_rfl) Try.func3 (by kernel_rfl)
    (of_decide_eq_true (by kernel_rfl)) (by unfold Func.isWrapper; first | (rw [if_pos (by decide +kernel)]; kernel_rfl) | (rw [if_neg (by decide +kernel)]; exact ⟨rfl, rfl⟩))
    (fun os started H enc _ => writes_lifted os started H enc)
#print axioms tableWrites_holds
end Go.Proofs.Ytaogiocjgafohaa
