/-
  TableBack: what is encoded is decoded as the same. No conditions: every input.
-/
import Derived.Test.YtaogiocjgafohaaTableLaw
import Derived.Test.YtaogiocjgafohaaOwn
namespace Go.Proofs.Ytaogiocjgafohaa
open Go.RowKit Go.WideShapes
set_option maxRecDepth 100000

set_option maxHeartbeats 2000000 in
theorem tableBack_law (a : Option Addr) (ps : List Pol) (n c : Nat) (w : World) (hn : ps.length = n) (hp : PolsAt w a ps) (hm : n ≤ maxLen) :
    Calls Try.prog 4 #[.slice a n c] w fun e w' => e = .returned (.bool true) ∧ Below w.heap.size w w' := by
  have HEn : Aside (∀ W : World, Below w.heap.size w W → _) := fun W h => table_encode a ps n c W hn (hp.below h) hm
  have HP : Aside (PolsAt w a ps) := hp
  have HN := Lib.hid hn
  unfold maxLen at hm
  clear hn hp
  by_cases h100 : n ≤ 100
  · have h100' : ¬ 100 < (n : Int) := by omega
    go_enter Try.func4, Try.ntmps4
    go_wp2_with fail
    refine (table_awake _).mono ?_
    rintro e w1 ⟨rfl, b1⟩
    go_wp2_with fail
    refine (HEn.out _ b1).mono ?_
    rintro e w2 ⟨⟨a', m, c', ys, rfl, hy, hyb, hnc, hmc, hcm, he⟩, b2⟩
    have b3 := b1.trans (b2.mono b1.size)
    clear b2 b1 HEn
    cases hr : rightT ps with
    | false =>
      rw [hr, if_neg (by decide)] at he
      subst he
      obtain rfl : 0 = m := hy
      clear hyb hnc hr
      go_wp2
      go_ret
      exact ⟨rfl, b3⟩
    | true =>
      rw [hr, if_pos rfl] at he
      have hlen : (tableBytes ps).length ≤ 1000 := by rw [tableBytes_length]; have := (rightT_facts hr).1; omega
      subst he
      have HD : Aside _ := table_decode a' (tableBytes ps) m c' w2 hy hyb hnc hmc (by omega)
      have HRR := Lib.hid hr
      clear hyb hy hnc hr
      go_wp2_with fail
      refine Calls.mono HD.out ?_
      rintro e w4 ⟨⟨a4, n4, c4, qs, k, rfl, hq, hqa, hk⟩, b4⟩
      obtain ⟨rfl, hqr, hqt⟩ | ⟨_, _, hno⟩ := hk
      · obtain ⟨hl, hi⟩ := table_inj HRR.out hqr hqt.symm
        have b5 := b3.trans (b4.mono b3.size)
        obtain rfl : n4 = n := by rw [← hq, ← hl]; exact HN.out
        have HEq : Aside _ := table_equal a a4 ps qs n4 c c4 w4 HN.out (HP.out.below b5) hqa hi (by unfold maxLen; omega)
        clear hl hi hq hqa hqr hqt b4 b3 HD
        go_wp2_with fail
        refine Calls.mono HEq.out ?_
        rintro e w6 ⟨rfl, b6⟩
        go_wp2
        go_ret
        exact ⟨rfl, b5.trans (b6.mono b5.size)⟩
      · exact absurd rfl (hno ps HRR.out)
  · have h100' : 100 < (n : Int) := by omega
    go_enter Try.func4, Try.ntmps4
    go_wp2_with fail
    refine (table_awake _).mono ?_
    rintro e w1 ⟨rfl, b1⟩
    go_wp2_with fail
    refine (table_awake _).mono ?_
    rintro e w2 ⟨rfl, b2⟩
    go_wp2
    go_ret
    exact ⟨rfl, b1.trans (b2.mono b1.size)⟩

theorem tableBack_contract (W : World) (args : Array Value) (h : Each Try.prog W Try.f4.params.toList args.toList) :
    Calls Try.prog 4 args W fun e W' => e = .returned (.bool true) ∧ Below W.heap.size W W' := by
  rw [Try.params4] at h
  obtain ⟨v0, r0, e0, ⟨_, o0⟩, d0, h⟩ := h.cons
  obtain rfl := h.nil
  obtain ⟨args⟩ := args
  obtain rfl : args = [v0] := e0
  obtain ⟨sa0, sn0, sc0, rfl, hsc0⟩ := val_slice o0 Try.underlying22
  rw [hsc0] at d0
  obtain ⟨ps0, hps0, hpa0, hpm0, hpf0⟩ := pols_of d0
  exact tableBack_law sa0 ps0 sn0 sc0 W hps0 hpa0 hpm0

theorem tableBack_lifted (os : Os) (started : os.Started) (H : Type) (enc : TypeId × Value → H) :
    ReturnsInHanded {} Try.checked os 4 .any (Rows.tableBackSpec.pre6 enc Try.prog Try.f4 Rows.tableBackRow.domain false) (Rows.tableBackSpec.post enc Try.prog Try.f4 false true false false) :=
  law_lifted (C := Try.checked) seat_own seat_laid (by kernel_rfl) Try.func4 rfl (tb := 4) rfl Try.underlying4
    (by
      rw [Try.params4]; intro t ht; simp at ht
      obtain rfl := ht; exact ⟨by kernel_rfl, of_decide_eq_true (by kernel_rfl)⟩)
    (fun H ds hl => by
      rw [Try.params4] at hl
      match ds, hl with
      | [d1], _ => rfl)
    os started H enc
    (ChangeSpec.witness6 (enc := enc) (C := Try.checked) false ⟨#[], #[.slice none 0 0], []⟩ 8 (by kernel_rfl) (by kernel_rfl) (by kernel_rfl) (by kernel_rfl))
    tableBack_contract

theorem tableBack_holds : Rows.TableBackSaid :=
  OpenClaim.holds_of_wide 4 Try.f4 rfl rfl rfl rfl rfl rfl rfl ⟨rfl, rfl, rfl, rfl, rfl⟩ rfl rfl rfl rfl rfl (by kernel_rfl) Try.func4 (by kernel_rfl)
    (of_decide_eq_true (by kernel_rfl)) (by unfold Func.isWrapper; first | (rw [if_pos (by decide +kernel)]; kernel_rfl) | (rw [if_neg (by decide +kernel)]; exact ⟨rfl, rfl⟩))
    (fun os started H enc _ => tableBack_lifted os started H enc)
#print axioms tableBack_holds
end Go.Proofs.Ytaogiocjgafohaa
