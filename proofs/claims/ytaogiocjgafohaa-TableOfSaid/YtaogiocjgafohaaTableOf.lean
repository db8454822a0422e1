/-
  TableOf: a category's policy is told, or there is none. No conditions: every input.
-/
import Derived.Test.YtaogiocjgafohaaTableLaw
import Derived.Test.YtaogiocjgafohaaPolSelf
import Derived.Test.YtaogiocjgafohaaOwn
namespace Go.Proofs.Ytaogiocjgafohaa
open Go.RowKit Go.WideShapes
set_option maxRecDepth 100000

set_option maxHeartbeats 4000000 in
theorem tableOf_law (a : Option Addr) (ps : List Pol) (n c : Nat) (i : Int) (w : World) (hn : ps.length = n) (hp : PolsAt w a ps) (hm : n ≤ maxLen) :
    Calls Try.prog 6 #[.slice a n c, .int .i64 i] w fun e w' => e = .returned (.bool true) ∧ Below w.heap.size w w' := by
  by_cases h100 : n ≤ 100
  · have h100' : ¬ 100 < (n : Int) := by omega
    have HOf : Aside (∀ W : World, Below w.heap.size w W → _) := fun W h => table_of a ps n c i W hn (hp.below h) hm
    unfold maxLen at hm
    by_cases hi : 0 ≤ i ∧ i < n
    · obtain ⟨k, rfl⟩ := Int.eq_ofNat_of_zero_le hi.1
      have hkn : (k : Int) < (n : Int) := hi.2
      have hk0 : ¬ (k : Int) < 0 := by omega
      have hk1 : ¬ (n : Int) ≤ (k : Int) := by omega
      have hlk : k < ps.length := by omega
      rcases hp with rfl | ⟨b, off, rfl, hb, hc⟩
      · simp at hlk
      have hpk := hc k hlk
      have e1 : ((ps[(k : Int).toNat]?).getD zeroPol) = ps[k] := by simp [hlk]
      have HO2 : Aside (∀ W : World, Below w.heap.size w W → Calls Try.prog 16 #[.slice (some ⟨b, off, none⟩) n c, .int .i64 k] W fun e w' => e = .returned (.tuple #[.agg (ps[k]).arr, .int .i64 0]) ∧ Below W.heap.size W w') := fun W h =>
        (HOf.out W h).mono fun e w' ⟨h1, h2⟩ => by
          rcases h1 with ⟨h3, _⟩ | ⟨_, h3⟩
          · rw [e1] at h3
            exact ⟨h3, h2⟩
          · exact absurd hi h3
      have HPK : Aside (PolAt w b (off + k * 16) ps[k]) := hpk
      clear HOf hc hpk e1 hi
      generalize ps[k] = p at *
      have hq := pol_self 9996 p
      unfold Pol.arr at HO2 hq
      go_enter Try.func6, Try.ntmps6
      go_wp2_with fail
      refine (table_awake _).mono ?_
      rintro e w1 ⟨rfl, b1⟩
      go_wp2_with fail
      refine (HO2.out _ b1).mono ?_
      rintro e w2 ⟨rfl, b2⟩
      have b3 := b1.trans (b2.mono b1.size)
      clear b1 b2
      go_upto_region 6 with (fail)
      have HPN : PolAt (w2.alloc (.cells p.arr 40)) w2.heap.size 0 p := pol_new w2 p _
      have HPO : PolAt (w2.alloc (.cells p.arr 40)) b (off + k * 16) p := (HPK.out.grown b3).grown ((Below.refl _ _).alloc (Nat.le_refl _) _)
      have b4 : Below w.heap.size w (w2.alloc (.cells p.arr 40)) := b3.alloc b3.size _
      show Code.wp _ _ _ _ (w2.alloc (.cells p.arr 40))
      generalize w2.alloc (.cells p.arr 40) = w3 at *
      have hall := HPN.all
      simp only [Nat.zero_add] at hall
      obtain ⟨z0, z1, z2, z3, z4, z5, z6, z7, z8, z9, za, zb, zc, zd, ze, zf⟩ := hall
      obtain ⟨y0, y1, y2, y3, y4, y5, y6, y7, y8, y9, ya, yb, yc, yd, ye, yf⟩ := HPO.all
      clear HPN HPO HPK HO2 b3
      have hk9 : (0 : Int) ≤ (k : Int) := by omega
      as_aux_lemma =>
        go_quiet (fail)
        as_aux_lemma =>
          go_wp2
          go_ret
          exact ⟨rfl, b4.trans ⟨rfl, rfl, rfl, Nat.le_refl _, fun _ _ => rfl⟩⟩
    · have HO2 : Aside (∀ W : World, Below w.heap.size w W → Calls Try.prog 16 #[.slice a n c, .int .i64 i] W fun e w' => e = .returned (.tuple #[.agg zeroPol.arr, .int .i64 10]) ∧ Below W.heap.size W w') := fun W h =>
        (HOf.out W h).mono fun e w' ⟨h1, h2⟩ => by
          rcases h1 with ⟨_, h3⟩ | ⟨h3, _⟩
          · exact absurd h3 hi
          · exact ⟨h3, h2⟩
      have hq := pol_self 9996 zeroPol
      unfold Pol.arr at HO2 hq
      simp only [zeroPol] at HO2 hq
      clear HOf
      by_cases hneg : i < 0
      · clear hi
        go_enter Try.func6, Try.ntmps6
        go_wp2_with fail
        refine (table_awake _).mono ?_
        rintro e w1 ⟨rfl, b1⟩
        go_wp2_with fail
        refine (HO2.out _ b1).mono ?_
        rintro e w2 ⟨rfl, b2⟩
        have b3 := b1.trans (b2.mono b1.size)
        go_wp2
        go_ret
        exact ⟨rfl, b3.alloc b3.size _⟩
      · have hbig : (n : Int) ≤ i := by omega
        clear hi
        go_enter Try.func6, Try.ntmps6
        go_wp2_with fail
        refine (table_awake _).mono ?_
        rintro e w1 ⟨rfl, b1⟩
        go_wp2_with fail
        refine (HO2.out _ b1).mono ?_
        rintro e w2 ⟨rfl, b2⟩
        have b3 := b1.trans (b2.mono b1.size)
        go_wp2
        go_ret
        exact ⟨rfl, b3.alloc b3.size _⟩
  · have h100' : 100 < (n : Int) := by omega
    go_enter Try.func6, Try.ntmps6
    go_wp2_with fail
    refine (table_awake _).mono ?_
    rintro e w1 ⟨rfl, b1⟩
    go_wp2_with fail
    refine (table_awake _).mono ?_
    rintro e w2 ⟨rfl, b2⟩
    go_wp2
    go_ret
    exact ⟨rfl, b1.trans (b2.mono b1.size)⟩

theorem tableOf_contract (W : World) (args : Array Value) (h : Each Try.prog W Try.f6.params.toList args.toList) :
    Calls Try.prog 6 args W fun e W' => e = .returned (.bool true) ∧ Below W.heap.size W W' := by
  rw [Try.params6] at h
  obtain ⟨v0, r0, e0, ⟨_, o0⟩, d0, h⟩ := h.cons
  obtain ⟨v1, r1, rfl, ⟨_, o1⟩, d1, h⟩ := h.cons
  obtain rfl := h.nil
  obtain ⟨args⟩ := args
  obtain rfl : args = [v0, v1] := e0
  obtain ⟨x1, rfl, hx1⟩ := val_int o1 d1 Try.underlying3
  obtain ⟨sa0, sn0, sc0, rfl, hsc0⟩ := val_slice o0 Try.underlying22
  rw [hsc0] at d0
  obtain ⟨ps0, hps0, hpa0, hpm0, hpf0⟩ := pols_of d0
  exact tableOf_law sa0 ps0 sn0 sc0 x1 W hps0 hpa0 hpm0

theorem tableOf_lifted (os : Os) (started : os.Started) (H : Type) (enc : TypeId × Value → H) :
    ReturnsInHanded {} Try.checked os 6 .any (Rows.tableOfSpec.pre6 enc Try.prog Try.f6 Rows.tableOfRow.domain false) (Rows.tableOfSpec.post enc Try.prog Try.f6 false true false false) :=
  law_lifted (C := Try.checked) seat_own seat_laid (by kernel_rfl) Try.func6 rfl (tb := 4) rfl Try.underlying4
    (by
      rw [Try.params6]; intro t ht; simp at ht
      rcases ht with rfl | rfl <;> exact ⟨by kernel_rfl, of_decide_eq_true (by kernel_rfl)⟩)
    (fun H ds hl => by
      rw [Try.params6] at hl
      match ds, hl with
      | [d1, d2], _ => rfl)
    os started H enc
    (ChangeSpec.witness6 (enc := enc) (C := Try.checked) false ⟨#[], #[.slice none 0 0, .int .i64 0], []⟩ 8 (by kernel_rfl) (by kernel_rfl) (by kernel_rfl) (by kernel_rfl))
    tableOf_contract

theorem tableOf_holds : Rows.TableOfSaid :=
  OpenClaim.holds_of_wide 6 Try.f6 rfl rfl rfl rfl rfl rfl rfl ⟨rfl, rfl, rfl, rfl, rfl⟩ rfl rfl rfl rfl rfl (by kernel_rfl) Try.func6 (by kernel_rfl)
    (of_decide_eq_true (by kernel_rfl)) (by unfold Func.isWrapper; first | (rw [if_pos (by decide +kernel)]; kernel_rfl) | (rw [if_neg (by decide +kernel)]; exact ⟨rfl, rfl⟩))
    (fun os started H enc _ => tableOf_lifted os started H enc)
#print axioms tableOf_holds
end Go.Proofs.Ytaogiocjgafohaa
