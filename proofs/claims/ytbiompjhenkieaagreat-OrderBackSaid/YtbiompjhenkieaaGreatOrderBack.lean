/-
  OrderBack: what is encoded is decoded as the same; a clone is alike. No conditions: every input.
-/
import Derived.Test.YtbiompjhenkieaaGreatOrderLaw
import Derived.Test.YtbiompjhenkieaaGreatOrdDecode
import Derived.Test.YtbiompjhenkieaaGreatOrdCloned
import Derived.Test.YtbiompjhenkieaaGreatRefRight
import Derived.Test.YtbiompjhenkieaaGreatRefSame
import Derived.Deep.RegionHeld3
namespace Go.Proofs.YtbiompjhenkieaaGreat
open Go.RowKit Go.WideShapes
set_option maxRecDepth 100000

theorem cfgBytes_length {C : Cfg} (h : rightC C = true) : (cfgBytes C).length ≤ 10000 := by
  obtain ⟨c1, c2, c3, c4, -⟩ := right_parts h
  have l1 := tableBytes_length C.table
  have m1 := (rightT_facts c1).1
  have lo : ∀ os : List Ord, (∀ x ∈ os, x.lines.length ≤ 8) → (ordsBytes os).length ≤ 125 * os.length := by
    intro os h
    induction os with
    | nil => simp [ordsBytes]
    | cons x os ih =>
      have h1 := ih (fun y hy => h y (List.mem_cons_of_mem _ hy))
      have h2 := h x (List.mem_cons_self ..)
      have h3 := ordBytes_length x
      simp only [ordsBytes, List.map_cons, List.flatten_cons, List.length_append, List.length_cons] at h1 ⊢
      omega
  have l2 := lo C.orders (fun x hx => (c4 x hx).2.2.2.2.1)
  have l3 := supsBytes_length C.sups
  unfold cfgBytes
  simp only [List.length_append, le_length, List.length_singleton]
  omega

set_option maxHeartbeats 4000000 in
theorem orderBack_law (aO aS aT : Option Addr) (no co ns cs nt ct : Nat) (C : Cfg) (w : World) (hC : CfgIs w aO no aS ns aT nt C) (hf : CfgFit C) (hk : CfgCaps no co ns cs nt ct) :
    Calls Tryz.prog 3 #[.agg (cfgCells aO no co aS ns cs aT nt ct)] w fun e w' => e = .returned (.bool true) ∧ Below w.heap.size w w' := by
  have hbox := arr_new w (cfgCells aO no co aS ns cs aT nt ct) 26
  have HBX : Aside _ := hbox
  have HB : Aside (Below w.heap.size w (w.alloc (.cells (cfgCells aO no co aS ns cs aT nt ct) 26))) := (Below.refl _ _).alloc (Nat.le_refl _) _
  have HC : Aside (CfgIs (w.alloc (.cells (cfgCells aO no co aS ns cs aT nt ct) 26)) aO no aS ns aT nt C) := hC.below (Below.alloc (Below.refl _ _) (Nat.le_refl _) _)
  have HF := Lib.hid hf
  have HK := Lib.hid hk
  clear hbox hC hf hk
  go_enter Tryz.func3, Tryz.ntmps3
  go_upto_region 1 with (fail)
  show Code.wp _ _ _ _ (w.alloc (.cells (cfgCells aO no co aS ns cs aT nt ct) 26))
  generalize w.alloc (.cells (cfgCells aO no co aS ns cs aT nt ct) 26) = w1 at *
  go_wp2_with fail
  refine Calls.mono (order_awake _) ?_
  rintro e w2 ⟨rfl, b2⟩
  have HBX2 : Aside _ := HBX.out.grown b2
  have HC2 : Aside _ := HC.out.below b2
  have HB2 : Aside _ := HB.out.trans (b2.mono HB.out.size)
  clear b2 HBX HC HB
  obtain ⟨c0, c1, c2⟩ := cfgAt_all HBX2.out
  simp only [Nat.zero_add] at c0 c1 c2
  go_wp2_with fail
  refine Calls.mono (law_few _ _ _ _ _ _ _ _ _ C _ HC2.out) ?_
  rintro e w3 ⟨rfl, b3⟩
  have HBX3 : Aside _ := HBX2.out.grown b3
  have HC3 : Aside _ := HC2.out.below b3
  have HB3 : Aside _ := HB2.out.trans (b3.mono HB2.out.size)
  clear b3 HBX2 HC2 HB2 c0 c1 c2
  generalize fewC C = q at *
  cases q with
  | false =>
    as_aux_lemma =>
      go_wp2_with fail
      refine Calls.mono (order_awake _) ?_
      rintro e w4 ⟨rfl, b4⟩
      have HB4 : Aside _ := HB3.out.trans (b4.mono HB3.out.size)
      go_wp2
      go_ret
      exact ⟨rfl, HB4.out⟩
  | true =>
    obtain ⟨c0, c1, c2⟩ := cfgAt_all HBX3.out
    simp only [Nat.zero_add] at c0 c1 c2
    go_wp2_with fail
    refine Calls.mono (order_encode _ _ _ _ _ _ _ _ _ C _ HC3.out HF.out HK.out) ?_
    rintro e w4 ⟨⟨a, n, c, rfl, hn, hnc, hcm, ha, hu⟩, b4⟩
    have HU := Lib.hid hu
    have HN := Lib.hid hn
    have HN2 := Lib.hid hnc
    have HN3 := Lib.hid hcm
    have HN4 := Lib.hid ha
    have HBX4 : Aside _ := HBX3.out.grown b4
    have HC4 : Aside _ := HC3.out.below b4
    have HB4 : Aside _ := HB3.out.trans (b4.mono HB3.out.size)
    clear b4 HBX3 HC3 HB3 c0 c1 c2 hu hn hnc hcm ha
    obtain ⟨c0, c1, c2⟩ := cfgAt_all HBX4.out
    simp only [Nat.zero_add] at c0 c1 c2
    go_wp2_with fail
    refine Calls.mono (ref_rightConfig _ _ _ _ _ _ _ _ _ C _ HC4.out) ?_
    rintro e w5 ⟨rfl, b5⟩
    have HBX5 : Aside _ := HBX4.out.grown b5
    have HC5 : Aside _ := HC4.out.below b5
    have HB5 : Aside _ := HB4.out.trans (b5.mono HB4.out.size)
    have hU5 := HU.out.below b5
    clear b5 HBX4 HC4 HB4 HU c0 c1 c2
    cases hq : rightC C with
    | false =>
      have hE : errC C = 1 := by unfold errC; rw [hq]; rfl
      have hn := HN.out
      rw [hq] at hn
      have hn0 : n = 0 := hn.symm
      subst hn0
      rw [hE]
      clear hE hn hq HN HN2 HN3 HN4 hU5
      as_aux_lemma =>
        go_wp2
        go_ret
        exact ⟨rfl, HB5.out⟩
    | true =>
      have hE : errC C = 0 := by unfold errC; rw [hq]; rfl
      rw [hq, if_pos rfl] at hU5
      have hn := HN.out
      rw [hq, if_pos rfl] at hn
      rw [hE]
      have h5 := cfgBytes_length hq
      have HQ := Lib.hid hq
      have HDec : Aside (Calls Tryz.prog 9 #[.slice a n c] w5 _) := order_decode a n c (cfgBytes C) w5 hn HN2.out HN3.out HN4.out (by omega) hU5
      clear hE hq hU5 hn h5 HN HN2 HN3 HN4
      go_wp2_with fail
      refine Calls.mono HDec.out ?_
      rintro e w6 ⟨hk, b6⟩
      obtain ⟨hno, rfl⟩ | ⟨bO, mo, do', bS, ms, ds, bT, mt, dt, D, rfl, hD, hf, hl, hq, hxs⟩ := hk
      · exact absurd rfl (hno C HQ.out)
      · have HSa : Hid (sameC C D = true) := cfg_inj HQ.out hq hxs.symm
        have hA : Below w6.heap.size w6 (w6.alloc (.cells (cfgCells bO mo do' bS ms ds bT mt dt) 26)) := (Below.refl _ _).alloc (Nat.le_refl _) _
        have HBX6 : Aside _ := (HBX5.out.grown b6).grown hA
        have HC6 : Aside _ := (HC5.out.below b6).below hA
        have HB6 : Aside _ := (HB5.out.trans (b6.mono HB5.out.size)).trans (hA.mono (Nat.le_trans HB5.out.size b6.size))
        have HY : Aside (ArrAt (w6.alloc (.cells (cfgCells bO mo do' bS ms ds bT mt dt) 26)) w6.heap.size 0 (cfgCells bO mo do' bS ms ds bT mt dt)) := arr_new w6 _ _
        have HD : Aside (CfgIs (w6.alloc (.cells (cfgCells bO mo do' bS ms ds bT mt dt) 26)) bO mo bS ms bT mt D) := hD.below hA
        have HL := Lib.hid hl
        clear b6 HBX5 HC5 HB5 HDec hD hl hq hxs hf hA
        dsimp only [cfgCells]
        go_upto_region 7 with (fail)
        show Code.wp _ _ _ _ (w6.alloc (.cells (cfgCells bO mo do' bS ms ds bT mt dt) 26))
        generalize w6.alloc (.cells (cfgCells bO mo do' bS ms ds bT mt dt) 26) = w7 at *
        generalize w6.heap.size = go at *
        obtain ⟨c0, c1, c2⟩ := cfgAt_all HBX6.out
        obtain ⟨d0, d1, d2⟩ := cfgAt_all HY.out
        simp only [Nat.zero_add] at c0 c1 c2 d0 d1 d2
        have hw6 : w.heap.size < w7.heap.size := HBX6.out.lt
        have hw7 : go < w7.heap.size := HY.out.lt
        have b0 := Below.refl w7.heap.size w7
        have HSm : Aside (∀ W : World, Below w7.heap.size w7 W → Calls Tryz.prog 10 #[.agg (cfgCells aO no co aS ns cs aT nt ct), .agg (cfgCells bO mo do' bS ms ds bT mt dt)] W fun e w' => e = .returned (.bool true) ∧ Below w7.heap.size w7 w') := fun W h => (ref_sameConfig _ _ _ _ _ _ _ _ _ _ _ _ _ _ _ _ _ _ C D W (HC6.out.below h) (HD.out.below h)).mono fun e w' ⟨h1, h2⟩ => ⟨by rw [h1, HSa.out], h.trans (h2.mono h.size)⟩
        have HE1 : Aside (∀ W : World, Below w7.heap.size w7 W → Calls Tryz.prog 11 #[.agg (cfgCells aO no co aS ns cs aT nt ct), .agg (cfgCells bO mo do' bS ms ds bT mt dt)] W fun e w' => e = .returned (.bool true) ∧ Below w7.heap.size w7 w') := fun W h => (order_equal _ _ _ _ _ _ _ _ _ _ _ _ _ _ _ _ _ _ C D W (HC6.out.below h) (HD.out.below h) HK.out HL.out).mono fun e w' ⟨h1, h2⟩ => ⟨by rw [h1, HSa.out], h.trans (h2.mono h.size)⟩
        have HCl : Aside (∀ W : World, Below w7.heap.size w7 W → Calls Tryz.prog 12 #[.agg (cfgCells aO no co aS ns cs aT nt ct)] W fun e w' => (∃ eO m1 e1 eS m2 e2 eT m3 e3 E, e = .returned (.agg (cfgCells eO m1 e1 eS m2 e2 eT m3 e3)) ∧ CfgIs w' eO m1 eS m2 eT m3 E ∧ sameC C E = true ∧ CfgCaps m1 e1 m2 e2 m3 e3) ∧ Below w7.heap.size w7 w') := fun W h => (order_clone _ _ _ _ _ _ _ _ _ C W (HC6.out.below h) HQ.out).mono fun e w' ⟨h1, h2⟩ => ⟨h1, h.trans (h2.mono h.size)⟩
        have HE2 : Aside (∀ (W : World) (eO eS eT : Option Addr) (m1 e1 m2 e2 m3 e3 : Nat) (E : Cfg), Below w7.heap.size w7 W → CfgIs W eO m1 eS m2 eT m3 E → CfgCaps m1 e1 m2 e2 m3 e3 → sameC C E = true → Calls Tryz.prog 11 #[.agg (cfgCells aO no co aS ns cs aT nt ct), .agg (cfgCells eO m1 e1 eS m2 e2 eT m3 e3)] W fun e w' => e = .returned (.bool true) ∧ Below w7.heap.size w7 w') := fun W _ _ _ _ _ _ _ _ _ E h hE hc hs => (order_equal _ _ _ _ _ _ _ _ _ _ _ _ _ _ _ _ _ _ C E W (HC6.out.below h) hE HK.out hc).mono fun e w' ⟨h1, h2⟩ => ⟨by rw [h1, hs], h.trans (h2.mono h.size)⟩
        clear HBX6 HC6 HY HD HL HF HK HSa HQ
        as_aux_lemma =>
          first
          | (go_region_held3 (fun w' => Below w7.heap.size w7 w' ∧ w'.cell? ⟨w.heap.size, 0, none⟩ = some (.slice aO no co) ∧ w'.cell? ⟨w.heap.size, 1, none⟩ = some (.slice aS ns cs) ∧ w'.cell? ⟨w.heap.size, 2, none⟩ = some (.slice aT nt ct) ∧ w'.cell? ⟨go, 0, none⟩ = some (.slice bO mo do') ∧ w'.cell? ⟨go, 1, none⟩ = some (.slice bS ms ds) ∧ w'.cell? ⟨go, 2, none⟩ = some (.slice bT mt dt))
              (refine ⟨?_, (Below.cell (p := ⟨w.heap.size, 0, none⟩) (B := w7.heap.size) ?_ hw6).trans c0, (Below.cell (p := ⟨w.heap.size, 1, none⟩) (B := w7.heap.size) ?_ hw6).trans c1, (Below.cell (p := ⟨w.heap.size, 2, none⟩) (B := w7.heap.size) ?_ hw6).trans c2, (Below.cell (p := ⟨go, 0, none⟩) (B := w7.heap.size) ?_ hw7).trans d0, (Below.cell (p := ⟨go, 1, none⟩) (B := w7.heap.size) ?_ hw7).trans d1, (Below.cell (p := ⟨go, 2, none⟩) (B := w7.heap.size) ?_ hw7).trans d2⟩ <;> (with_reducible (repeat (first | assumption | refine Below.drew ?_))))
              ((first
                | (go_at_call 10; refine Calls.mono (HSm.out _ ?_) ?_; (with_reducible (repeat (first | assumption | refine Below.drew ?_))); rintro e w8 ⟨rfl, b8⟩)
                | (go_at_call 12; refine Calls.mono (HCl.out _ ?_) ?_; (with_reducible (repeat (first | assumption | refine Below.drew ?_))); rintro e w8 ⟨⟨eO, m1, e1, eS, m2, e2, eT, m3, e3, E, rfl, hE, hs, hc⟩, b8⟩)
                | (go_at_call 11; refine Calls.mono (HE2.out _ _ _ _ _ _ _ _ _ _ _ (by assumption) hE hc hs) ?_; rintro e w9 ⟨rfl, b9⟩)
                | (go_at_call 11; refine Calls.mono (HE1.out _ ?_) ?_; (with_reducible (repeat (first | assumption | refine Below.drew ?_))); rintro e w8 ⟨rfl, b8⟩))))
          | fail
          all_goals
            go_wp2
            go_ret
            exact ⟨rfl, HB6.out.trans (b9.mono HB6.out.size)⟩

theorem orderBack_contract (W : World) (args : Array Value) (h : Each Tryz.prog W Tryz.f3.params.toList args.toList) :
    Calls Tryz.prog 3 args W fun e W' => e = .returned (.bool true) ∧ Below W.heap.size W W' := by
  rw [Tryz.params3] at h
  obtain ⟨v0, r0, e0, ⟨_, o0⟩, d0, h⟩ := h.cons
  obtain rfl := h.nil
  obtain ⟨args⟩ := args
  obtain rfl : args = [v0] := e0
  obtain ⟨aO0, no0, co0, aS0, ns0, cs0, aT0, nt0, ct0, C0, rfl, hC0, hf0⟩ := val_cfg o0 d0
  have hk0 := cfg_caps d0
  exact orderBack_law _ _ _ _ _ _ _ _ _ C0 W hC0 hf0 hk0

theorem orderBack_lifted (os : Os) (started : os.Started) (H : Type) (enc : TypeId × Value → H) :
    ReturnsInHanded {} Tryz.checked os 3 .any (Rows.orderBackSpec.pre6 enc Tryz.prog Tryz.f3 Rows.orderBackRow.domain false) (Rows.orderBackSpec.post enc Tryz.prog Tryz.f3 false true false false) :=
  law_lifted (C := Tryz.checked) seat_own seat_laid (by kernel_rfl) Tryz.func3 rfl (tb := 4) rfl Tryz.underlying4
    (by
      rw [Tryz.params3]; intro t ht; simp at ht
      obtain rfl := ht; exact ⟨by kernel_rfl, of_decide_eq_true (by kernel_rfl)⟩)
    (fun H ds hl => by
      rw [Tryz.params3] at hl
      match ds, hl with
      | [d1], _ => rfl)
    os started H enc
    (ChangeSpec.witness6 (enc := enc) (C := Tryz.checked) false ⟨#[], #[.agg #[.slice none 0 0, .slice none 0 0, .slice none 0 0]], []⟩ 8 (by kernel_rfl) (by kernel_rfl) (by kernel_rfl) (by kernel_rfl))
    orderBack_contract

theorem orderBack_holds : Rows.OrderBackSaid :=
  OpenClaim.holds_of_wide 3 Tryz.f3 rfl rfl rfl rfl rfl rfl rfl ⟨rfl, rfl, rfl, rfl, rfl⟩ rfl rfl rfl rfl rfl (by kernel_rfl) Tryz.func3 (by kernel_rfl)
    (of_decide_eq_true (by kernel_rfl)) (by unfold Func.isWrapper; first | (rw [if_pos (by decide +kernel)]; kernel_rfl) | (rw [if_neg (by decide +kernel)]; exact ⟨rfl, rfl⟩))
    (fun os started H enc _ => orderBack_lifted os started H enc)
#print axioms orderBack_holds
end Go.Proofs.YtbiompjhenkieaaGreat
