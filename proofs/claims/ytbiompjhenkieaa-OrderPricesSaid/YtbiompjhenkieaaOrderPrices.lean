/-
  OrderPrices: a SKU has the price of its supply, or none; configs are told to be alike just if they are. No conditions: every input.
-/
import Derived.Test.YtbiompjhenkieaaOrderLaw
import Derived.Test.YtbiompjhenkieaaRefSame
import Derived.Deep.RegionHeld3
namespace Go.Proofs.Ytbiompjhenkieaa
open Go.RowKit Go.WideShapes
set_option maxRecDepth 100000

set_option maxHeartbeats 4000000 in
theorem orderPrices_law (aO aS aT bO bS bT : Option Addr) (no co ns cs nt ct mo do' ms ds mt dt : Nat) (C D : Cfg) (sku : Int) (w : World) (hC : CfgIs w aO no aS ns aT nt C) (hD : CfgIs w bO mo bS ms bT mt D) (hf : CfgFit C) (hk : CfgCaps no co ns cs nt ct) (hl : CfgCaps mo do' ms ds mt dt) (hs : I64 sku) :
    Calls Try.prog 5 #[.agg (cfgCells aO no co aS ns cs aT nt ct), .agg (cfgCells bO mo do' bS ms ds bT mt dt), .int .i64 sku] w fun e w' => e = .returned (.bool true) ∧ Below w.heap.size w w' := by
  have HW0 : Aside (Below w.heap.size w ((w.alloc (.cells (cfgCells aO no co aS ns cs aT nt ct) 26)).alloc (.cells (cfgCells bO mo do' bS ms ds bT mt dt) 26))) := ((Below.refl _ _).alloc (Nat.le_refl _) _).alloc (by simp) _
  have HX1 : Aside (ArrAt ((w.alloc (.cells (cfgCells aO no co aS ns cs aT nt ct) 26)).alloc (.cells (cfgCells bO mo do' bS ms ds bT mt dt) 26)) w.heap.size 0 (cfgCells aO no co aS ns cs aT nt ct)) := (arr_new w _ _).grown ((Below.refl _ _).alloc (Nat.le_refl _) _)
  have HX2 : Aside (ArrAt ((w.alloc (.cells (cfgCells aO no co aS ns cs aT nt ct) 26)).alloc (.cells (cfgCells bO mo do' bS ms ds bT mt dt) 26)) (w.heap.size + 1) 0 (cfgCells bO mo do' bS ms ds bT mt dt)) := by
    have := arr_new (w.alloc (.cells (cfgCells aO no co aS ns cs aT nt ct) 26)) (cfgCells bO mo do' bS ms ds bT mt dt) 26
    rw [show (w.alloc (.cells (cfgCells aO no co aS ns cs aT nt ct) 26)).heap.size = w.heap.size + 1 by simp] at this
    exact this
  have HC : Aside _ := hC.below HW0.out
  have HD : Aside _ := hD.below HW0.out
  have HF := Lib.hid hf
  have HK := Lib.hid hk
  have HL := Lib.hid hl
  have HI := Lib.hid hs
  clear hC hD hf hk hl hs
  go_enter Try.func5, Try.ntmps5
  go_upto_region 1 with (fail)
  show Code.wp _ _ _ _ ((w.alloc (.cells (cfgCells aO no co aS ns cs aT nt ct) 26)).alloc (.cells (cfgCells bO mo do' bS ms ds bT mt dt) 26))
  generalize (w.alloc (.cells (cfgCells aO no co aS ns cs aT nt ct) 26)).alloc (.cells (cfgCells bO mo do' bS ms ds bT mt dt) 26) = w1 at *
  go_wp2_with fail
  refine Calls.mono (order_awake _) ?_
  rintro e w2 ⟨rfl, b2⟩
  have HX12 : Aside _ := HX1.out.grown b2
  have HX22 : Aside _ := HX2.out.grown b2
  have HC2 : Aside _ := HC.out.below b2
  have HD2 : Aside _ := HD.out.below b2
  have HB2 : Aside _ := HW0.out.trans (b2.mono HW0.out.size)
  clear b2 HX1 HX2 HC HD HW0
  obtain ⟨c0, c1, c2⟩ := cfgAt_all HX12.out
  obtain ⟨d0, d1, d2⟩ := cfgAt_all HX22.out
  simp only [Nat.zero_add] at c0 c1 c2 d0 d1 d2
  go_wp2_with fail
  refine Calls.mono (law_few _ _ _ _ _ _ _ _ _ C _ HC2.out) ?_
  rintro e w3 ⟨rfl, b3⟩
  have HX13 : Aside _ := HX12.out.grown b3
  have HX23 : Aside _ := HX22.out.grown b3
  have HC3 : Aside _ := HC2.out.below b3
  have HD3 : Aside _ := HD2.out.below b3
  have HB3 : Aside _ := HB2.out.trans (b3.mono HB2.out.size)
  clear b3 HX12 HX22 HC2 HD2 HB2 c0 c1 c2 d0 d1 d2
  generalize fewC C = q at *
  cases q with
  | false =>
    as_aux_lemma =>
      go_wp2_with fail
      refine Calls.mono (order_awake _) ?_
      rintro e w4 ⟨rfl, b4⟩
      have HB4 : Aside _ := HB3.out.trans (b4.mono HB3.out.size)
      go_wp2
      go_ret
      exact ⟨rfl, HB4.out⟩
  | true =>
    obtain ⟨c0, c1, c2⟩ := cfgAt_all HX13.out
    obtain ⟨d0, d1, d2⟩ := cfgAt_all HX23.out
    simp only [Nat.zero_add] at c0 c1 c2 d0 d1 d2
    go_wp2_with fail
    refine Calls.mono (law_few _ _ _ _ _ _ _ _ _ D _ HD3.out) ?_
    rintro e w4 ⟨rfl, b4⟩
    have HX14 : Aside _ := HX13.out.grown b4
    have HX24 : Aside _ := HX23.out.grown b4
    have HC4 : Aside _ := HC3.out.below b4
    have HD4 : Aside _ := HD3.out.below b4
    have HB4 : Aside _ := HB3.out.trans (b4.mono HB3.out.size)
    clear b4 HX13 HX23 HC3 HD3 HB3 c0 c1 c2 d0 d1 d2
    generalize fewC D = q at *
    cases q with
    | false =>
      as_aux_lemma =>
        go_wp2_with fail
        refine Calls.mono (order_awake _) ?_
        rintro e w5 ⟨rfl, b5⟩
        have HB5 : Aside _ := HB4.out.trans (b5.mono HB4.out.size)
        go_wp2
        go_ret
        exact ⟨rfl, HB5.out⟩
    | true =>
      obtain ⟨c0, c1, c2⟩ := cfgAt_all HX14.out
      simp only [Nat.zero_add] at c0 c1 c2
      go_wp2_with fail
      refine Calls.mono (order_price _ _ _ _ _ _ _ _ _ C sku _ HC4.out HF.out HK.out HI.out) ?_
      rintro e w5 ⟨rfl, b5⟩
      have HX15 : Aside _ := HX14.out.grown b5
      have HX25 : Aside _ := HX24.out.grown b5
      have HC5 : Aside _ := HC4.out.below b5
      have HD5 : Aside _ := HD4.out.below b5
      have HB5 : Aside _ := HB4.out.trans (b5.mono HB4.out.size)
      clear b5 HX14 HX24 HC4 HD4 HB4 c0 c1 c2
      obtain ⟨c0, c1, c2⟩ := cfgAt_all HX15.out
      simp only [Nat.zero_add] at c0 c1 c2
      go_wp2_with fail
      refine Calls.mono (ref_cfgPrice _ _ _ _ _ _ _ _ _ C sku _ HC5.out) ?_
      rintro e w6 ⟨rfl, b6⟩
      have HX16 : Aside _ := HX15.out.grown b6
      have HX26 : Aside _ := HX25.out.grown b6
      have HC6 : Aside _ := HC5.out.below b6
      have HD6 : Aside _ := HD5.out.below b6
      have HB6 : Aside _ := HB5.out.trans (b6.mono HB5.out.size)
      clear b6 HX15 HX25 HC5 HD5 HB5 c0 c1 c2
      obtain ⟨c0, c1, c2⟩ := cfgAt_all HX16.out
      obtain ⟨d0, d1, d2⟩ := cfgAt_all HX26.out
      simp only [Nat.zero_add] at c0 c1 c2 d0 d1 d2
      have HEq : Aside (∀ W : World, Below w6.heap.size w6 W → Calls Try.prog 14 #[.agg (cfgCells aO no co aS ns cs aT nt ct), .agg (cfgCells bO mo do' bS ms ds bT mt dt)] W fun e w' => e = .returned (.bool (sameC C D)) ∧ Below w6.heap.size w6 w') := fun W h => (order_equal _ _ _ _ _ _ _ _ _ _ _ _ _ _ _ _ _ _ C D W (HC6.out.below h) (HD6.out.below h) HK.out HL.out).mono fun e w' ⟨h1, h2⟩ => ⟨h1, h.trans (h2.mono h.size)⟩
      have HSa : Aside (∀ W : World, Below w6.heap.size w6 W → Calls Try.prog 15 #[.agg (cfgCells aO no co aS ns cs aT nt ct), .agg (cfgCells bO mo do' bS ms ds bT mt dt)] W fun e w' => e = .returned (.bool (sameC C D)) ∧ Below w6.heap.size w6 w') := fun W h => (ref_sameConfig _ _ _ _ _ _ _ _ _ _ _ _ _ _ _ _ _ _ C D W (HC6.out.below h) (HD6.out.below h)).mono fun e w' ⟨h1, h2⟩ => ⟨h1, h.trans (h2.mono h.size)⟩
      have hw6 : w.heap.size < w6.heap.size := HX16.out.lt
      have hw7 : w.heap.size + 1 < w6.heap.size := HX26.out.lt
      have b0 := Below.refl w6.heap.size w6
      clear HX16 HX26 HC6 HD6 HF HK HL HI
      unfold priceV priceE
      generalize priceOf C.sups sku = o at *
      generalize sameC C D = q at *
      cases o with
      | none =>
        go_wp2_with fail
        cases q <;> (
          as_aux_lemma =>
            go_region_held3 (fun w' => Below w6.heap.size w6 w' ∧ w'.cell? ⟨w.heap.size, 0, none⟩ = some (.slice aO no co) ∧ w'.cell? ⟨w.heap.size, 1, none⟩ = some (.slice aS ns cs) ∧ w'.cell? ⟨w.heap.size, 2, none⟩ = some (.slice aT nt ct) ∧ w'.cell? ⟨w.heap.size + 1, 0, none⟩ = some (.slice bO mo do') ∧ w'.cell? ⟨w.heap.size + 1, 1, none⟩ = some (.slice bS ms ds) ∧ w'.cell? ⟨w.heap.size + 1, 2, none⟩ = some (.slice bT mt dt))
              (refine ⟨?_, (Below.cell (p := ⟨w.heap.size, 0, none⟩) (B := w6.heap.size) ?_ hw6).trans c0, (Below.cell (p := ⟨w.heap.size, 1, none⟩) (B := w6.heap.size) ?_ hw6).trans c1, (Below.cell (p := ⟨w.heap.size, 2, none⟩) (B := w6.heap.size) ?_ hw6).trans c2, (Below.cell (p := ⟨w.heap.size + 1, 0, none⟩) (B := w6.heap.size) ?_ hw7).trans d0, (Below.cell (p := ⟨w.heap.size + 1, 1, none⟩) (B := w6.heap.size) ?_ hw7).trans d1, (Below.cell (p := ⟨w.heap.size + 1, 2, none⟩) (B := w6.heap.size) ?_ hw7).trans d2⟩ <;> (with_reducible (repeat (first | assumption | refine Below.drew ?_))))
              ((first
                | (go_at_call 14; refine Calls.mono (HEq.out _ ?_) ?_; (with_reducible (repeat (first | assumption | refine Below.drew ?_))); rintro e w8 ⟨rfl, b8⟩)
                | (go_at_call 15; refine Calls.mono (HSa.out _ ?_) ?_; (with_reducible (repeat (first | assumption | refine Below.drew ?_))); rintro e w8 ⟨rfl, b8⟩)))
            all_goals
              go_wp2
              go_ret
              exact ⟨rfl, HB6.out.trans (b8.mono HB6.out.size)⟩
        )
      | some v =>
        have hvv : (v == v) = true := by simp
        go_wp2_with fail
        as_aux_lemma =>
          refine wp_region_held_drew (S := fun w' => Below w6.heap.size w6 w' ∧ w'.cell? ⟨w.heap.size, 0, none⟩ = some (.slice aO no co) ∧ w'.cell? ⟨w.heap.size, 1, none⟩ = some (.slice aS ns cs) ∧ w'.cell? ⟨w.heap.size, 2, none⟩ = some (.slice aT nt ct) ∧ w'.cell? ⟨w.heap.size + 1, 0, none⟩ = some (.slice bO mo do') ∧ w'.cell? ⟨w.heap.size + 1, 1, none⟩ = some (.slice bS ms ds) ∧ w'.cell? ⟨w.heap.size + 1, 2, none⟩ = some (.slice bT mt dt)) (by kernel_rfl) ?_ (fun hHeld => ?_)
          · have b1 : Below w6.heap.size w6 w6.drew := (Below.refl _ _).drew
            exact ⟨b1, (Below.cell (p := ⟨w.heap.size, 0, none⟩) (B := w6.heap.size) b1 hw6).trans c0, (Below.cell (p := ⟨w.heap.size, 1, none⟩) (B := w6.heap.size) b1 hw6).trans c1, (Below.cell (p := ⟨w.heap.size, 2, none⟩) (B := w6.heap.size) b1 hw6).trans c2, (Below.cell (p := ⟨w.heap.size + 1, 0, none⟩) (B := w6.heap.size) b1 hw7).trans d0, (Below.cell (p := ⟨w.heap.size + 1, 1, none⟩) (B := w6.heap.size) b1 hw7).trans d1, (Below.cell (p := ⟨w.heap.size + 1, 2, none⟩) (B := w6.heap.size) b1 hw7).trans d2⟩
          refine wpAnyH_take (i := 0) (oi := _) (v := ?_) rfl (by kernel_rfl) (by kernel_rfl) (by kernel_rfl) (fun _ _ _ h => h) (Or.inl ⟨by rfl, ?_⟩) (by assumption) ?_
          rotate_left
          · intro w hSw
            try dsimp only at hSw
            go_simp
            try with_reducible rfl
          simp only [Act.put, List.setIfInBounds_toArray, List.set_cons_zero, List.set_cons_succ, List.getElem_toArray, List.getElem_cons_zero]
          refine wpAnyH_take (i := 1) (oi := _) (v := ?_) rfl (by kernel_rfl) (by kernel_rfl) (by kernel_rfl) (fun _ _ _ h => h) (Or.inl ⟨by rfl, ?_⟩) (by assumption) ?_
          rotate_left
          · intro w hSw
            try dsimp only at hSw
            go_simp
            try with_reducible rfl
          simp only [Act.put, List.setIfInBounds_toArray, List.set_cons_zero, List.set_cons_succ, List.getElem_toArray, List.getElem_cons_zero, List.getElem_cons_succ]
          refine wpAnyH_take (i := 2) (oi := _) (v := ?_) rfl (by kernel_rfl) (by kernel_rfl) (by kernel_rfl) (fun _ _ _ h => h) (Or.inl ⟨by rfl, ?_⟩) (by assumption) ?_
          rotate_left
          · intro w hSw
            try dsimp only at hSw
            go_simp
            try with_reducible rfl
          simp only [Act.put, List.setIfInBounds_toArray, List.set_cons_zero, List.set_cons_succ, List.getElem_toArray, List.getElem_cons_zero, List.getElem_cons_succ]
          refine wpAnyH_take (i := 3) (oi := _) (v := ?_) rfl (by kernel_rfl) (by kernel_rfl) (by kernel_rfl) (fun _ _ _ h => h) (Or.inl ⟨by rfl, ?_⟩) (by assumption) ?_
          rotate_left
          · intro w hSw
            try dsimp only at hSw
            go_simp
            try with_reducible rfl
          simp only [Act.put, List.setIfInBounds_toArray, List.set_cons_zero, List.set_cons_succ, List.getElem_toArray, List.getElem_cons_zero, List.getElem_cons_succ]
          refine wpAnyH_take (i := 4) (oi := _) (v := ?_) rfl (by kernel_rfl) (by kernel_rfl) (by kernel_rfl) (fun _ _ _ h => h) (Or.inl ⟨by rfl, ?_⟩) (by assumption) ?_
          rotate_left
          · intro w hSw
            try dsimp only at hSw
            go_simp
            try with_reducible rfl
          simp only [Act.put, List.setIfInBounds_toArray, List.set_cons_zero, List.set_cons_succ, List.getElem_toArray, List.getElem_cons_zero, List.getElem_cons_succ]
          refine wpAnyH_take (i := 5) (oi := _) (v := ?_) rfl (by kernel_rfl) (by kernel_rfl) (by kernel_rfl) (fun _ _ _ h => h) (Or.inl ⟨by rfl, ?_⟩) (by assumption) ?_
          rotate_left
          · intro w hSw
            try dsimp only at hSw
            go_simp
            try with_reducible rfl
          simp only [Act.put, List.setIfInBounds_toArray, List.set_cons_zero, List.set_cons_succ, List.getElem_toArray, List.getElem_cons_zero, List.getElem_cons_succ]
          refine wpAnyH_take (i := 6) (oi := _) (v := ?_) rfl (by kernel_rfl) (by kernel_rfl) (by kernel_rfl) (fun _ _ _ h => h) (Or.inl ⟨by rfl, ?_⟩) (by assumption) ?_
          rotate_left
          · intro w hSw
            try dsimp only at hSw
            go_simp
            try with_reducible rfl
          simp only [Act.put, List.setIfInBounds_toArray, List.set_cons_zero, List.set_cons_succ, List.getElem_toArray, List.getElem_cons_zero, List.getElem_cons_succ]
          refine wpAnyH_take (i := 7) (oi := _) (v := ?_) rfl (by kernel_rfl) (by kernel_rfl) (by kernel_rfl) (fun _ _ _ h => h) (Or.inl ⟨by rfl, ?_⟩) (by assumption) ?_
          rotate_left
          · intro w hSw
            try dsimp only at hSw
            go_simp
            try with_reducible rfl
          simp only [Act.put, List.setIfInBounds_toArray, List.set_cons_zero, List.set_cons_succ, List.getElem_toArray, List.getElem_cons_zero, List.getElem_cons_succ]
          refine wpAnyH_take (i := 8) (oi := _) (v := ?_) rfl (by kernel_rfl) (by kernel_rfl) (by kernel_rfl) (fun _ _ _ h => h) (Or.inl ⟨by rfl, ?_⟩) (by assumption) ?_
          rotate_left
          · intro w hSw
            try dsimp only at hSw
            go_simp
            try with_reducible rfl
          simp only [Act.put, List.setIfInBounds_toArray, List.set_cons_zero, List.set_cons_succ, List.getElem_toArray, List.getElem_cons_zero, List.getElem_cons_succ]
          refine wpAnyH_take (i := 9) (oi := _) (v := ?_) rfl (by kernel_rfl) (by kernel_rfl) (by kernel_rfl) (fun _ _ _ h => h) (Or.inl ⟨by rfl, ?_⟩) (by assumption) ?_
          rotate_left
          · intro w hSw
            try dsimp only at hSw
            go_simp
            try with_reducible rfl
          simp only [Act.put, List.setIfInBounds_toArray, List.set_cons_zero, List.set_cons_succ, List.getElem_toArray, List.getElem_cons_zero, List.getElem_cons_succ]
          refine wpAnyH_take (i := 10) (oi := _) (v := ?_) rfl (by kernel_rfl) (by kernel_rfl) (by kernel_rfl) (fun _ _ _ h => h) (Or.inl ⟨by rfl, ?_⟩) (by assumption) ?_
          rotate_left
          · intro w hSw
            try dsimp only at hSw
            go_simp
            try with_reducible rfl
          simp only [Act.put, List.setIfInBounds_toArray, List.set_cons_zero, List.set_cons_succ, List.getElem_toArray, List.getElem_cons_zero, List.getElem_cons_succ]
          refine wpAnyH_take (i := 11) (oi := _) (v := ?_) rfl (by kernel_rfl) (by kernel_rfl) (by kernel_rfl) (fun _ _ _ h => h) (Or.inl ⟨by rfl, ?_⟩) (by assumption) ?_
          rotate_left
          · intro w hSw
            try dsimp only at hSw
            go_simp
            try with_reducible rfl
          simp only [Act.put, List.setIfInBounds_toArray, List.set_cons_zero, List.set_cons_succ, List.getElem_toArray, List.getElem_cons_zero, List.getElem_cons_succ]
          refine wpAnyH_take (i := 12) (oi := _) (v := undef) rfl (by kernel_rfl) (by kernel_rfl) (by kernel_rfl) (fun _ _ _ h => h) (Or.inr ⟨by rfl, rfl⟩) (by assumption) ?_
          simp only [Act.put, List.setIfInBounds_toArray, List.set_cons_zero, List.set_cons_succ, List.getElem_toArray, List.getElem_cons_zero, List.getElem_cons_succ]
          refine wpAnyH_take (i := 13) (oi := _) (v := undef) rfl (by kernel_rfl) (by kernel_rfl) (by kernel_rfl) (fun _ _ _ h => h) (Or.inr ⟨by rfl, rfl⟩) (by assumption) ?_
          simp only [Act.put, List.setIfInBounds_toArray, List.set_cons_zero, List.set_cons_succ, List.getElem_toArray, List.getElem_cons_zero, List.getElem_cons_succ]
          refine wpAnyH_take (i := 14) (oi := _) (v := ?_) rfl (by kernel_rfl) (by kernel_rfl) (by kernel_rfl) (fun _ _ _ h => h) (Or.inl ⟨by rfl, ?_⟩) (by assumption) ?_
          rotate_left
          · intro w hSw
            try dsimp only at hSw
            go_simp
            try with_reducible rfl
          simp only [Act.put, List.setIfInBounds_toArray, List.set_cons_zero, List.set_cons_succ, List.getElem_toArray, List.getElem_cons_zero, List.getElem_cons_succ]
          refine wpAnyH_take (i := 15) (oi := _) (v := ?_) rfl (by kernel_rfl) (by kernel_rfl) (by kernel_rfl) (fun _ _ _ h => h) (Or.inl ⟨by rfl, ?_⟩) (by assumption) ?_
          rotate_left
          · intro w hSw
            try dsimp only at hSw
            go_simp
            try with_reducible rfl
          simp only [Act.put, List.setIfInBounds_toArray, List.set_cons_zero, List.set_cons_succ, List.getElem_toArray, List.getElem_cons_zero, List.getElem_cons_succ]
          refine wpAnyH_take (i := 16) (oi := _) (v := ?_) rfl (by kernel_rfl) (by kernel_rfl) (by kernel_rfl) (fun _ _ _ h => h) (Or.inl ⟨by rfl, ?_⟩) (by assumption) ?_
          rotate_left
          · intro w hSw
            try dsimp only at hSw
            go_simp
            try with_reducible rfl
          simp only [Act.put, List.setIfInBounds_toArray, List.set_cons_zero, List.set_cons_succ, List.getElem_toArray, List.getElem_cons_zero, List.getElem_cons_succ]
          refine wpAnyH_take (i := 17) (oi := _) (v := ?_) rfl (by kernel_rfl) (by kernel_rfl) (by kernel_rfl) (fun _ _ _ h => h) (Or.inl ⟨by rfl, ?_⟩) (by assumption) ?_
          rotate_left
          · intro w hSw
            try dsimp only at hSw
            go_simp
            try with_reducible rfl
          simp only [Act.put, List.setIfInBounds_toArray, List.set_cons_zero, List.set_cons_succ, List.getElem_toArray, List.getElem_cons_zero, List.getElem_cons_succ]
          refine wpAnyH_take (i := 18) (oi := _) (v := ?_) rfl (by kernel_rfl) (by kernel_rfl) (by kernel_rfl) (fun _ _ _ h => h) (Or.inl ⟨by rfl, ?_⟩) (by assumption) ?_
          rotate_left
          · intro w hSw
            try dsimp only at hSw
            go_simp
            try with_reducible rfl
          simp only [Act.put, List.setIfInBounds_toArray, List.set_cons_zero, List.set_cons_succ, List.getElem_toArray, List.getElem_cons_zero, List.getElem_cons_succ]
          refine wpAnyH_take (i := 20) (oi := _) (v := ?_) rfl (by kernel_rfl) (by kernel_rfl) (by kernel_rfl) (fun _ _ _ h => h) (Or.inl ⟨by rfl, ?_⟩) (by assumption) ?_
          rotate_left
          · intro w hSw
            try dsimp only at hSw
            go_simp
            try with_reducible rfl
          simp only [Act.put, List.setIfInBounds_toArray, List.set_cons_zero, List.set_cons_succ, List.getElem_toArray, List.getElem_cons_zero, List.getElem_cons_succ]
          refine wpAnyH_take (i := 21) (oi := _) (v := ?_) rfl (by kernel_rfl) (by kernel_rfl) (by kernel_rfl) (fun _ _ _ h => h) (Or.inl ⟨by rfl, ?_⟩) (by assumption) ?_
          rotate_left
          · intro w hSw
            try dsimp only at hSw
            go_simp
            try with_reducible rfl
          simp only [Act.put, List.setIfInBounds_toArray, List.set_cons_zero, List.set_cons_succ, List.getElem_toArray, List.getElem_cons_zero, List.getElem_cons_succ]
          refine wpAnyH_ready (rs := [19]) (by kernel_rfl) (by simp) ?_
          refine AllReadyH.cons (i := 19) (o := _) rfl (fun K hK => ?_) AllReadyH.nil
          go_simp
          refine Calls.mono (HEq.out _ (by have := hHeld.1; assumption)) ?_
          rintro e wb8 ⟨rfl, b8⟩
          go_wp2_with fail
          refine hK.out _ _ ?_ (fun hHeld => ?_)
          · exact ⟨b8, (Below.cell (p := ⟨w.heap.size, 0, none⟩) (B := w6.heap.size) b8 hw6).trans c0, (Below.cell (p := ⟨w.heap.size, 1, none⟩) (B := w6.heap.size) b8 hw6).trans c1, (Below.cell (p := ⟨w.heap.size, 2, none⟩) (B := w6.heap.size) b8 hw6).trans c2, (Below.cell (p := ⟨w.heap.size + 1, 0, none⟩) (B := w6.heap.size) b8 hw7).trans d0, (Below.cell (p := ⟨w.heap.size + 1, 1, none⟩) (B := w6.heap.size) b8 hw7).trans d1, (Below.cell (p := ⟨w.heap.size + 1, 2, none⟩) (B := w6.heap.size) b8 hw7).trans d2⟩
          clear hK K
          refine wpAnyH_ready (rs := [22]) (by kernel_rfl) (by simp) ?_
          refine AllReadyH.cons (i := 22) (o := _) rfl (fun K hK => ?_) AllReadyH.nil
          go_simp
          refine Calls.mono (HSa.out _ (by have := hHeld.1; assumption)) ?_
          rintro e wb9 ⟨rfl, b9⟩
          go_wp2_with fail
          refine hK.out _ _ ?_ (fun hHeld => ?_)
          · exact ⟨b9, (Below.cell (p := ⟨w.heap.size, 0, none⟩) (B := w6.heap.size) b9 hw6).trans c0, (Below.cell (p := ⟨w.heap.size, 1, none⟩) (B := w6.heap.size) b9 hw6).trans c1, (Below.cell (p := ⟨w.heap.size, 2, none⟩) (B := w6.heap.size) b9 hw6).trans c2, (Below.cell (p := ⟨w.heap.size + 1, 0, none⟩) (B := w6.heap.size) b9 hw7).trans d0, (Below.cell (p := ⟨w.heap.size + 1, 1, none⟩) (B := w6.heap.size) b9 hw7).trans d1, (Below.cell (p := ⟨w.heap.size + 1, 2, none⟩) (B := w6.heap.size) b9 hw7).trans d2⟩
          clear hK K
          refine wpAnyH_take (i := 23) (oi := _) (v := ?_) rfl (by kernel_rfl) (by kernel_rfl) (by kernel_rfl) (fun _ _ _ h => h) (Or.inl ⟨by rfl, ?_⟩) (by assumption) ?_
          rotate_left
          · intro w hSw
            try dsimp only at hSw
            go_simp
            try with_reducible rfl
          simp only [Act.put, List.setIfInBounds_toArray, List.set_cons_zero, List.set_cons_succ, List.getElem_toArray, List.getElem_cons_zero, List.getElem_cons_succ]
          refine wpAnyH_take (i := 24) (oi := _) (v := ?_) rfl (by kernel_rfl) (by kernel_rfl) (by kernel_rfl) (fun _ _ _ h => h) (Or.inl ⟨by rfl, ?_⟩) (by assumption) ?_
          rotate_left
          · intro w hSw
            try dsimp only at hSw
            go_simp
            try with_reducible rfl
          simp only [Act.put, List.setIfInBounds_toArray, List.set_cons_zero, List.set_cons_succ, List.getElem_toArray, List.getElem_cons_zero, List.getElem_cons_succ]
          refine wpAnyH_take (i := 25) (oi := _) (v := ?_) rfl (by kernel_rfl) (by kernel_rfl) (by kernel_rfl) (fun _ _ _ h => h) (Or.inl ⟨by rfl, ?_⟩) (by assumption) ?_
          rotate_left
          · intro w hSw
            try dsimp only at hSw
            go_simp
            try with_reducible rfl
          simp only [Act.put, List.setIfInBounds_toArray, List.set_cons_zero, List.set_cons_succ, List.getElem_toArray, List.getElem_cons_zero, List.getElem_cons_succ]
          refine wpAnyH_done (by kernel_rfl) ?_ _
          cases q <;> (
            go_wp2
            go_ret
            exact ⟨rfl, HB6.out.trans (b9.mono HB6.out.size)⟩)

theorem orderPrices_contract (W : World) (args : Array Value) (h : Each Try.prog W Try.f5.params.toList args.toList) :
    Calls Try.prog 5 args W fun e W' => e = .returned (.bool true) ∧ Below W.heap.size W W' := by
  rw [Try.params5] at h
  obtain ⟨v0, r0, e0, ⟨_, o0⟩, d0, h⟩ := h.cons
  obtain ⟨v1, r1, rfl, ⟨_, o1⟩, d1, h⟩ := h.cons
  obtain ⟨v2, r2, rfl, ⟨_, o2⟩, d2, h⟩ := h.cons
  obtain rfl := h.nil
  obtain ⟨args⟩ := args
  obtain rfl : args = [v0, v1, v2] := e0
  obtain ⟨x2, rfl, hx2⟩ := val_int o2 d2 Try.underlying3
  obtain ⟨aO0, no0, co0, aS0, ns0, cs0, aT0, nt0, ct0, C0, rfl, hC0, hf0⟩ := val_cfg o0 d0
  have hk0 := cfg_caps d0
  obtain ⟨aO1, no1, co1, aS1, ns1, cs1, aT1, nt1, ct1, C1, rfl, hC1, hf1⟩ := val_cfg o1 d1
  have hk1 := cfg_caps d1
  exact orderPrices_law _ _ _ _ _ _ _ _ _ _ _ _ _ _ _ _ _ _ C0 C1 x2 W hC0 hC1 hf0 hk0 hk1 (wf_i64 hx2)

theorem orderPrices_lifted (os : Os) (started : os.Started) (H : Type) (enc : TypeId × Value → H) :
    ReturnsInHanded {} Try.checked os 5 .any (Rows.orderPricesSpec.pre6 enc Try.prog Try.f5 Rows.orderPricesRow.domain false) (Rows.orderPricesSpec.post enc Try.prog Try.f5 false true false false) :=
  law_lifted (C := Try.checked) seat_own seat_laid (by kernel_rfl) Try.func5 rfl (tb := 4) rfl Try.underlying4
    (by
      rw [Try.params5]; intro t ht; simp at ht
      rcases ht with rfl | rfl | rfl <;> exact ⟨by kernel_rfl, of_decide_eq_true (by kernel_rfl)⟩)
    (fun H ds hl => by
      rw [Try.params5] at hl
      match ds, hl with
      | [d1, d2, d3], _ => rfl)
    os started H enc
    (ChangeSpec.witness6 (enc := enc) (C := Try.checked) false ⟨#[], #[.agg #[.slice none 0 0, .slice none 0 0, .slice none 0 0], .agg #[.slice none 0 0, .slice none 0 0, .slice none 0 0], .int .i64 0], []⟩ 8 (by kernel_rfl) (by kernel_rfl) (by kernel_rfl) (by kernel_rfl))
    orderPrices_contract

theorem orderPrices_holds : Rows.OrderPricesSaid :=
  OpenClaim.holds_of_wide 5 Try.f5 rfl rfl rfl rfl rfl rfl rfl ⟨rfl, rfl, rfl, rfl, rfl⟩ rfl rfl rfl rfl rfl (by kernel_rfl) Try.func5 (by kernel_rfl)
    (of_decide_eq_true (by kernel_rfl)) (by unfold Func.isWrapper; first | (rw [if_pos (by decide +kernel)]; kernel_rfl) | (rw [if_neg (by decide +kernel)]; exact ⟨rfl, rfl⟩))
    (fun os started H enc _ => orderPrices_lifted os started H enc)
#print axioms orderPrices_holds
end Go.Proofs.Ytbiompjhenkieaa
