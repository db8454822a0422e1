/-
  Package order: Clone, of a right config. Conditions: those of each theorem.
-/
import Derived.Test.YtbiompjhenkieaaGreatOrdClone
import Derived.Test.YtbiompjhenkieaaGreatOrdRead
namespace Go.Proofs.YtbiompjhenkieaaGreat
open Go.RowKit
set_option maxRecDepth 100000

/-- Orders are cloned; their lines are not yet. -/
theorem clone_ods {w : World} {a : Option Addr} {os : List Ord} {n c : Nat} (hl : os.length = n) (h : OrdsAt w a os) (h8 : n ≤ 1000) (hne : ∀ x ∈ os, x.lines ≠ []) :
    Calls Tryz.prog 26 #[.slice a n c] w fun e w' => (∃ a' c', e = .returned (.slice a' n c') ∧ (n ≤ c' ∧ c' ≤ maxLen) ∧ (os = [] ∨ ∃ g cs, a' = some ⟨g, 0, none⟩ ∧ OrdRow w g os cs w')) ∧ Below w.heap.size w w' := by
  obtain ⟨cs, hcl, hhas, hrow⟩ := ords_has h
  have hz := has_size hcl hhas
  refine (clone_orders a n c (flatCells cs) w (by rw [flat_length hz, hcl, hl]) (fun e => ?_) (fun ad e => ?_) (flat_one (has_one hcl hhas)) h8).mono ?_
  · rcases hrow with rfl | ⟨b, off, rfl, -, -⟩
    · simpa using hl.symm
    · cases e
  · rcases hrow with rfl | ⟨b, off, rfl, -, hc⟩
    · have h0 : cs = [] := List.length_eq_zero_iff.1 (by simpa using hcl)
      subst h0
      intro j v hj; simp [flatCells] at hj
    · injection e with e
      subst e
      exact flat_row hz hc
  · rintro e w' ⟨⟨a', c', rfl, ho⟩, hb'⟩
    refine ⟨⟨a', c', rfl, ?_⟩, hb'⟩
    rcases ho.2 with ⟨hv, x⟩ | ⟨g, cap, cur, hv, hgb, hgc, hle, hcm, -, -⟩
    · injection hv with e1 e2 e3
      subst e1 e3
      exact ⟨⟨by omega, by decide⟩, .inl (List.length_eq_zero_iff.1 (by omega))⟩
    · injection hv with e1 e2 e3
      subst e1 e3
      have hg : g < w'.heap.size := (Array.getElem?_eq_some_iff.1 hgc).1
      refine ⟨⟨hle, hcm⟩, .inr ⟨g, cs, rfl, ⟨hcl, fun i h1 h2 => (hhas i h1 h2).below hb', arr_of_own hz (by omega) ho hg, fun j => by simp [World.frozen?, hgc], hgb, hg, fun i h1 h2 a n k e x hx => ?_⟩⟩⟩
      obtain ⟨a0, n0, c0, e0, -, -, -, h5⟩ := hhas i h1 h2
      rw [e] at e0
      obtain ⟨rfl, -, -⟩ := ordCells_inj e0
      rcases h5 with h5 | ⟨b, off, rfl, hb, -⟩
      · exact absurd h5 (hne _ (List.getElem_mem h1))
      · injection hx with hx
        subst hx
        show b ≠ g
        omega

set_option maxHeartbeats 8000000 in
theorem order_clone (aO aS aT : Option Addr) (no co ns cs nt ct : Nat) (C : Cfg) (w : World) (hC : CfgIs w aO no aS ns aT nt C) (hr : rightC C = true) :
    Calls Tryz.prog 12 #[.agg (cfgCells aO no co aS ns cs aT nt ct)] w fun e w' => (∃ bO mo do' bS ms ds bT mt dt D, e = .returned (.agg (cfgCells bO mo do' bS ms ds bT mt dt)) ∧ CfgIs w' bO mo bS ms bT mt D ∧ sameC C D = true ∧ CfgCaps mo do' ms ds mt dt) ∧ Below w.heap.size w w' := by
  obtain ⟨hrt, hno, hns, hos, -⟩ := right_parts hr
  have hnt := (rightT_facts hrt).1
  have HNE : Hid (∀ x ∈ C.orders, x.lines ≠ [] ∧ x.lines.length ≤ 8) := fun x hx => by
    refine ⟨fun e => ?_, (hos x hx).2.2.2.2.1⟩
    unfold rightC at hr
    simp only [Bool.and_eq_true, decide_eq_true_eq] at hr
    have hb := List.all_eq_true.1 hr.1.1.1.2 x hx
    unfold ordB headB at hb
    simp only [Bool.and_eq_true, decide_eq_true_eq] at hb
    have := hb.1.1.1.1.1.2.1
    rw [e] at this
    simp at this
  rw [hC.ol] at hno
  rw [hC.sl] at hns
  rw [hC.tl] at hnt
  have b1 : Below w.heap.size w (w.alloc (.cells (cfgCells aO no co aS ns cs aT nt ct) 26)) := (Below.refl _ _).alloc (Nat.le_refl _) _
  have b2 : Below w.heap.size w ((w.alloc (.cells (cfgCells aO no co aS ns cs aT nt ct) 26)).alloc (.cells #[.slice none 0 0, .slice none 0 0, .slice none 0 0] 26)) := b1.alloc b1.size _
  have HA1 : Aside (ArrAt ((w.alloc (.cells (cfgCells aO no co aS ns cs aT nt ct) 26)).alloc (.cells #[.slice none 0 0, .slice none 0 0, .slice none 0 0] 26)) w.heap.size 0 (cfgCells aO no co aS ns cs aT nt ct)) := (arr_new w (cfgCells aO no co aS ns cs aT nt ct) 26).grown (upd_box _)
  have e1 : (w.alloc (.cells (cfgCells aO no co aS ns cs aT nt ct) 26)).heap.size = w.heap.size + 1 := by simp
  have hz := heap_alloc_new (w.alloc (.cells (cfgCells aO no co aS ns cs aT nt ct) 26)) (.cells #[.slice none 0 0, .slice none 0 0, .slice none 0 0] 26)
  rw [e1] at hz
  have HZ1 : Aside _ := hz
  have HS1 : Hid (((w.alloc (.cells (cfgCells aO no co aS ns cs aT nt ct) 26)).alloc (.cells #[.slice none 0 0, .slice none 0 0, .slice none 0 0] 26)).heap.size = w.heap.size + 2) := by show _ = _; simp
  have HB1 : Aside _ := b2
  have HC1 : Aside _ := hC.below b2
  clear hr hrt hos hC b1 b2 e1 hz
  go_enter Tryz.func12, Tryz.ntmps12
  go_upto_region 1 with (fail)
  show Code.wp _ _ _ _ ((w.alloc (.cells (cfgCells aO no co aS ns cs aT nt ct) 26)).alloc (.cells #[.slice none 0 0, .slice none 0 0, .slice none 0 0] 26))
  generalize (w.alloc (.cells (cfgCells aO no co aS ns cs aT nt ct) 26)).alloc (.cells #[.slice none 0 0, .slice none 0 0, .slice none 0 0] 26) = w1 at *
  obtain ⟨y0, y1, y2⟩ := cfgAt_all HA1.out
  simp only [Nat.zero_add] at y1 y2
  have HCO : Aside _ := clone_ods (c := co) HC1.out.ol HC1.out.oa (by omega) (fun x hx => (HNE.out x hx).1)
  have HN := Lib.hid HC1.out.ol
  go_wp2_with fail
  refine Calls.mono HCO.out ?_
  rintro e w2 ⟨⟨bO, do', rfl, hcap, hrow⟩, b2⟩
  have HCP : Hid (no ≤ do' ∧ do' ≤ maxLen) := hcap
  have HRW : Aside (C.orders = [] ∨ ∃ g cs, bO = some ⟨g, 0, none⟩ ∧ OrdRow w1 g C.orders cs w2) := hrow
  have HB2 : Aside (Below w1.heap.size w1 w2) := b2
  clear HCO y0 y1 y2 hcap hrow b2
  go_wp2
  go_loopw [10] (fun i wr => ∃ k : Nat, k ≤ no ∧ i = .int .i64 k ∧ Aside (Below w1.heap.size w1 wr) ∧ Aside (C.orders = [] ∨ ∃ g cs, bO = some ⟨g, 0, none⟩ ∧ OrdRow w1 g C.orders cs wr ∧ ∀ i (h1 : i < C.orders.length) (h2 : i < cs.length) a n c, i < k → cs[i] = ordCells C.orders[i].day a n c C.orders[i].disc C.orders[i].tax C.orders[i].ship → ∀ x, a = some x → w1.heap.size ≤ x.block)) (fun i _ => no - (intOf i).toNat)
  case atStart =>
    refine ⟨0, Nat.zero_le _, rfl, HB2.out, ?_⟩
    rcases HRW.out with h | ⟨g, cs, h1, h2⟩
    · exact .inl h
    · exact .inr ⟨g, cs, h1, h2, fun i _ _ _ _ _ h => absurd h (Nat.not_lt_zero _)⟩
  case round =>
    clear HRW HB2
    obtain ⟨k, hk, rfl, HB, HRW⟩ := hrel
    by_cases hlt : k < no
    · have hkn : (k : Int) < (no : Int) := by omega
      have hk0 : (0 : Int) ≤ (k : Int) := by omega
      rcases HRW.out with h | ⟨g, qs, rfl, hR, hnew⟩
      · have := HN.out; rw [h] at this; simp at this; omega
      have hlk : k < C.orders.length := by rw [HN.out]; exact hlt
      have hlq : k < qs.length := by rw [hR.len]; exact hlk
      obtain ⟨a0, n0, c0, e0, g2, g3, g4, g5⟩ := hR.has k hlk hlq
      have hra := hR.arr k hlq
      rw [e0] at hra
      obtain ⟨z0, z1, z2, z3, z4⟩ := ordAt_all hra
      have hx := HNE.out _ (List.getElem_mem hlk)
      have hn0 : 0 < n0 := by
        rw [← g2]
        exact List.length_pos_iff.2 hx.1
      have HCL : Aside _ := clone_lns (c := c0) g2 g5 hn0 (by omega)
      have HR : Aside _ := hR
      have HNW : Hid (∀ i (h1 : i < C.orders.length) (h2 : i < qs.length) a n c, i < k → qs[i] = ordCells C.orders[i].day a n c C.orders[i].disc C.orders[i].tax C.orders[i].ship → ∀ x, a = some x → w1.heap.size ≤ x.block) := hnew
      have HG2 := Lib.hid g2
      clear z0 z2 z3 z4 hra hR hnew g3 g4 g5 HRW e0 hx g2
      go_wp2_with fail
      refine Calls.mono HCL.out ?_
      rintro e w5 ⟨⟨gl, c5, rfl, q1, q2, q3, q4, q5⟩, b5⟩
      have HR5 : Aside _ := HR.out.below b5
      have hz5 : ∃ v, w5.cell? ⟨g, k * 5 + 1, none⟩ = some v := by
        obtain ⟨a9, n9, c9, e9, -⟩ := HR5.out.has k hlk hlq
        have := HR5.out.arr k hlq
        rw [e9] at this
        exact ⟨_, this.cells 1 _ rfl⟩
      obtain ⟨v5, hz5⟩ := hz5
      have hf5 := HR5.out.fz (k * 5 + 1)
      have hgr : g < wr.heap.size := HR.out.lt
      have HB5 : Aside (Below w1.heap.size w1 (w5.setCell ⟨g, k * 5 + 1, none⟩ (.slice (some ⟨gl, 0, none⟩) n0 c5))) := (HB.out.trans (b5.mono HB.out.size)).setCell HR.out.new _
      have HR6 : Aside (C.orders = [] ∨ ∃ g' cs, some (⟨g, 0, none⟩ : Addr) = some ⟨g', 0, none⟩ ∧ OrdRow w1 g' C.orders cs (w5.setCell ⟨g, k * 5 + 1, none⟩ (.slice (some ⟨gl, 0, none⟩) n0 c5)) ∧ ∀ i (h1 : i < C.orders.length) (h2 : i < cs.length) a n c, i < k + 1 → cs[i] = ordCells C.orders[i].day a n c C.orders[i].disc C.orders[i].tax C.orders[i].ship → ∀ x, a = some x → w1.heap.size ≤ x.block) := by
        refine .inr ⟨g, _, rfl, HR5.out.set k hlk hlq (some ⟨gl, 0, none⟩) n0 c5 HG2.out q3 q4 q5 (fun x hx => by injection hx with hx; subst hx; show gl ≠ g; omega), fun i h1 h2 a n c hik e x hx => ?_⟩
        have h2' : i < qs.length := by simpa using h2
        by_cases ei : i = k
        · subst ei
          rw [List.getElem_set_self] at e
          obtain ⟨rfl, -, -⟩ := ordCells_inj e
          injection hx with hx
          subst hx
          exact Nat.le_trans HB.out.size q1
        · rw [List.getElem_set_ne (Ne.symm ei)] at e
          exact HNW.out i h1 h2' a n c (by omega) e x hx
      clear HCL HR HR5 HNW q1 q2 q3 q4 q5 b5 z1 HB
      go_wp2
      go_roundw
      case rel => exact ⟨k + 1, by omega, by go_num, HB5.out, HR6.out⟩
      case measure => simp [intOf]; omega
    · obtain rfl : k = no := by omega
      obtain ⟨gr, hgr⟩ : ∃ gr, gr = w.heap.size + 1 := ⟨_, rfl⟩
      have HGR := Lib.hid hgr
      rw [← hgr] at HZ1 ⊢
      have hgr1 : gr < w1.heap.size := by have := HS1.out; omega
      have HOA : Aside (∀ W, Upd (fun q => q = gr) wr W → OrdsAt W bO C.orders) := fun W hW => by
        rcases HRW.out with h | ⟨g, qs, rfl, hR, hnew⟩
        · rw [h]; exact .inl rfl
        · exact hR.ords hW (fun k hk e => by have e' : k = gr := e; omega) (fun i h1 h2 a n c e x hx => hnew i h1 h2 a n c (by have := HN.out; omega) e x hx)
      have hbw := HB.out
      have hgrw : gr < wr.heap.size := Nat.lt_of_lt_of_le hgr1 hbw.size
      have HZR : Hid (wr.heap[gr]? = some (.cells #[.slice none 0 0, .slice none 0 0, .slice none 0 0] 26 (0, 0))) := (hbw.block gr hgr1).trans HZ1.out
      have HAR : Aside _ := HA1.out.grown hbw
      have hcw : w.heap.size < wr.heap.size := HAR.out.lt
      have hcg : ¬ w.heap.size = gr := by omega
      obtain ⟨y0, y1, y2⟩ := cfgAt_all HAR.out
      simp only [Nat.zero_add] at y1 y2
      have HSU : Aside (∀ W, Below wr.heap.size wr W → Calls Tryz.prog 28 #[.slice aS ns cs] W fun e w' => ∃ a' c', e = .returned (.slice a' ns c') ∧ (ns ≤ c' ∧ c' ≤ maxLen) ∧ (∀ V, Upd (fun k => k < wr.heap.size) w' V → SupsAt V a' C.sups) ∧ Below wr.heap.size wr w' ∧ w'.heap[gr]? = some (.cells #[.slice none 0 0, .slice none 0 0, .slice none 0 0] 26 (0, 0))) := fun W h => by
        refine (clone_sps HC1.out.sl (HC1.out.sa.below (hbw.trans (h.mono hbw.size))) (by omega)).mono ?_
        rintro e w' ⟨⟨a', c', rfl, g1, g2⟩, hb⟩
        have hb' := h.trans (hb.mono h.size)
        exact ⟨a', c', rfl, g1, fun V hV => g2 V (hV.mono (fun k _ e => Nat.lt_of_lt_of_le e h.size)), hb', (hb'.block gr hgrw).trans HZR.out⟩
      have HTU : Aside (∀ W, Below wr.heap.size wr W → Calls Tryz.prog 29 #[.slice aT nt ct] W fun e w' => ∃ a' c', e = .returned (.slice a' nt c') ∧ (nt ≤ c' ∧ c' ≤ maxLen) ∧ (∀ V, Upd (fun k => k < wr.heap.size) w' V → PolsAt V a' C.table) ∧ Below wr.heap.size wr w' ∧ Below W.heap.size W w' ∧ Hid (w'.heap[gr]? = some (.cells #[.slice none 0 0, .slice none 0 0, .slice none 0 0] 26 (0, 0))) ∧ w'.cell? ⟨gr, 0, none⟩ = some (.slice none 0 0) ∧ w'.cell? ⟨gr, 1, none⟩ = some (.slice none 0 0) ∧ w'.cell? ⟨gr, 2, none⟩ = some (.slice none 0 0) ∧ ∀ j, w'.frozen? ⟨gr, j, none⟩ = false) := fun W h => by
        refine (clone_pls HC1.out.tl (HC1.out.ta.below (hbw.trans (h.mono hbw.size))) (by omega)).mono ?_
        rintro e w' ⟨⟨a', c', rfl, g1, g2⟩, hb⟩
        have hb' := h.trans (hb.mono h.size)
        have hz := (hb'.block gr hgrw).trans HZR.out
        exact ⟨a', c', rfl, g1, fun V hV => g2 V (hV.mono (fun k _ e => Nat.lt_of_lt_of_le e h.size)), hb', hb, hz, (cell_of_row w' gr 0 _ _ _ hz).trans rfl, (cell_of_row w' gr 1 _ _ _ hz).trans rfl, (cell_of_row w' gr 2 _ _ _ hz).trans rfl, fun j => by simp [World.frozen?, hz]⟩
      have u0 := Upd.refl (fun q => q = gr) wr
      have b0 := Below.refl wr.heap.size wr
      have HBW : Aside (Below w.heap.size w wr) := HB1.out.trans (hbw.mono HB1.out.size)
      have HGW := Lib.hid hgrw
      clear HRW HB HAR hbw y0 hgr hgr1
      go_wp2_with fail
      go_region_held3 (fun w' => Upd (fun q => q = gr) wr w' ∧ w'.cell? ⟨w.heap.size, 1, none⟩ = some (.slice aS ns cs) ∧ w'.cell? ⟨w.heap.size, 2, none⟩ = some (.slice aT nt ct))
        (refine ⟨?_, (Upd.cell (S := fun q => q = gr) (w := wr) (p := ⟨w.heap.size, 1, none⟩) ?_ hcw hcg).trans y1, (Upd.cell (S := fun q => q = gr) (w := wr) (p := ⟨w.heap.size, 2, none⟩) ?_ hcw hcg).trans y2⟩ <;> (with_reducible (repeat (first | assumption | refine upd_gset ?_ | refine Upd.drew ?_))))
        ((first
          | (go_at_call 28; refine Calls.mono (HSU.out _ ?_) ?_; (with_reducible (repeat (first | assumption | refine Below.drew ?_))); rintro e w8 ⟨aS8, cS8, rfl, gS1, gS2, b8, zz8⟩; have u8 : Upd (fun q => q = gr) wr w8 := Upd.below b8)
          | (go_at_call 29; refine Calls.mono (HTU.out _ ?_) ?_; (with_reducible (repeat (first | assumption | refine Below.drew ?_))); rintro e w9 ⟨aT9, cT9, rfl, gT1, gT2, b9, b89, zz9, z0, z1, z2, zf⟩; have u9 : Upd (fun q => q = gr) wr w9 := Upd.below b9)))
      all_goals
        have hat : (((w9.setCell ⟨gr, 0, none⟩ (.slice bO k do')).setCell ⟨gr, 1, none⟩ (.slice aS8 ns cS8)).setCell ⟨gr, 2, none⟩ (.slice aT9 nt cT9)).heap[gr]? = some (.cells (cfgCells bO k do' aS8 ns cS8 aT9 nt cT9) 26 (0, 0)) := by
          have q0 := setCell_heap_at (o := 0) (u := .slice bO k do') zz9.out
          have q1 := setCell_heap_at (o := 1) (u := .slice aS8 ns cS8) q0
          have q2 := setCell_heap_at (o := 2) (u := .slice aT9 nt cT9) q1
          unfold cfgCells
          simpa using q2
        have HAT := Lib.hid hat
        have hsu : Upd (fun q => q = gr) w9 (((w9.setCell ⟨gr, 0, none⟩ (.slice bO k do')).setCell ⟨gr, 1, none⟩ (.slice aS8 ns cS8)).setCell ⟨gr, 2, none⟩ (.slice aT9 nt cT9)) := upd_gset (upd_gset (upd_gset (Upd.refl _ _)))
        have hsl : Upd (fun k => k < wr.heap.size) w9 (((w9.setCell ⟨gr, 0, none⟩ (.slice bO k do')).setCell ⟨gr, 1, none⟩ (.slice aS8 ns cS8)).setCell ⟨gr, 2, none⟩ (.slice aT9 nt cT9)) := hsu.mono (fun q _ e => by have := HGW.out; omega)
        have HO9 : Aside (OrdsAt (((w9.setCell ⟨gr, 0, none⟩ (.slice bO k do')).setCell ⟨gr, 1, none⟩ (.slice aS8 ns cS8)).setCell ⟨gr, 2, none⟩ (.slice aT9 nt cT9)) bO C.orders) := HOA.out _ (u9.trans hsu (fun _ _ x => x))
        have HS9 : Aside (SupsAt (((w9.setCell ⟨gr, 0, none⟩ (.slice bO k do')).setCell ⟨gr, 1, none⟩ (.slice aS8 ns cS8)).setCell ⟨gr, 2, none⟩ (.slice aT9 nt cT9)) aS8 C.sups) := gS2 _ ((below_upd _ b89).trans hsl (fun _ _ x => x))
        have HT9 : Aside (PolsAt (((w9.setCell ⟨gr, 0, none⟩ (.slice bO k do')).setCell ⟨gr, 1, none⟩ (.slice aS8 ns cS8)).setCell ⟨gr, 2, none⟩ (.slice aT9 nt cT9)) aT9 C.table) := gT2 _ hsl
        have HB9 : Aside (Below w.heap.size w (((w9.setCell ⟨gr, 0, none⟩ (.slice bO k do')).setCell ⟨gr, 1, none⟩ (.slice aS8 ns cS8)).setCell ⟨gr, 2, none⟩ (.slice aT9 nt cT9))) := (((HBW.out.trans (b9.mono HBW.out.size)).setCell (by show w.heap.size ≤ gr; have := HGR.out; omega) _).setCell (by show w.heap.size ≤ gr; have := HGR.out; omega) _).setCell (by show w.heap.size ≤ gr; have := HGR.out; omega) _
        have HGS := Lib.hid gS1
        have HGT := Lib.hid gT1
        clear hat hsu hsl HOA gS2 gT2 b8 b9 b89 zz8 zz9 z0 z1 z2 zf u8 u9 u0 b0 HBW y1 y2 HSU HTU gS1 gT1
        go_wp2_with fail
        refine bodyPost_ret (results_cell_row rfl _ _ gr 26 (cfgCells bO k do' aS8 ns cS8 aT9 nt cT9) (0, 0) _ rfl HAT.out Tryz.underlying26 rfl info_cfgr) rfl ?_
        exact ⟨⟨bO, k, do', aS8, ns, cS8, aT9, nt, cT9, C, rfl, ⟨HC1.out.ol, HC1.out.sl, HC1.out.tl, HO9.out, HS9.out, HT9.out, HC1.out.om, HC1.out.sm, HC1.out.tm⟩, sameC_self C, ⟨HCP.out, HGS.out, HGT.out⟩⟩, HB9.out⟩
end Go.Proofs.YtbiompjhenkieaaGreat
