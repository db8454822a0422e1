/-
  StockClones: what is done to a clone changes nothing of the stock. No conditions: every input.
-/
import Derived.Test.YtakdodcdgmbhaaaStockLaw
import Derived.Test.YtakdodcdgmbhaaaStkAny
import Derived.Test.YtakdodcdgmbhaaaStkClone
import Derived.Test.YtakdodcdgmbhaaaStkSame
import Derived.StillTailTactics
namespace Go.Proofs.Ytakdodcdgmbhaaa
open Go.RowKit Go.WideShapes
set_option maxRecDepth 100000

theorem stockClones_many (a b d : Option Addr) (n m r ca cb cd : Nat) (w : World) (h : 200 < n) : Calls Try.prog 6 #[.slice a n ca, .slice b m cb, .slice d r cd] w fun e w' => e = .returned (.bool true) ∧ Below w.heap.size w w' := by
  have h1 : (200 : Int) < (n : Int) := by omega
  go_enter Try.func6, Try.ntmps6
  go_wp2_with fail
  refine Calls.mono (stk_awake _) ?_
  rintro e w1 ⟨rfl, b1⟩
  go_wp2_with fail
  refine Calls.mono (stk_awake _) ?_
  rintro e w2 ⟨rfl, b2⟩
  go_wp2
  go_ret
  exact ⟨rfl, b1.trans (b2.mono b1.size)⟩
theorem stockClones_long (a b d : Option Addr) (n m r ca cb cd : Nat) (w : World) (h : n ≤ 200) (hr : 100 < r) : Calls Try.prog 6 #[.slice a n ca, .slice b m cb, .slice d r cd] w fun e w' => e = .returned (.bool true) ∧ Below w.heap.size w w' := by
  have h1 : ¬ (200 : Int) < (n : Int) := by omega
  have h2 : (100 : Int) < (r : Int) := by omega
  go_enter Try.func6, Try.ntmps6
  go_wp2_with fail
  refine Calls.mono (stk_awake _) ?_
  rintro e w1 ⟨rfl, b1⟩
  go_wp2_with fail
  refine Calls.mono (stk_awake _) ?_
  rintro e w2 ⟨rfl, b2⟩
  go_wp2
  go_ret
  exact ⟨rfl, b1.trans (b2.mono b1.size)⟩
theorem stockClones_none (a b d : Option Addr) (n m r ca cb cd : Nat) (w : World) (h : n ≤ 200) (hr : r ≤ 100)
    (HN : Aside (∀ W, Below w.heap.size w W → Calls Try.prog 8 #[.slice a n ca, .slice b m cb] W fun e W' => e = .returned (.tuple #[.pointer none, .int .i64 1]) ∧ Below W.heap.size W W')) :
    Calls Try.prog 6 #[.slice a n ca, .slice b m cb, .slice d r cd] w fun e w' => e = .returned (.bool true) ∧ Below w.heap.size w w' := by
  have h1 : ¬ (200 : Int) < (n : Int) := by omega
  have h2 : ¬ (100 : Int) < (r : Int) := by omega
  go_enter Try.func6, Try.ntmps6
  go_wp2_with fail
  refine Calls.mono (stk_awake _) ?_
  rintro e w1 ⟨rfl, b1⟩
  go_wp2_with fail
  refine Calls.mono (HN.out _ b1) ?_
  rintro e w2 ⟨rfl, b2⟩
  have HB2 : Aside _ := b1.trans (b2.mono b1.size)
  clear b1 b2
  go_wp2_with fail
  refine Calls.mono (stk_clone_nil _) ?_
  rintro e w3 ⟨rfl, rfl⟩
  go_wp2
  go_ret
  exact ⟨rfl, HB2.out⟩

/-- The stock, the document's units, and a clone whose units are others. -/
structure Three (w W : World) (p G H n p2 G2 : Nat) (a : Option Addr) (u : Nat → Itm) : Prop where
  below : Below w.heap.size w W
  stk : StockAt W p G n u
  ref : RefAt W a H n u
  cln : ∃ v, StockAt W p2 G2 n v
  ge : w.heap.size ≤ G2
  ne : p ≠ G2
  nG : 0 < n → G ≠ G2
  nH : 0 < n → H ≠ G2
theorem Three.next {w W W' : World} {p G H n p2 G2 : Nat} {a : Option Addr} {u v : Nat → Itm} (h : Three w W p G H n p2 G2 a u) (hd : Done W p2 G2 n v W') : Three w W' p G H n p2 G2 a u := by
  obtain ⟨v', -, hs, hu⟩ := hd
  exact ⟨hu.toB h.below h.ge, h.stk.upd hu h.ne h.nG, h.ref.upd hu h.nH, ⟨v', hs⟩, h.ge, h.ne, h.nG, h.nH⟩
theorem Three.drew {w W : World} {p G H n p2 G2 : Nat} {a : Option Addr} {u : Nat → Itm} (h : Three w W p G H n p2 G2 a u) : Three w W.drew p G H n p2 G2 a u := by
  have hb : Below W.heap.size W W.drew := (Below.refl _ _).drew
  obtain ⟨v, hv⟩ := h.cln
  exact ⟨h.below.drew, h.stk.below hb, h.ref.below hb, ⟨v, hv.below hb⟩, h.ge, h.ne, h.nG, h.nH⟩

set_option maxHeartbeats 8000000 in
theorem stockClones_ok (a b d : Option Addr) (n r ca cb cd : Nat) (s f : Nat → Int) (g : Nat → Sct) (w : World) (hn : n ≤ 200) (hr : r ≤ 100) (hs : IntRow w a n s) (hf : IntRow w b n f) (hg : ActRow w d r g) (hb : anyBad f n = false) :
    Calls Try.prog 6 #[.slice a n ca, .slice b n cb, .slice d r cd] w fun e w' => e = .returned (.bool true) ∧ Below w.heap.size w w' := by
  have h1 : ¬ (200 : Int) < (n : Int) := by omega
  have h2 : ¬ (100 : Int) < (r : Int) := by omega
  have HN : Aside (∀ W, Below w.heap.size w W → _) := fun W h => stk_new a b n ca cb s f W hn (IntRow.below hs h) (IntRow.below hf h) hb
  have HM : Aside (∀ W, Below w.heap.size w W → _) := fun W h => stk_model a b n ca cb s f W hn (IntRow.below hs h) (IntRow.below hf h)
  have HG : Aside (ActRow w d r g) := hg
  have HP : Hid (∀ k, k < n → 0 ≤ (newU s f k).place ∧ (newU s f k).place ≤ 8) := fun k hk => anyBad_no hb hk
  have HBF : Hid (anyBad f n = false) := hb
  clear hs hf hg hb
  go_enter Try.func6, Try.ntmps6
  go_wp2_with fail
  refine Calls.mono (stk_awake _) ?_
  rintro e w1 ⟨rfl, b1⟩
  have HN1 : Aside _ := HN.out _ b1
  have HB1 : Aside _ := b1
  clear b1 HN
  go_wp2_with fail
  refine Calls.mono HN1.out ?_
  rintro e w2 ⟨p, G, rfl, s2, b2, gp, gG⟩
  have HB2 : Aside (Below w.heap.size w w2) := HB1.out.trans (b2.mono HB1.out.size)
  have HS2 : Aside _ := s2
  have HM2 : Aside _ := HM.out _ HB2.out
  clear b2 s2 gp gG HN1 HM HB1
  go_wp2_with fail
  refine Calls.mono HM2.out ?_
  intro e w3 hm
  obtain ⟨aW, cW, he, hm2⟩ : ∃ aW cW, e = .returned (.tuple #[.slice aW n cW, .bool true]) ∧ ModAt w2 w3 (.slice aW n cW) n (newU s f) := by
    rcases hm with ⟨hx, -⟩ | ⟨-, x⟩
    · rw [HBF.out] at hx; cases hx
    · exact x
  subst he
  clear hm
  obtain ⟨H, hRef, hH⟩ := hm2.ref
  have HB3 : Aside (Below w.heap.size w w3) := HB2.out.trans (hm2.below.mono HB2.out.size)
  have HS3 : Aside _ := HS2.out.below hm2.below
  have HR3 : Aside _ := hRef
  have HC3 : Aside _ := stk_clone HS3.out
  clear hm2 hRef hH HM2 HBF HS2 HB2
  go_wp2_with fail
  refine Calls.mono HC3.out ?_
  rintro e w4 ⟨p2, G2, rfl, s4, b4, gp, gG⟩
  have HT : Aside (Three w w4 p G H n p2 G2 aW (newU s f)) :=
    ⟨HB3.out.trans (b4.mono HB3.out.size), HS3.out.below b4, HR3.out.below b4, ⟨_, s4⟩, Nat.le_trans HB3.out.size gG, fun e => by have := HS3.out.lt; omega, fun h0 e => by have := (HS3.out.row h0).lt; omega, fun h0 e => by have := (HR3.out.row h0).lt; omega⟩
  clear s4 b4 gp gG HC3 HS3 HR3 HB3
  go_wp2
  go_loopw [51] (fun i wr => ∃ k : Nat, k ≤ r ∧ i = .int .i64 k ∧ Aside (Three w wr p G H n p2 G2 aW (newU s f))) (fun i _ => r - (intOf i).toNat)
  case atStart => exact ⟨0, Nat.zero_le _, rfl, HT.out⟩
  case round =>
    clear HT
    obtain ⟨k, hk, rfl, HT⟩ := hrel
    by_cases hlt : k < r
    · have hkr : (k : Int) < (r : Int) := by omega
      have hk0 : (0 : Int) ≤ (k : Int) := by omega
      obtain ⟨q, o, rfl, lq, cq⟩ := (HG.out : ActRow w d r g) (by omega)
      obtain ⟨x0, x1, x2⟩ := act_all ((cq k hlt).below HT.out.below lq)
      obtain ⟨v, hv⟩ := HT.out.cln
      have HPK : Aside (∀ z, _) := fun z => stk_doPick hv z
      have HMV : Aside (∀ i z, _) := fun i z => stk_doMove (hv.below (Below.refl _ _).drew) i z
      clear cq hv
      generalize g k = y at *
      obtain ⟨K, A, B⟩ := y
      dsimp only at x0 x1 x2
      by_cases h3 : 3 < K
      · go_wp2_with fail
        refine Calls.mono (HPK.out A) ?_
        rintro e w5 ⟨⟨i1, i2, rfl⟩, hd⟩
        have HT5 : Aside _ := HT.out.next hd
        clear hd HT HPK HMV x0 x1 x2
        go_wp2
        go_roundw
        case rel => exact ⟨k + 1, by omega, by go_num, HT5.out⟩
        case measure => simp [intOf]; omega
      · go_upto_region 13 with (fail)
        go_still_tail 11, (by kernel_rfl)
        change wpList _ _ _ _ _ wr.drew
        have HTd : Aside _ := HT.out.drew
        clear HT x0 x1 x2
        generalize wr.drew = wd at *
        go_wp2_with fail
        refine Calls.mono (HMV.out A B) ?_
        rintro e w5 ⟨⟨i1, rfl⟩, hd⟩
        have HT5 : Aside _ := HTd.out.next hd
        clear hd HPK HMV HTd
        go_wp2
        go_roundw
        case rel => exact ⟨k + 1, by omega, by go_num, HT5.out⟩
        case measure => simp [intOf]; omega
    · obtain rfl : k = r := by omega
      have HSM : Aside _ := stk_same (c := cW) HT.out.stk HT.out.ref HP.out
      have HBw := Lib.hid HT.out.below
      clear HT
      go_wp2_with fail
      refine Calls.mono HSM.out ?_
      rintro e w6 ⟨rfl, b6⟩
      have HB6 : Aside _ := HBw.out.trans (b6.mono HBw.out.size)
      clear b6
      go_wp2
      go_ret
      exact ⟨rfl, HB6.out⟩

theorem stockClones_law (a b d : Option Addr) (n m r ca cb cd : Nat) (s f : Nat → Int) (g : Nat → Sct) (w : World) (hs : IntRow w a n s) (hf : IntRow w b m f) (hg : ActRow w d r g) :
    Calls Try.prog 6 #[.slice a n ca, .slice b m cb, .slice d r cd] w fun e w' => e = .returned (.bool true) ∧ Below w.heap.size w w' := by
  by_cases h1 : 200 < n
  · exact stockClones_many a b d n m r ca cb cd w h1
  by_cases h2 : 100 < r
  · exact stockClones_long a b d n m r ca cb cd w (by omega) h2
  by_cases h3 : n = m
  · subst h3
    cases hb : anyBad f n
    · exact stockClones_ok a b d n r ca cb cd s f g w (by omega) (by omega) hs hf hg hb
    · exact stockClones_none a b d n n r ca cb cd w (by omega) (by omega) (fun W h => stk_new_place a b n ca cb f W (by omega) (IntRow.below hf h) hb)
  · refine stockClones_none a b d n m r ca cb cd w (by omega) (by omega) (fun W h => (stk_new_len a b n m ca cb W h3).mono ?_)
    rintro e w' ⟨rfl, rfl⟩
    exact ⟨rfl, Below.refl _ _⟩

theorem stockClones_contract (W : World) (args : Array Value) (h : Each Try.prog W Try.f6.params.toList args.toList) :
    Calls Try.prog 6 args W fun e W' => e = .returned (.bool true) ∧ Below W.heap.size W W' := by
  rw [Try.params6] at h
  obtain ⟨v0, r0, e0, ⟨_, o0⟩, d0, h⟩ := h.cons
  obtain ⟨v1, r1, rfl, ⟨_, o1⟩, d1, h⟩ := h.cons
  obtain ⟨v2, r2, rfl, ⟨_, o2⟩, d2, h⟩ := h.cons
  obtain rfl := h.nil
  obtain ⟨args⟩ := args
  obtain rfl : args = [v0, v1, v2] := e0
  obtain ⟨sa0, sn0, sc0, rfl, hsc0⟩ := val_slice o0 Try.underlying22
  rw [hsc0] at d0
  obtain ⟨a0', c0', xs0, e0, hl0, hm0, hx0⟩ := d0.ints Try.underlying22 Try.underlying3 (by kernel_rfl)
  injection e0 with e0 _
  injection e0 with e10 e20 e30
  subst e10 e20 e30
  have hi0 := IsInts.row hx0
  obtain ⟨sa1, sn1, sc1, rfl, hsc1⟩ := val_slice o1 Try.underlying22
  rw [hsc1] at d1
  obtain ⟨a1', c1', xs1, e1, hl1, hm1, hx1⟩ := d1.ints Try.underlying22 Try.underlying3 (by kernel_rfl)
  injection e1 with e1 _
  injection e1 with e11 e21 e31
  subst e11 e21 e31
  have hi1 := IsInts.row hx1
  obtain ⟨sa2, sn2, sc2, rfl, hsc2⟩ := val_slice o2 Try.underlying23
  rw [hsc2] at d2
  obtain ⟨g2, hg2⟩ := acts_of d2
  exact stockClones_law _ _ _ _ _ _ _ _ _ _ _ g2 W hi0 hi1 hg2

theorem stockClones_lifted (os : Os) (started : os.Started) (H : Type) (enc : TypeId × Value → H) :
    ReturnsInHanded {} Try.checked os 6 .any (Rows.stockClonesSpec.pre6 enc Try.prog Try.f6 Rows.stockClonesRow.domain false) (Rows.stockClonesSpec.post enc Try.prog Try.f6 false true false false) :=
  law_lifted (C := Try.checked) seat_own seat_laid (by kernel_rfl) Try.func6 rfl (tb := 4) rfl Try.underlying4
    (by
      rw [Try.params6]; intro t ht; simp at ht
      rcases ht with rfl | rfl | rfl <;> exact ⟨by kernel_rfl, of_decide_eq_true (by kernel_rfl)⟩)
    (fun H ds hl => by
      rw [Try.params6] at hl
      match ds, hl with
      | [d1, d2, d3], _ => rfl)
    os started H enc
    (ChangeSpec.witness6 (enc := enc) (C := Try.checked) false ⟨#[], #[.slice none 0 0, .slice none 0 0, .slice none 0 0], []⟩ 8 (by kernel_rfl) (by kernel_rfl) (by kernel_rfl) (by kernel_rfl))
    stockClones_contract

theorem stockClones_holds : Rows.StockClonesSaid :=
  OpenClaim.holds_of_wide 6 Try.f6 rfl rfl rfl rfl rfl rfl rfl ⟨rfl, rfl, rfl, rfl, rfl⟩ rfl rfl rfl rfl rfl (by kernel_rfl) Try.func6 (by kernel_rfl)
    (of_decide_eq_true (by kernel_rfl)) (by unfold Func.isWrapper; first | (rw [if_pos (by decide +kernel)]; kernel_rfl) | (rw [if_neg (by decide +kernel)]; exact ⟨rfl, rfl⟩))
    (fun os started H enc _ => stockClones_lifted os started H enc)
#print axioms stockClones_holds
end Go.Proofs.Ytakdodcdgmbhaaa
