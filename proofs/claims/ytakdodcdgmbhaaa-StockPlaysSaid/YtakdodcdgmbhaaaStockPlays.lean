/-
  StockPlays: whatever units are moved, and picked: each answer, and where each unit is, are what the document says. No conditions: every input.
-/
import Derived.Test.YtakdodcdgmbhaaaStockLaw
import Derived.Test.YtakdodcdgmbhaaaStkSides
import Derived.Test.YtakdodcdgmbhaaaStkSame
import Derived.Deep.RegionHeld3
namespace Go.Proofs.Ytakdodcdgmbhaaa
open Go.RowKit Go.WideShapes Go.Deep
set_option maxRecDepth 100000

theorem stockPlays_many (a b d : Option Addr) (n m r ca cb cd : Nat) (w : World) (h : 300 < n) : Calls Try.prog 3 #[.slice a n ca, .slice b m cb, .slice d r cd] w fun e w' => e = .returned (.bool true) ∧ Below w.heap.size w w' := by
  have h1 : (300 : Int) < (n : Int) := by omega
  go_enter Try.func3, Try.ntmps3
  go_wp2_with fail
  refine Calls.mono (stk_awake _) ?_
  rintro e w1 ⟨rfl, b1⟩
  go_wp2_with fail
  refine Calls.mono (stk_awake _) ?_
  rintro e w2 ⟨rfl, b2⟩
  go_wp2
  go_ret
  exact ⟨rfl, b1.trans (b2.mono b1.size)⟩
theorem stockPlays_more (a b d : Option Addr) (n m r ca cb cd : Nat) (w : World) (h : n ≤ 300) (hm : 300 < m) : Calls Try.prog 3 #[.slice a n ca, .slice b m cb, .slice d r cd] w fun e w' => e = .returned (.bool true) ∧ Below w.heap.size w w' := by
  have h1 : ¬ (300 : Int) < (n : Int) := by omega
  have h2 : (300 : Int) < (m : Int) := by omega
  go_enter Try.func3, Try.ntmps3
  go_wp2_with fail
  refine Calls.mono (stk_awake _) ?_
  rintro e w1 ⟨rfl, b1⟩
  go_wp2_with fail
  refine Calls.mono (stk_awake _) ?_
  rintro e w2 ⟨rfl, b2⟩
  go_wp2
  go_ret
  exact ⟨rfl, b1.trans (b2.mono b1.size)⟩
theorem stockPlays_long (a b d : Option Addr) (n m r ca cb cd : Nat) (w : World) (h : n ≤ 300) (hm : m ≤ 300) (hr : 100 < r) : Calls Try.prog 3 #[.slice a n ca, .slice b m cb, .slice d r cd] w fun e w' => e = .returned (.bool true) ∧ Below w.heap.size w w' := by
  have h1 : ¬ (300 : Int) < (n : Int) := by omega
  have h2 : ¬ (300 : Int) < (m : Int) := by omega
  have h3 : (100 : Int) < (r : Int) := by omega
  go_enter Try.func3, Try.ntmps3
  go_wp2_with fail
  refine Calls.mono (stk_awake _) ?_
  rintro e w1 ⟨rfl, b1⟩
  go_wp2_with fail
  refine Calls.mono (stk_awake _) ?_
  rintro e w2 ⟨rfl, b2⟩
  go_wp2
  go_ret
  exact ⟨rfl, b1.trans (b2.mono b1.size)⟩
theorem stockPlays_none (a b d : Option Addr) (n m r ca cb cd : Nat) (w : World) (h : n ≤ 300) (hm : m ≤ 300) (hr : r ≤ 100)
    (HN : Aside (∀ W, Below w.heap.size w W → Calls Try.prog 8 #[.slice a n ca, .slice b m cb] W fun e W' => e = .returned (.tuple #[.pointer none, .int .i64 1]) ∧ Below W.heap.size W W'))
    (HM : Aside (∀ W, Below w.heap.size w W → Calls Try.prog 9 #[.slice a n ca, .slice b m cb] W fun e W' => e = .returned (.tuple #[.slice none 0 0, .bool false]) ∧ Below W.heap.size W W')) :
    Calls Try.prog 3 #[.slice a n ca, .slice b m cb, .slice d r cd] w fun e w' => e = .returned (.bool true) ∧ Below w.heap.size w w' := by
  have h1 : ¬ (300 : Int) < (n : Int) := by omega
  have h2 : ¬ (300 : Int) < (m : Int) := by omega
  have h3 : ¬ (100 : Int) < (r : Int) := by omega
  go_enter Try.func3, Try.ntmps3
  go_wp2_with fail
  refine Calls.mono (stk_awake _) ?_
  rintro e w1 ⟨rfl, b1⟩
  go_wp2_with fail
  refine Calls.mono (HN.out _ b1) ?_
  rintro e w2 ⟨rfl, b2⟩
  have b12 := b1.trans (b2.mono b1.size)
  go_wp2_with fail
  refine Calls.mono (HM.out _ b12) ?_
  rintro e w3 ⟨rfl, b3⟩
  have HB3 : Aside _ := b12.trans (b3.mono b12.size)
  clear b1 b2 b12 b3
  go_wp2
  go_ret
  exact ⟨rfl, HB3.out⟩

/-- Of those behind m, the least that is so, or -1. -/
def LeastFrom (P : Nat → Bool) (m n : Nat) (i : Int) : Prop := (∃ k : Nat, i = k ∧ m ≤ k ∧ k < n ∧ P k = true ∧ ∀ j, m ≤ j → j < k → P j = false) ∨ (i = -1 ∧ ∀ j, m ≤ j → j < n → P j = false)
theorem leastFrom_all {P : Nat → Bool} {n : Nat} {i : Int} (h : LeastFrom P 0 n i) : LeastAt P n i := by
  rcases h with ⟨k, h1, -, h2, h3, h4⟩ | ⟨h1, h2⟩
  · exact .inl ⟨k, h1, h2, h3, fun j hj => h4 j (Nat.zero_le _) hj⟩
  · exact .inr ⟨h1, fun j hj => h2 j (Nat.zero_le _) hj⟩
theorem leastFrom_yes {P : Nat → Bool} {m n : Nat} (hm : m < n) (h : P m = true) : LeastFrom P m n m := .inl ⟨m, rfl, Nat.le_refl _, hm, h, fun j h1 h2 => by omega⟩
theorem leastFrom_no {P : Nat → Bool} {m n : Nat} {i : Int} (hf : P m = false) (h : LeastFrom P (m + 1) n i) : LeastFrom P m n i := by
  rcases h with ⟨k, h1, h0, h2, h3, h4⟩ | ⟨h1, h2⟩
  · refine .inl ⟨k, h1, by omega, h2, h3, fun j hj hk => ?_⟩
    by_cases e : j = m
    · subst e; exact hf
    · exact h4 j (by omega) hk
  · refine .inr ⟨h1, fun j hj hk => ?_⟩
    by_cases e : j = m
    · subst e; exact hf
    · exact h2 j (by omega) hk

/-- What Pick answers, and leaves. -/
def PickIs (n : Nat) (u : Nat → Itm) (A N E : Int) (v : Nat → Itm) : Prop :=
  (∃ t : Nat, t < n ∧ pickB u A t = true ∧ (∀ j, j < t → pickB u A j = false) ∧ N = t ∧ E = 0 ∧ v = putAt u t ((u t).moved 7)) ∨ ((∀ j, j < n → pickB u A j = false) ∧ N = 0 ∧ E = 14 ∧ v = u)
theorem pickB_place {u : Nat → Itm} {A : Int} {t : Nat} (h : pickB u A t = true) : (u t).place = 3 := by
  unfold pickB at h
  simp only [Bool.and_eq_true, beq_iff_eq] at h
  exact h.2

set_option maxHeartbeats 16000000 in
theorem stockPlays_ok (a b d : Option Addr) (n r ca cb cd : Nat) (s f : Nat → Int) (g : Nat → Sct) (w : World) (hn : n ≤ 200) (hr : r ≤ 100) (hs : IntRow w a n s) (hf : IntRow w b n f) (hg : ActRow w d r g) (hb : anyBad f n = false) :
    Calls Try.prog 3 #[.slice a n ca, .slice b n cb, .slice d r cd] w fun e w' => e = .returned (.bool true) ∧ Below w.heap.size w w' := by
  have h1 : ¬ (300 : Int) < (n : Int) := by omega
  have h2 : ¬ (100 : Int) < (r : Int) := by omega
  have HN : Aside (∀ W, Below w.heap.size w W → _) := fun W h => stk_new a b n ca cb s f W hn (IntRow.below hs h) (IntRow.below hf h) hb
  have HM : Aside (∀ W, Below w.heap.size w W → _) := fun W h => stk_model a b n ca cb s f W hn (IntRow.below hs h) (IntRow.below hf h)
  have HG : Aside (ActRow w d r g) := hg
  have HP : Hid (Places9 n (newU s f)) := fun k hk => anyBad_no hb hk
  have HBF : Hid (anyBad f n = false) := hb
  clear hs hf hg hb
  go_enter Try.func3, Try.ntmps3
  go_wp2_with fail
  refine Calls.mono (stk_awake _) ?_
  rintro e w1 ⟨rfl, b1⟩
  have HN1 : Aside _ := HN.out _ b1
  have HB1 : Aside _ := b1
  clear b1 HN
  go_wp2_with fail
  refine Calls.mono HN1.out ?_
  rintro e w2 ⟨p, G, rfl, s2, b2, gp, gG⟩
  have HB2 : Aside (Below w.heap.size w w2) := HB1.out.trans (b2.mono HB1.out.size)
  have HS2 : Aside _ := s2
  have HM2 : Aside _ := HM.out _ HB2.out
  have HGG : Hid (w.heap.size ≤ G) := Nat.le_trans HB1.out.size gG
  clear b2 s2 gp gG HN1 HM HB1
  go_wp2_with fail
  refine Calls.mono HM2.out ?_
  intro e w3 hm
  obtain ⟨aW, cW, he, hm2⟩ : ∃ aW cW, e = .returned (.tuple #[.slice aW n cW, .bool true]) ∧ ModAt w2 w3 (.slice aW n cW) n (newU s f) := by
    rcases hm with ⟨hx, -⟩ | ⟨-, x⟩
    · rw [HBF.out] at hx; cases hx
    · exact x
  subst he
  clear hm
  obtain ⟨H, hRef, hH⟩ := hm2.ref
  have HT : Aside (Sides w w3 p G H n aW (newU s f) (newU s f)) :=
    ⟨HB2.out.trans (hm2.below.mono HB2.out.size), HS2.out.below hm2.below, hRef, HGG.out, Nat.le_trans HB2.out.size hH, fun e => by have := HS2.out.lt; omega, fun h0 e => by have := (HS2.out.row h0).lt; omega⟩
  clear hm2 hRef hH HM2 HBF HS2 HB2 HGG
  go_wp2
  go_loopw [60] (fun i wr => ∃ k : Nat, k ≤ r ∧ i = .int .i64 k ∧ ∃ u, Aside (Sides w wr p G H n aW u u) ∧ Hid (Places9 n u)) (fun i _ => r - (intOf i).toNat)
  case atStart => exact ⟨0, Nat.zero_le _, rfl, _, HT.out, HP.out⟩
  case round =>
    clear HT HP
    obtain ⟨k, hk, rfl, u, HT, HP⟩ := hrel
    by_cases hlt : k < r
    · have hkr : (k : Int) < (r : Int) := by omega
      have hk0 : (0 : Int) ≤ (k : Int) := by omega
      obtain ⟨q, o, rfl, lq, cq⟩ := (HG.out : ActRow w d r g) (by omega)
      obtain ⟨x0, x1, x2⟩ := act_all ((cq k hlt).below HT.out.below lq)
      have HA1 : Aside (ArrAt (wr.alloc (.cells (g k).arr 33)) wr.heap.size 0 (g k).arr) := arr_new wr _ _
      have HT1 : Aside (Sides w (wr.alloc (.cells (g k).arr 33)) p G H n aW u u) := HT.out.more (upd_box _)
      clear cq
      have hTG : 0 < n → G < wr.heap.size ∧ H < wr.heap.size := fun h0 => ⟨(HT.out.stk.row h0).lt, (HT.out.ref.row h0).lt⟩
      have hTw : w.heap.size ≤ wr.heap.size := HT.out.below.size
      have HTG := Lib.hid hTG
      have HTW := Lib.hid hTw
      clear hTG hTw
      generalize g k = y at *
      obtain ⟨K, A, B⟩ := y
      dsimp only at x0 x1 x2
      unfold Sct.arr at HA1 HT1
      dsimp only at HA1 HT1
      go_upto_region 11 with (fail)
      show Code.wp _ _ _ _ (wr.alloc (.cells #[.int .u8 K, .int .i64 A, .int .i64 B] 33))
      clear x0 x1 x2 HT
      generalize wr.alloc (.cells #[.int .u8 K, .int .i64 A, .int .i64 B] 33) = w4 at *
      generalize wr.heap.size = T at *
      obtain ⟨y0, y1, y2⟩ := act_all (x := ⟨K, A, B⟩) HA1.out
      simp only [Nat.zero_add] at y1 y2
      by_cases h3 : 3 < K
      · have HPK : Aside (Calls Try.prog 10 #[.pointer (some ⟨p, 0, none⟩), .int .i64 A] w4 fun e w' => ∃ (N E : Int) (v : Nat → Itm), e = .returned (.tuple #[.int .i64 N, .int .i64 E]) ∧ PickIs n u A N E v ∧ Sides w w' p G H n aW v u ∧ ArrAt w' T 0 #[.int .u8 K, .int .i64 A, .int .i64 B]) := by
          rcases least_any (pickB u A) n with ⟨t, ht, hp, hl⟩ | hno
          · refine (stk_pick_found HT1.out.stk A ht hp hl).mono ?_
            rintro e w' ⟨rfl, hs, hu⟩
            exact ⟨t, 0, _, rfl, .inl ⟨t, ht, hp, hl, rfl, rfl, rfl⟩, HT1.out.stkTo hs hu, HA1.out.upd hu (fun e => by have := (HTG.out (by omega)).1; omega)⟩
          · refine (stk_pick_none HT1.out.stk A hno).mono ?_
            rintro e w' ⟨rfl, hb⟩
            exact ⟨0, 14, u, rfl, .inr ⟨hno, rfl, rfl, rfl⟩, HT1.out.more hb, HA1.out.grown hb⟩
        go_wp2_with fail
        refine Calls.mono HPK.out ?_
        rintro e w5 ⟨N, E, v, rfl, hpi, hs5, ha5⟩
        have HPI : Hid (PickIs n u A N E v) := hpi
        have HS5 : Aside _ := hs5
        have HA5 : Aside _ := ha5
        clear hpi hs5 ha5 HPK HA1 HT1 y0 y1 y2
        go_wp2
        go_loopw [15, 16] (fun vw vi wx => ∃ (m : Nat) (W : Int), m ≤ n ∧ vi = .int .i64 ((m : Int) - 1) ∧ vw = .int .i64 W ∧ Hid (LeastFrom (pickB u A) m n W) ∧ Aside (Below w5.heap.size w5 wx)) (fun _ vi _ => (intOf vi + 1).toNat)
        case atStart => exact ⟨n, -1, Nat.le_refl _, by go_num, rfl, .inr ⟨rfl, fun j h1 h2 => by omega⟩, Below.refl _ _⟩
        case round =>
          obtain ⟨m, W, hm, rfl, rfl, HL, HB⟩ := hrel
          by_cases hm0 : 0 < m
          · obtain ⟨m, rfl⟩ : ∃ t, m = t + 1 := ⟨m - 1, by omega⟩
            have hmn : m < n := by omega
            have hn0 : 0 < n := by omega
            have hmn' : (m : Int) < (n : Int) := by omega
            have hm0' : (0 : Int) ≤ (m : Int) := by omega
            obtain rfl := HS5.out.ref.at_ hn0
            have em : (((m + 1 : Nat) : Int) - 1) = (m : Int) := by omega
            rw [em]
            clear em
            obtain ⟨r0, r1, -, -⟩ := (HS5.out.more HB.out).ref.reads hmn
            have z1 := (act_all (x := ⟨K, A, B⟩) (HA5.out.grown HB.out)).2.1
            simp only [Nat.zero_add] at z1
            have HY : Hid (pickB u A m = true → LeastFrom (pickB u A) m n m) := fun e => leastFrom_yes hmn e
            have HO : Hid (pickB u A m = false → LeastFrom (pickB u A) m n W) := fun e => leastFrom_no e HL.out
            have HD : Aside (∀ q, Below w5.heap.size w5 (wr.drewN q)) := fun q => below_drawn HB.out q
            unfold pickB at HY HO
            by_cases e1 : (u m).place = 3
            · by_cases e2 : (u m).sku = A
              · have HLF := Lib.hid (HY.out (by simp [e1, e2]))
                rw [e1] at r0
                rw [e2] at r1
                clear HY HO HL HB
                go_wp2_with fail
                go_quiet (fail)
                go_wp2
                go_roundw
                case rel => exact ⟨m, m, by omega, by go_num, rfl, HLF.out, HD.out _⟩
                case measure => simp [intOf]
              · have HLF := Lib.hid (HO.out (by simp [e2]))
                rw [e1] at r0
                clear HY HO HL HB
                generalize (u m).sku = sk at *
                have e2' : (sk == A) = false := by simpa using e2
                go_wp2_with fail
                go_quiet (fail)
                go_wp2
                go_roundw
                case rel => exact ⟨m, W, by omega, by go_num, rfl, HLF.out, HD.out _⟩
                case measure => simp [intOf]
            · have HLF := Lib.hid (HO.out (by simp [e1]))
              clear HY HO HL HB
              generalize (u m).place = pl at *
              have e1' : (pl == 3) = false := by simpa using e1
              go_wp2_with fail
              go_quiet (fail)
              go_wp2
              go_roundw
              case rel => exact ⟨m, W, by omega, by go_num, rfl, HLF.out, HD.out _⟩
              case measure => simp [intOf]
          · obtain rfl : m = 0 := by omega
            have HS7 : Aside _ := HS5.out.more HB.out
            rcases HPI.out with ⟨t, ht, hp, hl, rfl, rfl, rfl⟩ | ⟨hno, rfl, rfl, rfl⟩
            · obtain rfl : W = t := least_same (leastFrom_all HL.out) ht hp hl
              have hn0 : 0 < n := by omega
              obtain rfl := HS5.out.ref.at_ hn0
              have ht0 : (0 : Int) ≤ (t : Int) := by omega
              have htn : (t : Int) < (n : Int) := by omega
              obtain ⟨c0, -, -, -⟩ := HS7.out.ref.reads ht
              have g0 := (HS7.out.ref.row hn0).fz (t * 4)
              have HZ : Aside (Sides w (wr.setCell ⟨H, t * 4, none⟩ (.int .i64 7)) p G H n (some ⟨H, 0, none⟩) (putAt u t ((u t).moved 7)) (putAt u t ((u t).moved 7))) := by
                have hr := HS7.out.ref.placeTo ht 7
                rw [← moved_seven (pickB_place hp)] at hr
                exact HS7.out.refTo hr.1 hr.2
              have HP9 : Hid (Places9 n (putAt u t ((u t).moved 7))) := places_put HP.out t (by rw [moved_seven (pickB_place hp)]; exact ⟨by show (0 : Int) ≤ 7; decide, by show (7 : Int) ≤ 8; decide⟩)
              clear HL HPI HS5 HS7 HB HP HA5 hp hl
              go_wp2
              go_roundw
              case rel => exact ⟨k + 1, by omega, by go_num, _, HZ.out, HP9.out⟩
              case measure => simp [intOf]; omega
            · obtain rfl : W = -1 := least_no (leastFrom_all HL.out) hno
              clear HL HPI HS5 HB HA5 hno
              go_wp2
              go_roundw
              case rel => exact ⟨k + 1, by omega, by go_num, _, HS7.out, HP.out⟩
              case measure => simp [intOf]; omega
      · by_cases hA : 0 ≤ A ∧ A < n
        · obtain ⟨j, rfl⟩ := Int.eq_ofNat_of_zero_le hA.1
          have hj : j < n := by omega
          have hn0 : 0 < n := by omega
          obtain rfl := HT1.out.ref.at_ hn0
          have HMV : Aside _ := stk_move HT1.out.stk hj B
          go_wp2_with fail
          refine Calls.mono HMV.out ?_
          rintro e w5 ⟨rfl, s5, u5⟩
          have HT5 : Aside _ := HT1.out.stkTo s5 u5
          have HA5 : Aside (ArrAt w5 T 0 #[.int .u8 K, .int .i64 j, .int .i64 B]) := HA1.out.upd u5 (fun e => by have := (HTG.out hn0).1; omega)
          obtain ⟨r0, r1, r2, r3⟩ := HT5.out.ref.reads hj
          have HMD : Aside (∀ W, Upd (fun _ => False) w5 W → Calls Try.prog 12 #[.agg (u j).rarr, .int .i64 B] W fun e W' => e = .returned (.tuple #[.agg (moveU u j B j).rarr, .bool (mayB (u j).place B)]) ∧ Upd (fun _ => False) w5 W' ∧ Below W.heap.size W W') := fun W h => by
            refine (stk_moved u j B W).mono ?_
            rintro e W' ⟨he, hb⟩
            exact ⟨he, h.trans (Upd.below hb) (fun _ _ x => x), hb⟩
          have HE : Hid (moveE u j B = if mayB (u j).place B then 0 else 8) := rfl
          obtain ⟨X, hX⟩ : ∃ X, X = moveU u j B j := ⟨_, rfl⟩
          obtain ⟨Q, hQ⟩ : ∃ Q, Q = mayB (u j).place B := ⟨_, rfl⟩
          have HX := Lib.hid hX
          have HQ := Lib.hid hQ
          rw [← hX, ← hQ] at HMD
          rw [← hQ] at HE
          clear hX hQ s5 u5 HA1 HT1 y0 y1 y2 HMV
          obtain ⟨X0, X1, X2, X3⟩ := X
          obtain ⟨z0, z1, z2⟩ := act_all (x := ⟨K, j, B⟩) HA5.out
          simp only [Nat.zero_add] at z1 z2
          have hl5 : T < w5.heap.size := HA5.out.lt
          have hlH : H < w5.heap.size := (HT5.out.ref.row hn0).lt
          have hFT : ¬ (fun _ : Nat => False) T := id
          have hFH : ¬ (fun _ : Nat => False) H := id
          have v0 := Upd.refl (fun _ => False) w5
          unfold Itm.rarr at HMD
          have HP0 : Hid (Places9 n u) := HP.out
          clear HP
          have HP := HP0
          clear HP0
          generalize (u j).place = pl at *
          generalize (u j).sku = sku at *
          generalize (u j).rcv = rc at *
          generalize (u j).grd = gr at *
          dsimp only at HMD
          go_upto_region 27 with (fail)
          go_cut [18, 19] (fun s18 s19 wx => ∃ T9, s18 = .pointer (some ⟨T9, 0, none⟩) ∧ s19 = .bool Q ∧ Aside (Below w5.heap.size w5 wx) ∧ Aside (ArrAt wx T9 0 (Itm.rarr ⟨X0, X1, X2, X3⟩)))
          case first =>
            clear HG HP HTG HTW HT5 HA5 HE HX HQ
            go_region_held3 (fun w' => Upd (fun _ => False) w5 w' ∧ w'.cell? ⟨T, 1, none⟩ = some (.int .i64 (j : Int)) ∧ w'.cell? ⟨T, 2, none⟩ = some (.int .i64 B) ∧ w'.cell? ⟨H, j * 4, none⟩ = some (.int .i64 pl) ∧ w'.cell? ⟨H, j * 4 + 1, none⟩ = some (.int .i64 sku) ∧ w'.cell? ⟨H, j * 4 + 2, none⟩ = some (.bool rc) ∧ w'.cell? ⟨H, j * 4 + 3, none⟩ = some (.bool gr))
              (refine ⟨?_, (Upd.cell (S := (fun _ => False)) (w := w5) (p := ⟨T, 1, none⟩) ?_ hl5 hFT).trans z1, (Upd.cell (S := (fun _ => False)) (w := w5) (p := ⟨T, 2, none⟩) ?_ hl5 hFT).trans z2, (Upd.cell (S := (fun _ => False)) (w := w5) (p := ⟨H, j * 4, none⟩) ?_ hlH hFH).trans r0, (Upd.cell (S := (fun _ => False)) (w := w5) (p := ⟨H, j * 4 + 1, none⟩) ?_ hlH hFH).trans r1, (Upd.cell (S := (fun _ => False)) (w := w5) (p := ⟨H, j * 4 + 2, none⟩) ?_ hlH hFH).trans r2, (Upd.cell (S := (fun _ => False)) (w := w5) (p := ⟨H, j * 4 + 3, none⟩) ?_ hlH hFH).trans r3⟩ <;> (with_reducible (repeat (first | assumption | refine Upd.drew ?_ | refine Upd.alloc ?_ _ | refine Upd.setCell ?_ (.inr (Nat.le_refl _)) _))))
              ((go_at_call 12; with_reducible refine Calls.mono (HMD.out _ ?_) ?_; (with_reducible (repeat (first | assumption | refine Upd.drew ?_ | refine Upd.alloc ?_ _))); rintro e w9 ⟨rfl, u9, b9⟩; first | (have hbx := box_first b9; obtain ⟨m0, m1, m2, m3, l0, l1, l2, l3⟩ := hbx) | skip))
            all_goals
              go_wp2_with fail
              go_meet
              first
                | (have hx := box_alloc u9 (Itm.rarr ⟨X0, X1, X2, X3⟩) 37; exact ⟨_, rfl, rfl, hx.1, hx.2⟩)
                | (have hx := box_stored u9 (Nat.le_refl _) m0 m1 m2 m3 (.int .i64 X1) (.int .i64 X0) (.bool X2) (.bool X3); exact ⟨_, rfl, rfl, hx.1, hx.2⟩)
          case rest =>
            obtain ⟨T9, rfl, rfl, HB9, HX9⟩ := hcut
            have HT9 : Aside _ := HT5.out.more HB9.out
            have hz1 : wc.cell? ⟨T, 1, none⟩ = some (.int .i64 (j : Int)) := (HB9.out.cell (p := ⟨T, 1, none⟩) hl5).trans z1
            obtain ⟨c0, c1, c2, c3⟩ := HT9.out.ref.reads hj
            have hfz := (HT9.out.ref.row hn0).fz
            have g0 := hfz (j * 4)
            have g1 := hfz (j * 4 + 1)
            have g2 := hfz (j * 4 + 2)
            have g3 := hfz (j * 4 + 3)
            have q0 : wc.cell? ⟨T9, 0, none⟩ = some (.int .i64 X1) := HX9.out.cells 0 _ rfl
            have q1 : wc.cell? ⟨T9, 1, none⟩ = some (.int .i64 X0) := HX9.out.cells 1 _ rfl
            have q2 : wc.cell? ⟨T9, 2, none⟩ = some (.bool X2) := HX9.out.cells 2 _ rfl
            have q3 : wc.cell? ⟨T9, 3, none⟩ = some (.bool X3) := HX9.out.cells 3 _ rfl
            have HZ : Aside (Sides w (wc.setCells H (j * 4) [.int .i64 X1, .int .i64 X0, .bool X2, .bool X3]) p G H n (some ⟨H, 0, none⟩) (moveU u j B) (moveU u j B)) := by
              have hr := HT9.out.ref.unitTo hj ⟨X0, X1, X2, X3⟩
              have := HT9.out.refTo hr.1 hr.2
              rw [HX.out, putAt_moveU, ← HX.out] at this
              exact this
            have HP9 : Hid (Places9 n (moveU u j B)) := places_move HP.out j B
            have he := HE.out
            clear z0 z1 z2 r0 r1 r2 r3 hfz v0 HMD HT5 HA5 HT9 HX9 HB9 HX HQ HE HP
            generalize moveE u j B = E at *
            cases Q with
            | true =>
              obtain rfl : E = 0 := he
              go_wp2
              go_roundw
              case rel => exact ⟨k + 1, by omega, by go_num, _, HZ.out, HP9.out⟩
              case measure => simp [intOf]; omega
            | false =>
              obtain rfl : E = 8 := he
              go_wp2
              go_roundw
              case rel => exact ⟨k + 1, by omega, by go_num, _, HZ.out, HP9.out⟩
              case measure => simp [intOf]; omega
        · have HMV : Aside _ := stk_move_out HT1.out.stk hA B
          go_wp2_with fail
          refine Calls.mono HMV.out ?_
          rintro e w5 ⟨rfl, rfl⟩
          clear HMV
          by_cases hA0 : A < 0
          · go_wp2
            go_roundw
            case rel => exact ⟨k + 1, by omega, by go_num, u, HT1.out, HP.out⟩
            case measure => simp [intOf]; omega
          · have hA1 : (n : Int) ≤ A := by omega
            go_wp2
            go_roundw
            case rel => exact ⟨k + 1, by omega, by go_num, u, HT1.out, HP.out⟩
            case measure => simp [intOf]; omega
    · obtain rfl : k = r := by omega
      have HSM : Aside _ := stk_same (c := cW) HT.out.stk HT.out.ref HP.out
      have HBw := Lib.hid HT.out.below
      clear HT
      go_wp2_with fail
      refine Calls.mono HSM.out ?_
      rintro e w6 ⟨rfl, b6⟩
      have HB6 : Aside _ := HBw.out.trans (b6.mono HBw.out.size)
      clear b6
      go_wp2
      go_ret
      exact ⟨rfl, HB6.out⟩

theorem stockPlays_law (a b d : Option Addr) (n m r ca cb cd : Nat) (s f : Nat → Int) (g : Nat → Sct) (w : World) (hs : IntRow w a n s) (hf : IntRow w b m f) (hg : ActRow w d r g) :
    Calls Try.prog 3 #[.slice a n ca, .slice b m cb, .slice d r cd] w fun e w' => e = .returned (.bool true) ∧ Below w.heap.size w w' := by
  by_cases h1 : 300 < n
  · exact stockPlays_many a b d n m r ca cb cd w h1
  by_cases h2 : 300 < m
  · exact stockPlays_more a b d n m r ca cb cd w (by omega) h2
  by_cases h3 : 100 < r
  · exact stockPlays_long a b d n m r ca cb cd w (by omega) (by omega) h3
  by_cases h4 : n = m
  · subst h4
    by_cases h5 : 200 < n
    · refine stockPlays_none a b d n n r ca cb cd w (by omega) (by omega) (by omega) (fun W h => (stk_new_many a b n ca cb W h5).mono ?_) (fun W h => (stk_model_many a b n ca cb W h5).mono ?_)
      · rintro e w' ⟨rfl, rfl⟩; exact ⟨rfl, Below.refl _ _⟩
      · rintro e w' ⟨rfl, rfl⟩; exact ⟨rfl, Below.refl _ _⟩
    cases hb : anyBad f n
    · exact stockPlays_ok a b d n r ca cb cd s f g w (by omega) (by omega) hs hf hg hb
    · refine stockPlays_none a b d n n r ca cb cd w (by omega) (by omega) (by omega) (fun W h => stk_new_place a b n ca cb f W (by omega) (IntRow.below hf h) hb) (fun W h => (stk_model a b n ca cb s f W (by omega) (IntRow.below hs h) (IntRow.below hf h)).mono ?_)
      rintro e w' (⟨-, h1, h2⟩ | ⟨h1, -⟩)
      · exact ⟨h1, h2⟩
      · rw [hb] at h1; cases h1
  · refine stockPlays_none a b d n m r ca cb cd w (by omega) (by omega) (by omega) (fun W h => (stk_new_len a b n m ca cb W h4).mono ?_) (fun W h => (stk_model_len a b n m ca cb W h4).mono ?_)
    · rintro e w' ⟨rfl, rfl⟩; exact ⟨rfl, Below.refl _ _⟩
    · rintro e w' ⟨rfl, rfl⟩; exact ⟨rfl, Below.refl _ _⟩

theorem stockPlays_contract (W : World) (args : Array Value) (h : Each Try.prog W Try.f3.params.toList args.toList) :
    Calls Try.prog 3 args W fun e W' => e = .returned (.bool true) ∧ Below W.heap.size W W' := by
  rw [Try.params3] at h
  obtain ⟨v0, r0, e0, ⟨_, o0⟩, d0, h⟩ := h.cons
  obtain ⟨v1, r1, rfl, ⟨_, o1⟩, d1, h⟩ := h.cons
  obtain ⟨v2, r2, rfl, ⟨_, o2⟩, d2, h⟩ := h.cons
  obtain rfl := h.nil
  obtain ⟨args⟩ := args
  obtain rfl : args = [v0, v1, v2] := e0
  obtain ⟨sa0, sn0, sc0, rfl, hsc0⟩ := val_slice o0 Try.underlying22
  rw [hsc0] at d0
  obtain ⟨a0', c0', xs0, e0, hl0, hm0, hx0⟩ := d0.ints Try.underlying22 Try.underlying3 (by kernel_rfl)
  injection e0 with e0 _
  injection e0 with e10 e20 e30
  subst e10 e20 e30
  have hi0 := IsInts.row hx0
  obtain ⟨sa1, sn1, sc1, rfl, hsc1⟩ := val_slice o1 Try.underlying22
  rw [hsc1] at d1
  obtain ⟨a1', c1', xs1, e1, hl1, hm1, hx1⟩ := d1.ints Try.underlying22 Try.underlying3 (by kernel_rfl)
  injection e1 with e1 _
  injection e1 with e11 e21 e31
  subst e11 e21 e31
  have hi1 := IsInts.row hx1
  obtain ⟨sa2, sn2, sc2, rfl, hsc2⟩ := val_slice o2 Try.underlying23
  rw [hsc2] at d2
  obtain ⟨g2, hg2⟩ := acts_of d2
  exact stockPlays_law _ _ _ _ _ _ _ _ _ _ _ g2 W hi0 hi1 hg2

theorem stockPlays_lifted (os : Os) (started : os.Started) (H : Type) (enc : TypeId × Value → H) :
    ReturnsInHanded {} Try.checked os 3 .any (Rows.stockPlaysSpec.pre6 enc Try.prog Try.f3 Rows.stockPlaysRow.domain false) (Rows.stockPlaysSpec.post enc Try.prog Try.f3 false true false false) :=
  law_lifted (C := Try.checked) seat_own seat_laid (by kernel_rfl) Try.func3 rfl (tb := 4) rfl Try.underlying4
    (by
      rw [Try.params3]; intro t ht; simp at ht
      rcases ht with rfl | rfl | rfl <;> exact ⟨by kernel_rfl, of_decide_eq_true (by kernel_rfl)⟩)
    (fun H ds hl => by
      rw [Try.params3] at hl
      match ds, hl with
      | [d1, d2, d3], _ => rfl)
    os started H enc
    (ChangeSpec.witness6 (enc := enc) (C := Try.checked) false ⟨#[], #[.slice none 0 0, .slice none 0 0, .slice none 0 0], []⟩ 8 (by kernel_rfl) (by kernel_rfl) (by kernel_rfl) (by kernel_rfl))
    stockPlays_contract

theorem stockPlays_holds : Rows.StockPlaysSaid :=
  OpenClaim.holds_of_wide 3 Try.f3 rfl rfl rfl rfl rfl rfl rfl ⟨rfl, rfl, rfl, rfl, rfl⟩ rfl rfl rfl rfl rfl (by kernel_rfl) Try.func3 (by kernel_rfl)
    (of_decide_eq_true (by kernel_rfl)) (by unfold Func.isWrapper; first | (rw [if_pos (by decide +kernel)]; kernel_rfl) | (rw [if_neg (by decide +kernel)]; exact ⟨rfl, rfl⟩))
    (fun os started H enc _ => stockPlays_lifted os started H enc)
#print axioms stockPlays_holds
end Go.Proofs.Ytakdodcdgmbhaaa
