/-
  Package order: shares. Conditions: those of each theorem. Package order: unitsOf. Conditions: those of each theorem.
-/
import Derived.Test.YtbiompjhenkieaaGreatUnitX
import Derived.Test.YtbiompjhenkieaaGreatSplitX
import Derived.Deep.RegionHeld3
import Derived.Test.YtbiompjhenkieaaGreatBase
namespace Go.Proofs.YtbiompjhenkieaaGreat
open Go.RowKit
set_option maxRecDepth 100000

theorem shares_row {s : Int} {ws : List Int} {w : World} {e : Ending} {w' : World} (h : SharesEnd s ws w e w') (h0 : errS s ws = 0) {m : Nat} (hm : ws.length = m) :
    ∃ S : Nat, e = .returned (.tuple #[.slice (some ⟨S, 0, none⟩) m m, .int .i64 0]) ∧ S < w'.heap.size ∧ Below w.heap.size w w' ∧ ∀ t, t < m → w'.cell? ⟨S, t, none⟩ = some (.int .i64 (wt (sharesOf s ws) t)) := by
  subst hm
  obtain ⟨hb, ⟨h1, _⟩ | ⟨_, S, h2, _, h4, h5⟩⟩ := h
  · exact absurd h0 h1
  · exact ⟨S, h2, h4, hb, h5⟩
theorem four_new (W : World) (a b c d : Int) (t : TypeId) : IsInts (W.alloc (.cells #[.int .i64 a, .int .i64 b, .int .i64 c, .int .i64 d] t)) (some ⟨W.heap.size, 0, none⟩) [a, b, c, d] := by
  refine .inr ⟨W.heap.size, 0, rfl, by simp, fun i hi => ?_⟩
  have h := (arr_new W #[.int .i64 a, .int .i64 b, .int .i64 c, .int .i64 d] t).cells
  match i, hi with
  | 0, _ => exact h 0 _ rfl
  | 1, _ => exact h 1 _ rfl
  | 2, _ => exact h 2 _ rfl
  | 3, _ => exact h 3 _ rfl
theorem IsInts.drew' {w : World} {a : Option Addr} {xs : List Int} (h : IsInts w a xs) : IsInts w.drew a xs := h
theorem four_sum {p l t s : Int} (hp : 0 ≤ p ∧ p ≤ 1073741824) (hl : 0 ≤ l ∧ l ≤ 1073741824) (ht : 0 ≤ t ∧ t ≤ 1073741824) (hs : 0 ≤ s ∧ s ≤ 1073741824) : sumOf 0 [p, -l, t, s] = some (p + (t + s - l)) := by
  have r1 : Rt p = true := rt_iff.2 (by omega)
  have r2 : Rt (0 + p) = true := rt_iff.2 (by omega)
  have r3 : Rt (-l) = true := rt_iff.2 (by omega)
  have r4 : Rt (0 + p + -l) = true := rt_iff.2 (by omega)
  have r5 : Rt t = true := rt_iff.2 (by omega)
  have r6 : Rt (0 + p + -l + t) = true := rt_iff.2 (by omega)
  have r7 : Rt s = true := rt_iff.2 (by omega)
  have r8 : Rt (0 + p + -l + t + s) = true := rt_iff.2 (by omega)
  simp only [sumOf, r1, r2, r3, r4, r5, r6, r7, r8, Bool.and_self, if_true]
  congr 1
  omega

theorem le_sumTo {f : Nat → Int} : ∀ {n : Nat}, (∀ t, t < n → 0 ≤ f t) → ∀ i, i < n → f i ≤ sumTo f n
  | 0, _, i, hi => absurd hi (Nat.not_lt_zero _)
  | n + 1, h, i, hi => by
    rw [sumTo]
    have hn := h n (by omega)
    by_cases e : i = n
    · subst e
      have := sumTo_nonneg (f := f) i (fun t ht => h t (by omega))
      omega
    · have := le_sumTo (n := n) (fun t ht => h t (by omega)) i (by omega)
      omega
theorem share_most {s : Int} {ws zs : List Int} (h : Told6 s ws zs) {i : Nat} (hi : i < ws.length) : 0 ≤ wt zs i ∧ wt zs i ≤ s := by
  have h1 := le_sumTo (f := wt zs) (n := ws.length) (fun t ht => (h.bounds t ht).1) i hi
  rw [h.sum] at h1
  exact ⟨(h.bounds i hi).1, h1⟩

/-- A row of sums of the call's own. -/
structure RowI (w : World) (S n : Nat) (f : Nat → Int) (W : World) : Prop where
  below : Below w.heap.size w W
  new : w.heap.size ≤ S
  lt : S < W.heap.size
  cs : ∀ t, t < n → W.cell? ⟨S, t, none⟩ = some (.int .i64 (f t))
  fs : ∀ t, t < n → W.frozen? ⟨S, t, none⟩ = false
theorem RowI.after {w W W' : World} {S n : Nat} {f : Nat → Int} (h : RowI w S n f W) (hb : Below W.heap.size W W') : RowI w S n f W' :=
  ⟨h.below.trans (hb.mono h.below.size), h.new, Nat.lt_of_lt_of_le h.lt hb.size, fun t ht => (hb.cell (p := ⟨S, t, none⟩) h.lt).trans (h.cs t ht), fun t ht => (hb.frozen (p := ⟨S, t, none⟩) h.lt).trans (h.fs t ht)⟩
theorem RowI.congr {w W : World} {S n : Nat} {f g : Nat → Int} (h : RowI w S n f W) (hf : ∀ t, t < n → f t = g t) : RowI w S n g W := ⟨h.below, h.new, h.lt, fun t ht => by rw [← hf t ht]; exact h.cs t ht, h.fs⟩
theorem RowI.set {w W : World} {S n : Nat} {f : Nat → Int} (h : RowI w S n f W) (k : Nat) (hk : k < n) (x : Int) : RowI w S n (upd f k x) (W.setCell ⟨S, k, none⟩ (.int .i64 x)) :=
  ⟨h.below.setCell h.new _, h.new, by simpa using h.lt,
    fun t ht => by
      unfold upd
      by_cases e : t = k
      · subst e; rw [if_pos rfl]; exact World.cell?_setCell_same _ _ _ (h.cs t ht)
      · rw [if_neg e, World.cell?_setCell_other _ _ _ _ (by intro e'; simp only [Addr.mk.injEq] at e'; omega)]; exact h.cs t ht,
    fun t ht => by rw [World.frozen?_setCell]; exact h.fs t ht⟩
theorem RowI.made (w : World) (n : Nat) (t : TypeId) : RowI w w.heap.size n (fun _ => 0) (w.alloc (.cells (Array.replicate n (.int .i64 0)) t)) :=
  ⟨(Below.refl _ _).alloc (Nat.le_refl _) _, Nat.le_refl _, by simp, fun t ht => by simp [ht], fun t ht => by simp⟩
theorem upd_upto {f : Nat → Int} {k : Nat} {x : Int} (hx : x = f k) (t : Nat) : upd (upto f k) k x t = upto f (k + 1) t := by
  unfold upd upto
  by_cases e : t = k
  · subst e; rw [if_pos rfl, if_pos (by omega)]; exact hx
  · rw [if_neg e]
    by_cases e2 : t < k
    · rw [if_pos e2, if_pos (by omega)]
    · rw [if_neg e2, if_neg (by omega)]
/-- What was paid for unit k. -/
def paidAt (x : Ord) (k : Nat) : Int := wt (prices x.lines) k + delta x k
theorem upd_set1 {g : Nat} {w w' : World} (h : Upd (fun k => k = g) w w') {o : Nat} {u : Value} : Upd (fun k => k = g) w (w'.setCell ⟨g, o, none⟩ u) := h.setCell (.inl rfl) u

set_option maxHeartbeats 4000000 in
theorem ord_shares (x : Ord) (a : Option Addr) (n c : Nat) (w : World) (hl : x.lines.length = n) (hn : n ≤ 8) (hp : LnsAt w a x.lines) (hk : ∀ l ∈ x.lines, 1 ≤ l.count ∧ l.count ≤ 50) (hpr : ∀ p ∈ prices x.lines, 0 ≤ p ∧ p ≤ 1073741824) (hx : OrdOk x) :
    Calls Tryz.prog 52 #[.agg (ordCells x.day a n c x.disc x.tax x.ship)] w fun e w' => ∃ S m : Nat, e = .returned (.slice (some ⟨S, 0, none⟩) m m) ∧ (prices x.lines).length = m ∧ 1 ≤ m ∧ m ≤ 200 ∧ RowI w S m (paidAt x) w' := by
  have HX := Lib.hid hx
  have HPR : Hid (∀ p ∈ prices x.lines, 0 ≤ p ∧ p ≤ 1073741824) := hpr
  have HQ : Aside (∀ W, Below w.heap.size w W → Calls Tryz.prog 73 #[.agg (ordCells x.day a n c x.disc x.tax x.ship)] W fun e w' => (∃ a' m c', e = .returned (.slice a' m c') ∧ (prices x.lines).length = m ∧ m ≤ c' ∧ c' ≤ maxLen ∧ IsInts w' a' (prices x.lines)) ∧ Below W.heap.size W w') := fun W h => ord_prices x.day x.disc x.tax x.ship a x.lines n c W hl hn (LnsAt.below hp h) hk
  have hfew := rightW_few hx.right
  have hmx : (prices x.lines).sum ≤ 1125899906842624 := by rw [hx.sum]; have := hx.most; omega
  have hd := hx.disc
  have htx := hx.tax
  have hsh := hx.ship
  have HE1 := Lib.hid (errS_none hx.right (okW_of hd.1 hd.2.1) hmx)
  have HE2 := Lib.hid (errS_none hx.right (okW_of htx.1 htx.2) hmx)
  have HE3 := Lib.hid (errS_none hx.right (okW_of hsh.1 hsh.2) hmx)
  have HT1 := Lib.hid (told6 hx.right (okW_of hd.1 hd.2.1) hmx)
  have HT2 := Lib.hid (told6 hx.right (okW_of htx.1 htx.2) hmx)
  have HT3 := Lib.hid (told6 hx.right (okW_of hsh.1 hsh.2) hmx)
  have HFEW := Lib.hid hfew
  have HD := Lib.hid hd
  have HTX := Lib.hid htx
  have HSH := Lib.hid hsh
  have HB0 : Aside (Below w.heap.size w (w.alloc (.cells (ordCells x.day a n c x.disc x.tax x.ship) 45))) := (Below.refl _ _).alloc (Nat.le_refl _) _
  have HA0 : Aside _ := arr_new w (ordCells x.day a n c x.disc x.tax x.ship) 45
  clear hl hn hp hk hpr hx hfew hmx hd htx hsh
  go_enter Tryz.func52, Tryz.ntmps52
  go_upto_region 1 with (fail)
  show Code.wp _ _ _ _ (w.alloc (.cells (ordCells x.day a n c x.disc x.tax x.ship) 45))
  generalize w.alloc (.cells (ordCells x.day a n c x.disc x.tax x.ship) 45) = w0 at *
  obtain ⟨y0, y1, y2, y3, y4⟩ := ordAt_all HA0.out
  simp only [Nat.zero_add] at y1 y2 y3 y4
  have HQ0 : Aside _ := HQ.out w0 HB0.out
  go_wp2_with fail
  refine (Calls.mono HQ0.out ?_)
  rintro e w1 ⟨⟨a', m, c', rfl, hm1, hm2, hm3, hm4⟩, b1⟩
  have hm200 := HFEW.out
  rw [hm1] at hm200
  obtain ⟨hmlo, hmhi⟩ := hm200
  have HMI : Aside (IsInts w1 a' (prices x.lines)) := hm4
  have HML := Lib.hid hm1
  have HB1 : Aside (Below w.heap.size w w1) := HB0.out.trans (b1.mono HB0.out.size)
  have HA1 : Aside _ := HA0.out.grown b1
  clear HQ0 HQ y0 y1 y2 y3 y4 hm1 hm2 hm3 hm4 b1 HB0 HA0
  have hmx : m ≤ maxLen := by unfold maxLen; omega
  have HS1 : Aside _ := split_shares a' (prices x.lines) m c' x.disc w1 HML.out HMI.out hmx
  obtain ⟨y0, y1, y2, y3, y4⟩ := ordAt_all HA1.out
  simp only [Nat.zero_add] at y1 y2 y3 y4
  go_wp2_with fail
  refine (Calls.mono HS1.out ?_)
  intro e w2 hend
  obtain ⟨SL, rfl, hL1, b2, hL2⟩ := shares_row hend HE1.out HML.out
  have HL1 := Lib.hid hL1
  have HL2 : Aside (∀ t, t < m → w2.cell? ⟨SL, t, none⟩ = some (.int .i64 (wt (sharesOf x.disc (prices x.lines)) t))) := hL2
  have HB2 : Aside (Below w.heap.size w w2) := HB1.out.trans (b2.mono HB1.out.size)
  have HA2 : Aside _ := HA1.out.grown b2
  have HMI2 : Aside (IsInts w2 a' (prices x.lines)) := HMI.out.below b2
  have HS2 : Aside _ := split_shares a' (prices x.lines) m c' x.tax w2 HML.out HMI2.out hmx
  clear HS1 y0 y1 y2 y3 y4 b2 hend hL1 hL2 HB1 HA1 HMI
  obtain ⟨y0, y1, y2, y3, y4⟩ := ordAt_all HA2.out
  simp only [Nat.zero_add] at y1 y2 y3 y4
  go_wp2_with fail
  refine (Calls.mono HS2.out ?_)
  intro e w3 hend
  obtain ⟨ST, rfl, hT1, b3, hT2⟩ := shares_row hend HE2.out HML.out
  have HT1' := Lib.hid hT1
  have HT2' : Aside (∀ t, t < m → w3.cell? ⟨ST, t, none⟩ = some (.int .i64 (wt (sharesOf x.tax (prices x.lines)) t))) := hT2
  have HL3 : Aside (∀ t, t < m → w3.cell? ⟨SL, t, none⟩ = some (.int .i64 (wt (sharesOf x.disc (prices x.lines)) t))) := fun t ht => (b3.cell (p := ⟨SL, t, none⟩) HL1.out).trans (HL2.out t ht)
  have HL31 : Hid (SL < w3.heap.size) := Nat.lt_of_lt_of_le HL1.out b3.size
  have HB3 : Aside (Below w.heap.size w w3) := HB2.out.trans (b3.mono HB2.out.size)
  have HA3 : Aside _ := HA2.out.grown b3
  have HMI3 : Aside (IsInts w3 a' (prices x.lines)) := HMI2.out.below b3
  have HS3 : Aside _ := split_shares a' (prices x.lines) m c' x.ship w3 HML.out HMI3.out hmx
  clear HS2 y0 y1 y2 y3 y4 b3 hend hT1 hT2 HB2 HA2 HMI2 HL2 HL1
  obtain ⟨y0, y1, y2, y3, y4⟩ := ordAt_all HA3.out
  simp only [Nat.zero_add] at y1 y2 y3 y4
  go_wp2_with fail
  refine (Calls.mono HS3.out ?_)
  intro e w4 hend
  obtain ⟨SH, rfl, hH1, b4, hH2⟩ := shares_row hend HE3.out HML.out
  have HH1 := Lib.hid hH1
  have HH2 : Aside (∀ t, t < m → w4.cell? ⟨SH, t, none⟩ = some (.int .i64 (wt (sharesOf x.ship (prices x.lines)) t))) := hH2
  have HT4 : Aside (∀ t, t < m → w4.cell? ⟨ST, t, none⟩ = some (.int .i64 (wt (sharesOf x.tax (prices x.lines)) t))) := fun t ht => (b4.cell (p := ⟨ST, t, none⟩) HT1'.out).trans (HT2'.out t ht)
  have HT41 : Hid (ST < w4.heap.size) := Nat.lt_of_lt_of_le HT1'.out b4.size
  have HL4 : Aside (∀ t, t < m → w4.cell? ⟨SL, t, none⟩ = some (.int .i64 (wt (sharesOf x.disc (prices x.lines)) t))) := fun t ht => (b4.cell (p := ⟨SL, t, none⟩) HL31.out).trans (HL3.out t ht)
  have HL41 : Hid (SL < w4.heap.size) := Nat.lt_of_lt_of_le HL31.out b4.size
  have HB4 : Aside (Below w.heap.size w w4) := HB3.out.trans (b4.mono HB3.out.size)
  have HMI4 : Aside (IsInts w4 a' (prices x.lines)) := HMI3.out.below b4
  clear HS3 y0 y1 y2 y3 y4 b4 hend hH1 hH2 HB3 HA3 HMI3 HL3 HL31 HT1' HT2'
  have hmk := fun W => make_run 97 2 Tryz.underlying97 (by kernel_rfl) m (by omega) W
  have HR0 : Aside (RowI w4 w4.heap.size m (upto (paidAt x) 0) (w4.alloc (.cells (Array.replicate m (.int .i64 0)) 2))) := (RowI.made w4 m _).congr (fun t _ => by unfold upto; rw [if_neg (Nat.not_lt_zero _)])
  go_upto_region 6 with (fail)
  clear hmk
  show Code.wp _ _ _ _ (w4.alloc (.cells (Array.replicate m (.int .i64 0)) 2))
  generalize w4.alloc (.cells (Array.replicate m (.int .i64 0)) 2) = w5 at *
  obtain ⟨SP, hSP⟩ : ∃ q, q = w4.heap.size := ⟨_, rfl⟩
  rw [← hSP] at HR0 ⊢
  have HSP := Lib.hid hSP
  clear hSP
  go_wp2
  go_loopw [41] (fun i wr => ∃ k : Nat, k ≤ m ∧ i = .int .i64 k ∧ Aside (RowI w4 SP m (upto (paidAt x) k) wr)) (fun i _ => m - (intOf i).toNat)
  case atStart => exact ⟨0, Nat.zero_le _, rfl, HR0.out⟩
  case round =>
    clear HR0
    obtain ⟨k, hk, rfl, HR⟩ := hrel
    by_cases hlt : k < m
    · have hkn : (k : Int) < (m : Int) := by omega
      have hk0 : (0 : Int) ≤ (k : Int) := by omega
      rcases HMI4.out with hnil | ⟨b, off, rfl, hb, hc⟩
      · have := HML.out; rw [hnil] at this; simp at this; omega
      have hkl : k < (prices x.lines).length := by rw [HML.out]; exact hlt
      have hbel := HR.out.below
      have cp : wr.cell? ⟨b, off + k, none⟩ = some (.int .i64 (wt (prices x.lines) k)) := by
        rw [hbel.cell (p := ⟨b, off + k, none⟩) hb, hc k hkl]
        unfold wt
        simp [List.getD, hkl]
      have hLlt := HL41.out
      have hTlt := HT41.out
      have hHlt := HH1.out
      have cl : wr.cell? ⟨SL, k, none⟩ = some (.int .i64 (wt (sharesOf x.disc (prices x.lines)) k)) := (hbel.cell (p := ⟨SL, k, none⟩) hLlt).trans (HL4.out k hlt)
      have ct : wr.cell? ⟨ST, k, none⟩ = some (.int .i64 (wt (sharesOf x.tax (prices x.lines)) k)) := (hbel.cell (p := ⟨ST, k, none⟩) hTlt).trans (HT4.out k hlt)
      have ch : wr.cell? ⟨SH, k, none⟩ = some (.int .i64 (wt (sharesOf x.ship (prices x.lines)) k)) := (hbel.cell (p := ⟨SH, k, none⟩) hHlt).trans (HH2.out k hlt)
      have hSL : ¬ SL = SP := by have := HSP.out; omega
      have hST : ¬ ST = SP := by have := HSP.out; omega
      have hSH : ¬ SH = SP := by have := HSP.out; omega
      have hLr : SL < wr.heap.size := Nat.lt_of_lt_of_le hLlt hbel.size
      have hTr : ST < wr.heap.size := Nat.lt_of_lt_of_le hTlt hbel.size
      have hHr : SH < wr.heap.size := Nat.lt_of_lt_of_le hHlt hbel.size
      have hp0 := HPR.out _ (List.getElem_mem hkl)
      rw [show (prices x.lines)[k] = wt (prices x.lines) k by unfold wt; simp [List.getD, hkl]] at hp0
      have hb1 := share_most HT1.out hkl
      have hb2 := share_most HT2.out hkl
      have hb3 := share_most HT3.out hkl
      have hd := HD.out
      have htx := HTX.out
      have hsh := HSH.out
      have hPA : paidAt x k = wt (prices x.lines) k + (wt (sharesOf x.tax (prices x.lines)) k + wt (sharesOf x.ship (prices x.lines)) k - wt (sharesOf x.disc (prices x.lines)) k) := rfl
      generalize wt (prices x.lines) k = p at *
      generalize wt (sharesOf x.disc (prices x.lines)) k = l at *
      generalize wt (sharesOf x.tax (prices x.lines)) k = t at *
      generalize wt (sharesOf x.ship (prices x.lines)) k = s at *
      have hsum := four_sum (p := p) (l := l) (t := t) (s := s) ⟨by omega, by omega⟩ ⟨by omega, by omega⟩ ⟨by omega, by omega⟩ ⟨by omega, by omega⟩
      have hneg : IntKind.i64.wrap (-l) = -l := by rw [IntKind.wrap_i64]; omega
      have hcP := HR.out.cs k hlt
      have hfP := HR.out.fs k hlt
      have hPr := HR.out.lt
      have HS : Aside (∀ (W : World) (g : Nat), IsInts W (some ⟨g, 0, none⟩) [p, -l, t, s] → Below wr.heap.size wr W → Calls Tryz.prog 75 #[.slice (some ⟨g, 0, none⟩) 4 4] W fun e w' => e = .returned (.tuple #[.int .i64 (p + (t + s - l)), .int .i64 0]) ∧ Below wr.heap.size wr w' ∧ w'.cell? ⟨SP, k, none⟩ = some (.int .i64 (upto (paidAt x) k k)) ∧ w'.frozen? ⟨SP, k, none⟩ = false) := fun W g h hb => by
        have := cents_sum (some ⟨g, 0, none⟩) [p, -l, t, s] 4 4 W rfl h (by decide)
        rw [hsum] at this
        refine this.mono ?_
        rintro e w' ⟨rfl, rfl⟩
        exact ⟨rfl, hb, (hb.cell (p := ⟨SP, k, none⟩) hPr).trans hcP, (hb.frozen (p := ⟨SP, k, none⟩) hPr).trans hfP⟩
      have HPA := Lib.hid hPA
      clear hcP hfP hPr hc hbel hb1 hb2 hb3 hp0 hd htx hsh hsum hPA hLlt hTlt hHlt
      go_upto_region 9 with (fail)
      clear cp
      have u0 := Upd.refl (fun q => q = SP) wr
      have b0 := Below.refl wr.heap.size wr
      go_region_held3 (fun w' => Upd (fun q => q = SP) wr w' ∧ w'.cell? ⟨SL, k, none⟩ = some (.int .i64 l) ∧ w'.cell? ⟨ST, k, none⟩ = some (.int .i64 t) ∧ w'.cell? ⟨SH, k, none⟩ = some (.int .i64 s))
        (refine ⟨?_, (Upd.cell (S := fun q => q = SP) (w := wr) (p := ⟨SL, k, none⟩) ?_ hLr hSL).trans cl, (Upd.cell (S := fun q => q = SP) (w := wr) (p := ⟨ST, k, none⟩) ?_ hTr hST).trans ct, (Upd.cell (S := fun q => q = SP) (w := wr) (p := ⟨SH, k, none⟩) ?_ hHr hSH).trans ch⟩ <;> (with_reducible (repeat (first | assumption | refine upd_set1 ?_ | refine Upd.drew ?_ | refine Upd.alloc ?_ _))))
        ((go_at_call 75; refine Calls.mono (HS.out _ _ (by first | exact four_new _ _ _ _ _ _ | exact (four_new _ _ _ _ _ _).drew') ?_) ?_; (with_reducible (repeat (first | assumption | refine Below.drew ?_ | refine blw_alloc ?_ _))); rintro e w6 ⟨rfl, b6, z6, f6⟩; have u6 : Upd (fun q => q = SP) wr w6 := Upd.below b6))
      all_goals
        have HR7 : Aside (RowI w4 SP m (upto (paidAt x) (k + 1)) (w6.setCell ⟨SP, k, none⟩ (.int .i64 (p + (t + s - l))))) := ((HR.out.after b6).set k hlt _).congr (fun q _ => upd_upto HPA.out.symm q)
        clear HR u0 b0 b6 z6 f6 u6 cl ct ch HS
        go_wp2_with fail
        go_roundw
        case rel => exact ⟨k + 1, by omega, by go_num, HR7.out⟩
        case measure => simp [intOf]; omega
    · obtain rfl : k = m := by omega
      have HRF : Aside (RowI w4 SP k (paidAt x) wr) := HR.out.congr (fun t ht => by unfold upto; rw [if_pos ht])
      go_wp2
      go_ret
      exact ⟨SP, k, rfl, HML.out, hmlo, hmhi, HB4.out.trans (HRF.out.below.mono HB4.out.size), Nat.le_trans HB4.out.size HRF.out.new, HRF.out.lt, HRF.out.cs, HRF.out.fs⟩
end Go.Proofs.YtbiompjhenkieaaGreat

namespace Go.Proofs.YtbiompjhenkieaaGreat
open Go.RowKit
set_option maxRecDepth 100000

theorem bases_at (i : Nat) : ∀ (ls : List Ln) (k : Nat) (h : k < ls.length) (j : Nat), j < ls[k].count.toNat → (bases i ls)[(bases i (ls.take k)).length + j]? = some (baseU i ls[k])
  | l :: ls, 0, _, j, hj => by
    show (List.replicate l.count.toNat (baseU i l) ++ bases i ls)[0 + j]? = _
    have hj' : j < l.count.toNat := hj
    rw [Nat.zero_add, List.getElem?_append_left (by rw [List.length_replicate]; exact hj'), List.getElem?_replicate, if_pos hj']
    rfl
  | l :: ls, k + 1, h, j, hj => by
    show (List.replicate l.count.toNat (baseU i l) ++ bases i ls)[(List.replicate l.count.toNat (baseU i l) ++ bases i (ls.take k)).length + j]? = _
    rw [List.length_append, List.length_replicate, List.getElem?_append_right (by rw [List.length_replicate]; omega), List.length_replicate, show l.count.toNat + (bases i (ls.take k)).length + j - l.count.toNat = (bases i (ls.take k)).length + j by omega]
    exact bases_at i ls k (by simpa using h) j hj
theorem ordU_length (i : Nat) (x : Ord) : (ordU i x).length = (prices x.lines).length := by
  unfold ordU
  rw [adjTo_length, bases_length]
theorem ordU_at (i : Nat) (x : Ord) (k : Nat) (h : k < x.lines.length) (j : Nat) (hj : j < x.lines[k].count.toNat) :
    (ordU i x)[(prices (x.lines.take k)).length + j]? = some ⟨i, x.lines[k].sku, x.lines[k].cat, paidAt x ((prices (x.lines.take k)).length + j)⟩ := by
  have hb := bases_at i x.lines k h j hj
  rw [bases_length] at hb
  generalize (prices (x.lines.take k)).length + j = q at *
  obtain ⟨hq, e⟩ := List.getElem?_eq_some_iff.1 hb
  have hw : wt (prices x.lines) q = x.lines[k].price := by
    unfold wt
    rw [← bases_shares i x.lines]
    simp [List.getD, hq, e, baseU]
  unfold ordU adjTo paidAt
  rw [hw]
  simp [hq, e, baseU, Unt.setShare]
theorem take_snoc {α : Type} {xs : List α} {q : Nat} {x : α} (h : xs[q]? = some x) : xs.take (q + 1) = xs.take q ++ [x] := by
  obtain ⟨hq, e⟩ := List.getElem?_eq_some_iff.1 h
  rw [List.take_succ_eq_append_getElem hq, e]
theorem unt_news (w : World) (u : Unt) (t : TypeId) : ∀ j v, u.arr.toList[j]? = some v → (w.alloc (.cells u.arr t)).drew.cell? ((⟨w.heap.size, 0, none⟩ : Addr).add j) = some v := fun j v h => by
  rw [add_zero_addr]
  have := (arr_new w u.arr t).cells j v (by simpa using h)
  rw [Nat.zero_add] at this
  exact this
theorem info_unto : (Tryz.prog.info? 75).map (fun i => (i.zero, i.size, i.bytes)) = some (some (.agg #[.int .i64 0, .int .i64 0, .int .i64 0, .int .i64 0]), 4, 32) := by kernel_rfl
theorem prices_le {x : Ord} (k : Nat) (h : k < x.lines.length) (j : Nat) (hj : j < x.lines[k].count.toNat) : (prices (x.lines.take k)).length + j < (prices x.lines).length := by
  have := ordU_at 0 x k h j hj
  obtain ⟨hq, _⟩ := List.getElem?_eq_some_iff.1 this
  rwa [ordU_length] at hq

set_option maxHeartbeats 4000000 in
theorem ord_unitsOf (i : Nat) (x : Ord) (a : Option Addr) (n c : Nat) (w : World) (hl : x.lines.length = n) (hn : n ≤ 8) (hp : LnsAt w a x.lines) (hk : ∀ l ∈ x.lines, 1 ≤ l.count ∧ l.count ≤ 50) (hpr : ∀ p ∈ prices x.lines, 0 ≤ p ∧ p ≤ 1073741824) (hx : OrdOk x) :
    Calls Tryz.prog 30 #[.int .i64 i, .agg (ordCells x.day a n c x.disc x.tax x.ship)] w fun e w' => (∃ S m c' : Nat, e = .returned (.slice (some ⟨S, 0, none⟩) m c') ∧ (ordU i x).length = m ∧ 1 ≤ m ∧ m ≤ 200 ∧ m ≤ c' ∧ ∀ j v, (unitCells (ordU i x))[j]? = some v → w'.cell? ⟨S, j, none⟩ = some v) ∧ Below w.heap.size w w' := by
  have hbn : Below w.heap.size w (w.alloc (.cells (ordCells x.day a n c x.disc x.tax x.ship) 45)) := (Below.refl _ _).alloc (Nat.le_refl _) _
  have HB0 : Aside _ := hbn
  have HA0 : Aside _ := arr_new w (ordCells x.day a n c x.disc x.tax x.ship) 45
  have HSH : Aside _ := ord_shares x a n c (w.alloc (.cells (ordCells x.day a n c x.disc x.tax x.ship) 45)) hl hn (LnsAt.below hp hbn) hk hpr hx
  have HP0 : Aside (LnsAt (w.alloc (.cells (ordCells x.day a n c x.disc x.tax x.ship) 45)) a x.lines) := LnsAt.below hp hbn
  have HK : Hid (∀ l ∈ x.lines, 1 ≤ l.count ∧ l.count ≤ 50) := hk
  have HL := Lib.hid hl
  clear hl hp hk hpr hx hbn
  go_enter Tryz.func30, Tryz.ntmps30
  go_upto_region 1 with (fail)
  show Code.wp _ _ _ _ (w.alloc (.cells (ordCells x.day a n c x.disc x.tax x.ship) 45))
  generalize w.alloc (.cells (ordCells x.day a n c x.disc x.tax x.ship) 45) = w0 at *
  obtain ⟨y0, y1, y2, y3, y4⟩ := ordAt_all HA0.out
  simp only [Nat.zero_add] at y1 y2 y3 y4
  go_wp2_with fail
  refine (Calls.mono HSH.out ?_)
  rintro e w1 ⟨SP, m, rfl, hm1, hm2, hm3, hrow⟩
  have HR1 : Aside (RowI w0 SP m (paidAt x) w1) := hrow
  have HML := Lib.hid hm1
  have HA1 : Aside _ := HA0.out.grown hrow.below
  have HP1 : Aside (LnsAt w1 a x.lines) := LnsAt.below HP0.out hrow.below
  have HB1 : Aside (Below w.heap.size w w1) := HB0.out.trans (hrow.below.mono HB0.out.size)
  clear HSH y0 y1 y2 y3 y4 hrow hm1 HB0 HA0 HP0
  obtain ⟨y0, y1, y2, y3, y4⟩ := ordAt_all HA1.out
  simp only [Nat.zero_add] at y1 y2 y3 y4
  go_wp2
  clear y0 y1 y2 y3 y4
  go_loopw [6, 14] (fun s6 s14 wr => ∃ (k q : Nat) (a2 : Option Addr) (c2 : Nat), k ≤ n ∧ s14 = .int .i64 k ∧ s6 = .slice a2 q c2 ∧ q ≤ 50 * k ∧ Hid (q = (prices (x.lines.take k)).length) ∧ Aside (Below w1.heap.size w1 wr) ∧ Aside (wr.ownsRow w1.heap.size 75 4 (.slice a2 q c2) q (unitCells ((ordU i x).take q)))) (fun _ s14 _ => n - (intOf s14).toNat)
  case atStart => exact ⟨0, 0, none, 0, Nat.zero_le _, rfl, rfl, Nat.le_refl _, rfl, Below.refl _ _, World.ownsRow_nil _ _ _ _⟩
  case round =>
    obtain ⟨k, q, a2, c2, hk, rfl, rfl, hq50, HQ, HB, HO⟩ := hrel
    by_cases hlt : k < n
    · have hkn : (k : Int) < (n : Int) := by omega
      rcases HP1.out with hnil | ⟨b, off, rfl, hb, hc⟩
      · have := HL.out; rw [hnil] at this; simp at this; omega
      have hlk : k < x.lines.length := by rw [HL.out]; exact hlt
      obtain ⟨z0, z1, z2, z3⟩ := LnAt.all ((hc k hlk).below HB.out hb)
      have hcnt := HK.out _ (List.getElem_mem hlk)
      have HU : Hid (∀ j, j < x.lines[k].count.toNat → (ordU i x)[q + j]? = some ⟨i, x.lines[k].sku, x.lines[k].cat, paidAt x (q + j)⟩ ∧ q + j < m) := fun j hj => by
        rw [HQ.out, ← HML.out]
        exact ⟨ordU_at i x k hlk j hj, prices_le k hlk j hj⟩
      have HQ1 : Hid (q + x.lines[k].count.toNat = (prices (x.lines.take (k + 1))).length) := by
        show _ = _
        rw [prices_take x.lines k hlk, List.length_append, List.length_replicate, ← HQ.out]
      clear hc
      generalize x.lines[k] = l at *
      have HB2 : Aside (Below w1.heap.size w1 (wr.alloc (.cells l.arr 54))) := HB.out.alloc HB.out.size _
      have HO2 : Aside _ := ownsRow_alloc HO.out (.cells l.arr 54)
      have HAL : Aside (ArrAt (wr.alloc (.cells l.arr 54)) wr.heap.size 0 l.arr) := arr_new wr l.arr _
      have HNE : Aside (∀ g, (Value.slice a2 q c2).ownBlock = some g → g ≠ wr.heap.size) := fun g hg => Nat.ne_of_lt (own_in HO.out hg)
      go_upto_region 6 with (fail)
      show Code.wp _ _ _ _ (wr.alloc (.cells l.arr 54))
      clear z0 z1 z2 z3 HB HO
      generalize wr.alloc (.cells l.arr 54) = w2 at *
      generalize wr.heap.size = gl at *
      obtain ⟨y0, y1, y2, y3⟩ := LnAt.all HAL.out
      simp only [Nat.zero_add] at y1 y2 y3
      obtain ⟨N, hN⟩ : ∃ N : Nat, l.count = N := ⟨l.count.toNat, by omega⟩
      have hNN : l.count.toNat = N := by omega
      rw [hNN] at HU HQ1
      rw [hN] at y3 hcnt
      go_wp2
      clear y0 y1 y2 y3 hNN hN
      go_loopw [6, 20] (fun s6 s20 wq => ∃ (j q2 : Nat) (a3 : Option Addr) (c3 : Nat), j ≤ N ∧ s20 = .int .i64 j ∧ s6 = .slice a3 q2 c3 ∧ Hid (q2 = q + j) ∧ Aside (Below w1.heap.size w1 wq) ∧ Aside (wq.ownsRow w1.heap.size 75 4 (.slice a3 q2 c3) q2 (unitCells ((ordU i x).take q2))) ∧ Aside (ArrAt wq gl 0 l.arr) ∧ Aside (∀ g, (Value.slice a3 q2 c3).ownBlock = some g → g ≠ gl)) (fun _ s20 _ => N - (intOf s20).toNat)
      case atStart => exact ⟨0, q, a2, c2, Nat.zero_le _, rfl, rfl, rfl, HB2.out, HO2.out, HAL.out, HNE.out⟩
      case round =>
        clear HB2 HO2 HAL HNE
        obtain ⟨j, q2, a3, c3, hj, rfl, rfl, hq2, HB, HO, HAL, HNE⟩ := hrel
        by_cases hlt2 : j < N
        · have hjn : (j : Int) < (N : Int) := by omega
          obtain ⟨hu, hqm⟩ := HU.out j hlt2
          rw [← hq2.out] at hu hqm
          have HUT := Lib.hid (take_snoc hu)
          obtain ⟨y0, y1, y2, y3⟩ := LnAt.all HAL.out
          simp only [Nat.zero_add] at y1 y2 y3
          have hqm' : (q2 : Int) < (m : Int) := by omega
          have hq0 : (0 : Int) ≤ (q2 : Int) := by omega
          have hglw : gl < wr.heap.size := HAL.out.lt
          have hSP1 := HR1.out.lt
          have hSPw : SP < wr.heap.size := Nat.lt_of_lt_of_le hSP1 HB.out.size
          have cs : wr.cell? ⟨SP, q2, none⟩ = some (.int .i64 (paidAt x q2)) := (HB.out.cell (p := ⟨SP, q2, none⟩) hSP1).trans (HR1.out.cs q2 hqm)
          have hTS : ¬ (Value.slice a3 q2 c3).ownBlock = some SP := fun e => by have := own_base HO.out e; omega
          have hTL : ¬ (Value.slice a3 q2 c3).ownBlock = some gl := fun e => HNE.out gl e rfl
          have hq2b : q2 ≤ 200 := by omega
          have hmx : q2 + 1 ≤ maxLen := by unfold maxLen; omega
          have hby : (q2 + 1) * 32 ≤ 140737488355328 := by omega
          have hbs : w1.heap.size ≤ wr.heap.size := HB.out.size
          have b0 := Upd.refl (fun g => (Value.slice a3 q2 c3).ownBlock = some g) wr
          obtain ⟨U, hU⟩ : ∃ U : Unt, U = ⟨i, l.sku, l.cat, paidAt x q2⟩ := ⟨_, rfl⟩
          have hUarr : U.arr = #[.int .i64 (i : Int), .int .i64 l.sku, .int .i64 l.cat, .int .i64 (paidAt x q2)] := by rw [hU]; rfl
          rw [← hU] at HUT
          have HUA := Lib.hid hUarr
          obtain ⟨pv, hpv⟩ : ∃ pv, pv = paidAt x q2 := ⟨_, rfl⟩
          rw [← hpv] at cs HUA
          clear hu hUarr hU hpv y3
          go_upto_region 8 with (fail)
          have hun := unt_news wr U 75
          have hal := ownsRow_alloc HO.out (.cells U.arr 75)
          have ho1 := unit_one U
          rw [HUA.out] at hun hal ho1
          go_region_held3 (fun w' => Upd (fun g => (Value.slice a3 q2 c3).ownBlock = some g) wr w' ∧ w'.cell? ⟨gl, 0, none⟩ = some (.int .i64 l.sku) ∧ w'.cell? ⟨gl, 1, none⟩ = some (.int .i64 l.cat) ∧ w'.cell? ⟨SP, q2, none⟩ = some (.int .i64 pv))
            (refine ⟨?_, (Upd.cell (S := (fun g => (Value.slice a3 q2 c3).ownBlock = some g)) (w := wr) (p := ⟨gl, 0, none⟩) ?_ hglw hTL).trans y0, (Upd.cell (S := (fun g => (Value.slice a3 q2 c3).ownBlock = some g)) (w := wr) (p := ⟨gl, 1, none⟩) ?_ hglw hTL).trans y1, (Upd.cell (S := (fun g => (Value.slice a3 q2 c3).ownBlock = some g)) (w := wr) (p := ⟨SP, q2, none⟩) ?_ hSPw hTS).trans cs⟩ <;> (with_reducible (repeat (first | assumption | refine Upd.drew ?_ | refine Upd.alloc ?_ _))))
            ((refine step_append_row (by rfl) _ _ 38 (by rfl) w1.heap.size 75 _ 4 32 Tryz.underlying38 info_unto rfl (by decide) (.slice a3 q2 c3) q2 (unitCells ((ordU i x).take q2)) (by kernel_rfl) hal ⟨wr.heap.size, 0, none⟩ 1 _ (by kernel_rfl) rfl hun ho1 (q2 + 1) rfl hmx hby (Nat.le_trans hbs (by simp)) ?_; intro a9 c9 w9 r1 r2 r3; have u9 : Upd (fun g => (Value.slice a3 q2 c3).ownBlock = some g) wr w9 := ((Upd.refl (fun g => (Value.slice a3 q2 c3).ownBlock = some g) wr).alloc _).drew.grown r2 (fun k hk => .inl hk)))
          all_goals
            have HO9 : Aside (w9.ownsRow w1.heap.size 75 4 (.slice a9 (q2 + 1) c9) (q2 + 1) (unitCells ((ordU i x).take (q2 + 1)))) := by
              show World.ownsRow _ _ _ _ _ _ _
              rw [HUT.out, unitCells_snoc, HUA.out]
              exact r1
            have HB9 : Aside (Below w1.heap.size w1 w9) := HB.out.trans (u9.toBelow HB.out.size (fun g hg e => by have := own_base HO.out e; omega))
            have HAL9 : Aside (ArrAt w9 gl 0 l.arr) := HAL.out.upd u9 hTL
            have HNE9 : Aside (∀ g, (Value.slice a9 (q2 + 1) c9).ownBlock = some g → g ≠ gl) := fun g hg => by
              rcases r3 g hg with e | e
              · exact HNE.out g e
              · have e' : g = wr.heap.size + 1 := by rw [e]; simp
                omega
            have HQ9 : Hid (q2 + 1 = q + (j + 1)) := by have := hq2.out; show _ = _; omega
            clear r1 r2 r3 u9 b0 HO HB HAL HNE hun hal ho1 y0 y1 cs hTS hTL
            go_wp2_with fail
            go_roundw
            case rel => exact ⟨j + 1, q2 + 1, a9, c9, by omega, by go_num, rfl, HQ9.out, HB9.out, HO9.out, HAL9.out, HNE9.out⟩
            case measure => simp [intOf]; omega
        · obtain rfl : j = N := by omega
          have HQ2 : Hid (q2 = (prices (x.lines.take (k + 1))).length) := by show _ = _; rw [hq2.out, HQ1.out]
          go_wp2
          go_roundw
          case rel => exact ⟨k + 1, q2, a3, c3, by omega, by go_num, rfl, by have := hq2.out; omega, HQ2.out, HB.out, HO.out⟩
          case measure => simp [intOf]; omega
    · obtain rfl : k = n := by omega
      have hqe : q = m := by rw [HQ.out, List.take_of_length_le (by rw [HL.out]; exact Nat.le_refl _), HML.out]
      have HOL := HO.out
      rw [hqe, List.take_of_length_le (by rw [ordU_length, HML.out]; exact Nat.le_refl _)] at HOL
      have HOF : Aside _ := HOL
      have HQE := Lib.hid hqe
      clear HOL hqe
      go_wp2
      go_ret
      refine ⟨?_, HB1.out.trans (HB.out.mono HB1.out.size)⟩
      have hm0 := HQE.out
      subst hm0
      rcases HOF.out.2 with ⟨-, h0⟩ | ⟨g, cap, cur, hv, hgb, hgc, hle, hcm, -, -⟩
      · omega
      · injection hv with e1 e2 e3
        subst e1 e3
        refine ⟨g, q, c2, rfl, by rw [ordU_length]; exact HML.out, hm2, hm3, hle, fun j v hj => ?_⟩
        have hjl := (List.getElem?_eq_some_iff.1 hj).1
        rw [unitCells_length, ordU_length, HML.out] at hjl
        rw [World.ownsRow.cellAt HOF.out j hjl]
        exact hj
end Go.Proofs.YtbiompjhenkieaaGreat
