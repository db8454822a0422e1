/-
  FrameTells: of any bytes the frames with which they begin are told, one by one, and the place behind the last one; tied to the program's text. No conditions: every input.
-/
import Derived.Test.YtdbngmnpfcdhdaaDoorFrameSums
import Derived.Test.YtdbngmnpfcdhdaaDoorTold
import Derived.Test.YtdbngmnpfcdhdaaDoorFirst
import Derived.Test.YtdbngmnpfcdhdaaDoorLists
namespace Go.Proofs.YtdbngmnpfcdhdaaDoor
open Go.RowKit Go.WideShapes
set_option maxRecDepth 100000

theorem endOf_append (j : Nat) (L M : List (List UInt8)) : endOf j (L ++ M) = endOf (endOf j L) M := by
  induction L generalizing j with
  | nil => rfl
  | cons x L ih => simp only [List.cons_append, endOf, ih]
/-- What the document's frames are. -/
theorem Fr.all {w w' : World} {xs : List UInt8} {v u : Value} (h : Fr w w' xs (endOf 0 (frames xs)) v u) :
    Below w.heap.size w w' ∧ ∃ E, RowsOf w' w.heap.size v E (frames xs) ∧ w'.ownsRow w.heap.size 3 1 u (frames xs).length ((places 0 (frames xs)).map ival) := by
  obtain ⟨hb, E, L, h1, h2, _, _, h5, h6⟩ := h
  have e : frames xs = L := by
    have h7 : endOf 0 (frames xs) = endOf (endOf 0 L) (frames (xs.drop (endOf 0 (frames xs)))) := by rw [← endOf_append, ← h6]
    rw [← h5] at h7
    have h8 := endOf_ge (endOf 0 (frames xs)) (frames (xs.drop (endOf 0 (frames xs))))
    have h9 : (frames (xs.drop (endOf 0 (frames xs)))).length = 0 := by omega
    rw [List.length_eq_zero_iff.1 h9, List.append_nil] at h6
    exact h6
  subst e
  exact ⟨hb, E, h1, h2⟩

theorem told_all (a : Option Addr) (xs : List UInt8) (m c : Nat) (w : World) (hH : HalvesAt w) (hn : xs.length = m) (hx : IsBytes w a xs) (hnc : a = none → c = 0) (hml : m ≤ 2000000) :
    Calls Tryd.prog 13 #[.slice a m c, .int .i64 1073741824] w fun e w' => (∃ a1 c1 a2 c2 E, e = .returned (.tuple #[.slice a1 (frames xs).length c1, .slice a2 (frames xs).length c2]) ∧ RowsOf w' w.heap.size (.slice a1 (frames xs).length c1) E (frames xs) ∧
      w'.ownsRow w.heap.size 3 1 (.slice a2 (frames xs).length c2) (frames xs).length ((places 0 (frames xs)).map ival)) ∧ Below w.heap.size w w' := by
  have h := callsIn_wide.1 (told_walk 0 a xs m c 1073741824 w hH hn hx hnc hml (by omega))
  refine h.mono ?_
  rintro e w' ⟨⟨v, u, E, rfl, h1, h2⟩, h3⟩
  have hc := frames_count xs
  rw [List.take_of_length_le (by omega)] at h1 h2
  obtain ⟨a1, c1, rfl⟩ := h1.slice
  obtain ⟨a2, c2, rfl⟩ := own_slice h2
  exact ⟨⟨a1, c1, a2, c2, E, rfl, h1, h2⟩, h3⟩
theorem first_all (a : Option Addr) (xs : List UInt8) (m c : Nat) (w : World) (hH : HalvesAt w) (hn : xs.length = m) (hx : IsBytes w a xs) (hnc : a = none → c = 0) (hc : m ≤ c) (hcm : c ≤ maxLen) :
    Calls Tryd.prog 15 #[.slice a m c] w fun e w' => FirstOut xs e w' ∧ Below w.heap.size w w' := callsIn_wide.1 (code_first 0 a xs m c w hH hn hx hnc hc hcm)
theorem whole_all (a : Option Addr) (xs : List UInt8) (m c : Nat) (w : World) (hH : HalvesAt w) (hn : xs.length = m) (hx : IsBytes w a xs) (hnc : a = none → c = 0) (hc : m ≤ c) (hcm : c ≤ maxLen) :
    Calls Tryd.prog 17 #[.slice a m c] w fun e w' => e = .returned (.int .i64 (endOf 0 (frames xs) : Nat)) ∧ Below w.heap.size w w' := callsIn_wide.1 (code_whole 0 a xs m c w hH hn hx hnc hc hcm)

theorem FirstOut.one {xs : List UInt8} {e : Ending} {w' : World} (h : FirstOut xs e w') : ∃ a m c q er, e = .returned (.tuple #[.slice a m c, .int .i64 (q : Nat), .int .i64 er]) ∧ m ≤ maxLen ∧ (frames xs = [] → m = 0 ∧ q = 0 ∧ er = 3) ∧
    (∀ h : 0 < (frames xs).length, (frames xs)[0].length = m ∧ q = 7 + m ∧ er = 0 ∧ IsBytes w' a (frames xs)[0]) := by
  rcases h with ⟨h1, rfl⟩ | ⟨h1, ad, c, rfl, h2, h3, h4, h5⟩
  · exact ⟨none, 0, 0, 0, 3, rfl, Nat.zero_le _, fun _ => ⟨rfl, rfl, rfl⟩, fun h => by rw [h1] at h; simp at h⟩
  · exact ⟨ad, _, c, _, 0, rfl, Nat.le_trans h3 h4, fun h => by rw [h] at h1; simp at h1, fun _ => ⟨rfl, rfl, rfl, h2⟩⟩
/-- A place out of a row of them. -/
theorem place_at {w : World} {base : Nat} {a : Option Addr} {c m : Nat} {P : List Nat} (h : w.ownsRow base 3 1 (.slice a m c) m (P.map ival)) {i : Nat} (hi : i < P.length) : ∃ g, a = some ⟨g, 0, none⟩ ∧ w.cell? ⟨g, i, none⟩ = some (.int .i64 (P[i] : Nat)) := by
  rcases h.2 with ⟨_, h2⟩ | ⟨g, cap, cur, hv, _, hh, _, _, _, ht⟩
  · have := h.1
    simp at this
    omega
  · injection hv with e1 _ _
    subst e1
    refine ⟨g, rfl, ?_⟩
    rw [cell_of_row w g i cur _ (0, 0) hh]
    have h1 : (P.map ival)[i]? = some (ival P[i]) := by simp [List.getElem?_map, List.getElem?_eq_getElem hi]
    rw [← ht, List.getElem?_take] at h1
    split at h1
    · show cur[i]? = some (ival P[i])
      simpa using h1
    · cases h1

theorem place_is {w : World} {base : Nat} {a : Option Addr} {c m : Nat} {P : List Nat} (h : w.ownsRow base 3 1 (.slice a m c) m (P.map ival)) {i z : Nat} (hz : P[i]? = some z) : ∃ g, a = some ⟨g, 0, none⟩ ∧ w.cell? ⟨g, i, none⟩ = some (.int .i64 (z : Int)) ∧ g < w.heap.size := by
  obtain ⟨hi, rfl⟩ := List.getElem?_eq_some_iff.1 hz
  obtain ⟨g, rfl, h1⟩ := place_at h hi
  exact ⟨g, rfl, h1, own_lt h rfl⟩
theorem places_last (j : Nat) (L : List (List UInt8)) (x : List UInt8) : (places j (x :: L))[L.length]? = some (endOf j (x :: L)) := by
  induction L generalizing j x with
  | nil => rfl
  | cons y L ih =>
    have h := ih (j + 7 + x.length) y
    simpa [places, endOf] using h

theorem wrap_pred {k : Nat} (h : 0 < k) (h2 : k ≤ 10000) : IntKind.i64.wrap ((k : Int) - 1) = (k : Int) - 1 := by
  obtain ⟨j, rfl⟩ : ∃ j, k = j + 1 := ⟨k - 1, by omega⟩
  have e : ((j + 1 : Nat) : Int) - 1 = (j : Int) := by omega
  rw [e, IntKind.wrap_i64]
  omega
theorem whole_over {a : Option Addr} {xs : List UInt8} {m c zl : Nat} {w w' : World} (hH : HalvesAt w) (hn : xs.length = m) (hx : IsBytes w a xs) (hnc : a = none → c = 0) (hc : m ≤ c) (hcm : c ≤ maxLen) (hz : endOf 0 (frames xs) = zl) (hb : Below w.heap.size w w') :
    Calls Tryd.prog 17 #[.slice a m c] w' fun e w2 => e = .returned (.int .i64 (zl : Nat)) ∧ Below w.heap.size w w2 := by
  subst hz
  refine (whole_all a xs m c w' (hH.below hb) hn (hx.below hb) hnc hc hcm).mono ?_
  rintro e w2 ⟨he, b2⟩
  exact ⟨he, hb.trans (b2.mono hb.size)⟩
theorem bytes_over {a b : Option Addr} {n m ca cb : Nat} {xs : List UInt8} {w w' : World} (hn : xs.length = n) (hm : xs.length = m) (ha : IsBytes w a xs) (hb : IsBytes w b xs) (hx : n ≤ maxLen) (hy : m ≤ maxLen) (h : Below w.heap.size w w') :
    Calls Tryd.prog 11 #[.slice a n ca, .slice b m cb] w' fun e w2 => e = .returned (.bool true) ∧ Below w.heap.size w w2 := by
  refine (bytes_any a b n m ca cb xs xs w' hn hm (ha.below h) (hb.below h) hx hy).mono ?_
  rintro e w2 ⟨he, b2⟩
  exact ⟨by rw [he]; simp, h.trans (b2.mono h.size)⟩

set_option maxHeartbeats 1600000 in
theorem tells_near (a : Option Addr) (xs : List UInt8) (n c : Nat) (w : World) (hH : HalvesAt w) (hn : xs.length = n) (hx : IsBytes w a xs) (hnc : a = none → c = 0) (hc : n ≤ c) (hcm : c ≤ maxLen) (h : ¬ 70000 < n) :
    Calls Tryd.prog 4 #[.slice a n c] w fun e w' => e = .returned (.bool true) ∧ Below w.heap.size w w' := by
  have h1 : ¬ (70000 : Int) < n := by omega
  have HH := Lib.hid hH
  have HN := Lib.hid hn
  clear hH hn
  go_enter Tryd.func4, Tryd.ntmps4
  go_wp2_with fail
  refine (frame_awake _ HH.out).mono ?_
  rintro e w1 ⟨rfl, b1⟩
  have hnm : n ≤ maxLen := Nat.le_trans hc hcm
  have hcount : (frames xs).length ≤ 10000 := by have := frames_count xs; have := HN.out; omega
  go_wp2_with fail
  refine (told_all a xs n c w1 (HH.out.below b1) HN.out (hx.below b1) hnc (by omega)).mono ?_
  rintro e w2 ⟨⟨a1, c1, a2, c2, E, rfl, hr1, hr2⟩, b2⟩
  have B2 := b1.trans (b2.mono b1.size)
  have L1 := Lib.hid hr1.lists
  have R2 := Lib.hid hr2
  clear hr1 hr2
  generalize hF : frames xs = F at *
  have HF := Lib.hid hF
  clear hF
  go_wp2_with fail
  refine (frames_ref a xs n c w2 HN.out (hx.below B2) hc hcm hnc (by omega)).mono ?_
  rintro e w3 ⟨v3, u3, rfl, hfr⟩
  obtain ⟨b3, E3, hv3, hu3⟩ := hfr.all
  rw [HF.out] at hv3 hu3
  obtain ⟨a3, c3, rfl⟩ := hv3.slice
  obtain ⟨a4, c4, rfl⟩ := own_slice hu3
  have B3 := B2.trans (b3.mono B2.size)
  have L3 := Lib.hid hv3.lists
  have R4 := Lib.hid hu3
  clear hv3 hu3 hfr
  go_wp2_with fail
  refine (first_all a xs n c w3 (HH.out.below B3) HN.out (hx.below B3) hnc hc hcm).mono ?_
  rintro e w4 ⟨hfo, b4⟩
  have B4 := B3.trans (b4.mono B3.size)
  obtain ⟨ax, mx, cx, qx, er, rfl, hmx, hno, hyes⟩ := hfo.one
  have HNO := Lib.hid hno
  have HYES := Lib.hid hyes
  have hFm : F.length ≤ maxLen := by have : 10000 ≤ maxLen := by decide
                                     omega
  clear hno hyes hfo
  go_wp2_with fail
  refine (lists_any a1 a3 F.length F.length c1 c3 F F w4 rfl rfl (L1.out.below (b3.trans (b4.mono b3.size))) (L3.out.below b4) hFm hFm).mono ?_
  rintro e w5 ⟨rfl, b5⟩
  have B5 := B4.trans (b5.mono B4.size)
  have ed : decide (F = F) = true := by simp
  rw [ed]
  clear ed
  have R2' := Lib.hid (ownsRow_upd (S := fun _ => False) R2.out (below_upd _ (b3.trans ((b4.trans (b5.mono b4.size)).mono b3.size))) (fun _ _ h => h))
  have R4' := Lib.hid (ownsRow_upd (S := fun _ => False) R4.out (below_upd _ (b4.trans (b5.mono b4.size))) (fun _ _ h => h))
  have hpl : Hid ((places 0 F).length = F.length) := places_len 0 F
  obtain ⟨m, hm⟩ : ∃ m, F.length = m := ⟨_, rfl⟩
  have HM := Lib.hid hm
  rw [hm] at R2' R4' hcount hpl ⊢
  clear hm
  go_wp2
  go_loopw [10, 48] (fun _ i wr => ∃ k : Nat, k ≤ m ∧ i = .int .i64 k ∧ Below w5.heap.size w5 wr) (fun _ i _ => m - (intOf i).toNat)
  case atStart => exact ⟨0, Nat.zero_le _, rfl, Below.refl _ _⟩
  case round =>
    obtain ⟨k, hk, rfl, bR⟩ := hrel
    by_cases hlt : k < m
    · have hk0 : (0 : Int) ≤ (k : Int) := by omega
      have hkm : (k : Int) < (m : Int) := by omega
      obtain ⟨g2, rfl, q2⟩ := place_at (ownsRow_upd (S := fun _ => False) R2'.out (below_upd _ bR) (fun _ _ h => h)) (i := k) (by rw [hpl.out]; exact hlt)
      obtain ⟨g4, rfl, q4⟩ := place_at (ownsRow_upd (S := fun _ => False) R4'.out (below_upd _ bR) (fun _ _ h => h)) (i := k) (by rw [hpl.out]; exact hlt)
      generalize (places 0 F)[k]'_ = z at q2 q4
      have HBR := Lib.hid bR
      clear bR
      go_wp2
      go_quiet (fail)
      go_wp2
      go_roundw
      case rel => exact ⟨k + 1, by omega, by go_num, below_drewN HBR.out _⟩
      case measure => simp [intOf]; omega
    · obtain rfl : k = m := by omega
      have B6 := B5.trans (bR.mono B5.size)
      by_cases hm0 : k = 0
      · subst hm0
        have hf0 : F = [] := List.length_eq_zero_iff.1 HM.out
        have hx0 : frames xs = [] := HF.out.trans hf0
        obtain ⟨rfl, rfl, rfl⟩ := HNO.out hx0
        have HX0 := Lib.hid hx0
        clear hf0 hx0
        go_wp2_with fail
        refine (whole_all a xs n c wr (HH.out.below B6) HN.out (hx.below B6) hnc hc hcm).mono ?_
        rintro e w7 ⟨rfl, b7⟩
        rw [HX0.out]
        go_wp2
        go_ret
        exact ⟨rfl, B6.trans (b7.mono B6.size)⟩
      · have hm0' : ((k : Int) == 0) = false := by simp [hm0]
        obtain ⟨x, F', rfl⟩ : ∃ x F', F = x :: F' := by
          cases F with
          | nil => have := HM.out; simp at this; omega
          | cons x F' => exact ⟨x, F', rfl⟩
        have hk' : k = F'.length + 1 := by rw [← HM.out]; simp
        have hf1 : 0 < (frames xs).length := by rw [HF.out]; simp
        obtain ⟨y1, y2, rfl, y4⟩ := HYES.out hf1
        have hx0 : (frames xs)[0] = x := by simp [HF.out]
        rw [hx0] at y1 y4
        have R4R := ownsRow_upd (S := fun _ => False) R4'.out (below_upd _ bR) (fun _ _ h => h)
        obtain ⟨g4, rfl, q4, hg4⟩ := place_is R4R (places_last 0 F' x)
        obtain ⟨g4', e4, q0, _⟩ := place_is R4R (i := 0) (z := 7 + x.length) (by simp [places])
        injection e4 with e4
        injection e4 with e4 _ _
        subst e4
        have L3R := L3.out.below (b4.trans ((b5.trans (bR.mono b5.size)).mono b4.size))
        obtain ⟨b3', o3, rfl, hb3, hi3⟩ : ∃ b o, a3 = some ⟨b, o, none⟩ ∧ b < wr.heap.size ∧ ∃ ad c, wr.cell? ⟨b, o + 0, none⟩ = some (.slice ad x.length c) ∧ IsBytes wr ad x ∧ x.length ≤ c ∧ c ≤ maxLen := by
          rcases L3R with h | ⟨b, o, h1, h2, h3⟩
          · cases h
          · obtain ⟨ad, c, h4, h5, h6, h7, _⟩ := h3 0 (by simp)
            exact ⟨b, o, h1, h2, ad, c, h4, h5, h6, h7⟩
        obtain ⟨ad0, c0, q3, hy3, hc3, hm3⟩ := hi3
        have YB := Lib.hid (y4.below (b5.trans (bR.mono b5.size)))
        have e0 : 7 + x.length = qx := by omega
        rw [e0] at q0
        have hj1 : F'.length = k - 1 := by omega
        rw [hj1] at q4
        obtain ⟨zl, hzl⟩ : ∃ zl, endOf 0 (x :: F') = zl := ⟨_, rfl⟩
        rw [hzl] at q4
        have HZL : Hid (endOf 0 (frames xs) = zl) := by
          show endOf 0 (frames xs) = zl
          rw [HF.out]; exact hzl
        have Y1 := Lib.hid y1
        have HY3 := Lib.hid hy3
        have hk1 : (1 : Int) ≤ (k : Int) := by omega
        have hk2 : (0 : Int) ≤ (k : Int) - 1 := by omega
        have hk3 : (k : Int) - 1 < (k : Int) := by omega
        have hk4 : 0 < k := by omega
        have b0 := Below.refl wr.heap.size wr
        have hwk := wrap_pred hk4 hcount
        clear y1 y4 y2 hy3 hx0 hf1 L3R R4R hk' hzl hj1 e0
        have hxm : x.length ≤ maxLen := Nat.le_trans hc3 hm3
        have hcW := hx.below B6
        have hHW := HH.out.below B6
        have HcW := Lib.hid hcW
        have HHW := Lib.hid hHW
        clear hcW hHW hk hlt hm0 hm0' HM hpl R2' R4' R2 R4 L1 L3 HYES HNO
        go_wp2_with fail
        go_region_held3 (fun w' => Below wr.heap.size wr w' ∧ w'.cell? ⟨g4, k - 1, none⟩ = some (.int .i64 (zl : Int)) ∧ w'.cell? ⟨g4, 0, none⟩ = some (.int .i64 (qx : Int)) ∧ w'.cell? ⟨b3', o3, none⟩ = some (.slice ad0 x.length c0))
          (refine ⟨?_, (Below.cell (p := ⟨g4, k - 1, none⟩) (B := wr.heap.size) ?_ hg4).trans q4, (Below.cell (p := ⟨g4, 0, none⟩) (B := wr.heap.size) ?_ hg4).trans q0, (Below.cell (p := ⟨b3', o3, none⟩) (B := wr.heap.size) ?_ hb3).trans q3⟩ <;> (first | assumption | exact Below.drew (by assumption)))
          (first
            | (go_at_call 17; refine Calls.mono (whole_over HHW.out HN.out HcW.out hnc hc hcm HZL.out ?_) ?_; (first | exact (Below.refl _ _).drew | exact Below.refl _ _ | assumption | exact Below.drew (by assumption)); rintro e w8 ⟨rfl, b8⟩)
            | (go_at_call 11; refine Calls.mono (bytes_over Y1.out rfl YB.out HY3.out hmx hxm ?_) ?_; (first | exact (Below.refl _ _).drew | exact Below.refl _ _ | assumption | exact Below.drew (by assumption)); rintro e w9 ⟨rfl, b9⟩))
        all_goals
          go_wp2
          go_ret
          exact ⟨rfl, B6.trans (b9.mono B6.size)⟩

theorem tells_far (a : Option Addr) (n c : Nat) (w : World) (hH : HalvesAt w) (h : 70000 < n) :
    Calls Tryd.prog 4 #[.slice a n c] w fun e w' => e = .returned (.bool true) ∧ Below w.heap.size w w' := by
  have h1 : (70000 : Int) < n := by omega
  have HH := Lib.hid hH
  clear hH
  go_enter Tryd.func4, Tryd.ntmps4
  go_wp2_with fail
  refine (frame_awake _ HH.out).mono ?_
  rintro e w1 ⟨rfl, b1⟩
  go_wp2_with fail
  refine (frame_awake _ (HH.out.below b1)).mono ?_
  rintro e w2 ⟨rfl, b2⟩
  go_wp2
  go_ret
  exact ⟨rfl, b1.trans (b2.mono b1.size)⟩

theorem tells_contract (W : World) (args : Array Value) (hL : laidMetH Tryd.prog halvesLaid W) (h : Each Tryd.prog W Tryd.f4.params.toList args.toList) :
    Calls Tryd.prog 4 args W fun e W' => e = .returned (.bool true) ∧ Below W.heap.size W W' := by
  rw [Tryd.params4] at h
  obtain ⟨v0, e0, ⟨_, o0⟩, d0⟩ := each_one h
  obtain ⟨args⟩ := args
  obtain rfl : args = [v0] := e0
  obtain ⟨a, n, c, rfl, hc0⟩ := val_slice o0 Tryd.underlying22
  rw [hc0] at d0
  obtain ⟨a', c', xs, e, h1, h2, h3, h4⟩ := d0.bytes Tryd.underlying22 Tryd.underlying5 cells_u8'
  injection e with e _
  injection e with e1 e2 e3
  subst e1 e2 e3
  have hH := halves_of_laid hL
  by_cases hbig : 70000 < xs.length
  · exact tells_far _ _ _ W hH hbig
  · exact tells_near _ _ _ _ W hH rfl h3 h4 h1 h2 hbig

theorem tells_lifted (os : Os) (started : os.Started) (H : Type) (enc : TypeId × Value → H) :
    ReturnsInHanded {} Tryd.checked os 4 .any (fun w args => (Rows.frameTellsSpec.pre enc Tryd.prog Tryd.f4 [] false w args ∧ laidMetH Tryd.prog halvesLaid w) ∧ sizedMet enc Tryd.prog Tryd.f4 (OpenSpec.ofChange Rows.frameTellsSpec) false w args)
      (Rows.frameTellsSpec.post enc Tryd.prog Tryd.f4 false true false false) :=
  law_lifted_laid (C := Tryd.checked) frame_own frame_laidOut (by kernel_rfl) Tryd.func4 rfl (tb := 4) rfl Tryd.underlying4
    (by
      rw [Tryd.params4]; intro t ht; simp at ht
      rcases ht with rfl; exact ⟨by kernel_rfl, of_decide_eq_true (by kernel_rfl)⟩)
    (fun H ds hl => by
      rw [Tryd.params4] at hl
      match ds, hl with
      | [d1], _ => rfl)
    os started H enc
    (ChangeSpec.witness_shaped (enc := enc) (C := Tryd.checked) (os := os) (X := fun w _ => laidMetH Tryd.prog halvesLaid w) false (World.doorLaid Tryd.prog 14 os) #[.slice none 0 0] 8 rfl (World.shaped_of_RefB (by kernel_rfl) (by kernel_rfl)) (by kernel_rfl) (by kernel_rfl) (by kernel_rfl) (door_met os _))
    tells_contract

theorem frameTells_holds : Rows.FrameTellsSaid :=
  OpenClaim.holds_of_wide 4 Tryd.f4 rfl rfl rfl rfl rfl rfl rfl ⟨rfl, rfl, rfl, rfl, rfl⟩ rfl rfl rfl rfl rfl (by kernel_rfl) Tryd.func4 (by kernel_rfl)
    (of_decide_eq_true (by kernel_rfl)) (by unfold Func.isWrapper; first | (rw [if_pos (by decide +kernel)]; kernel_rfl) | (rw [if_neg (by decide +kernel)]; exact ⟨rfl, rfl⟩))
    (fun os started H enc _ => tells_lifted os started H enc)

theorem frameTells_card : Rows.FrameTellsCardSaid :=
  Claim7.holds_tied_plain_at .later [] [.data] true _ false
    frameTells_holds (fun _ h => by cases h) (by kernel_rfl) (fun _ h => by cases h) frameTells_row_tie rfl ⟨rfl, rfl⟩ (by kernel_rfl) rfl
    (fun f fn hf hfn => by
      obtain rfl : f = 4 := Option.some.inj ((show Tryd.prog.funcNamed "recoup/recouplaw03.FrameTells" = some 4 by kernel_rfl).symm.trans hf) |>.symm
      obtain rfl : fn = Tryd.f4 := (Option.some.inj (Tryd.func4.symm.trans hfn)).symm
      exact ⟨by kernel_rfl, fun j t ht => by
        rw [Tryd.params4] at ht
        have hm : t ∈ [22] := by simpa using Array.mem_of_getElem? ht
        have hall : ([22].all fun u => !Tryd.prog.wantsStandIn u) = true := by kernel_rfl
        exact (show Tryd.prog.wantsStandIn t = false by simpa using List.all_eq_true.1 hall t hm)⟩)
    (by kernel_rfl)
#print axioms frameTells_card
end Go.Proofs.YtdbngmnpfcdhdaaDoor
