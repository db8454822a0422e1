/-
  Package command: Formed, Decode; the law's awake. Conditions: those of each theorem.
-/
import Derived.Test.YtmaoimjfkncnpaaCmEnc
namespace Go.Proofs.Ytmaoimjfkncnpaa
open Go.RowKit
set_option maxRecDepth 100000

set_option maxHeartbeats 4000000 in
theorem cm_formed (r : Com) (us : List Int) {w : World} (hr : LiAt w r.uA r.uN r.uC us) (hf : Fit64 r us) (hu : r.uN ≤ 100000) :
    Calls Try.prog 12 #[.agg #[.int .i64 r.kind, .int .i64 r.ord, .slice r.uA r.uN r.uC, .int .i64 r.rea, .int .i64 r.want, .bool r.cred, .int .i64 r.rma, .int .i64 r.unit, .int .i64 r.grd, .int .i64 r.days, .int .i64 r.key, .bool r.yes]] w fun e w' => (∃ q, e = .returned (.bool q) ∧ (q = true ↔ FormedC r us)) ∧ Below w.heap.size w w' := by
  obtain ⟨n0, n1, uA, uN, uC, n3, n4, n5, n6, n7, n8, n9, n10, n11⟩ := r
  dsimp only at *
  obtain ⟨W, hW, hs2, hb2, X1⟩ := one_box w 30 ⟨n0, n1, uA, uN, uC, n3, n4, n5, n6, n7, n8, n9, n10, n11⟩
  dsimp only at hW
  have HB : Aside (Below w.heap.size w W) := hb2
  have HC : Aside _ := cm_encode ⟨n0, n1, uA, uN, uC, n3, n4, n5, n6, n7, n8, n9, n10, n11⟩ us (hr.below hb2) hf hu
  obtain ⟨y0, y1, y2, y3, y4, y5, y6, y7, y8, y9, y10, y11⟩ := X1.cells
  have hl1 := X1.lt
  dsimp only at y0 y1 y2 y3 y4 y5 y6 y7 y8 y9 y10 y11
  clear X1 hs2 hb2 hr hf
  go_enter Try.func12, Try.ntmps12
  go_upto_region 1 with (fail)
  rw [← hW]
  clear hW
  go_wp2_with fail
  refine Calls.mono HC.out ?_
  rintro e w1 ⟨h, b1⟩
  have HBF : Aside (Below w.heap.size w w1) := HB.out.trans (b1.mono HB.out.size)
  clear HC b1 HB y0 y1 y2 y3 y4 y5 y6 y7 y8 y9 y10 y11 hl1
  rcases h with ⟨h, a, n, cc, rfl, -⟩ | ⟨h, rfl⟩
  · have H := Lib.hid h
    clear h
    go_wp2
    go_ret
    exact ⟨⟨true, rfl, fun _ => H.out, fun _ => rfl⟩, HBF.out⟩
  · have H := Lib.hid h
    clear h
    go_wp2
    go_ret
    exact ⟨⟨false, rfl, (fun x => by cases x), fun x => absurd x H.out⟩, HBF.out⟩

/-- What Decode answers. -/
def DecE (w : World) (xs : List UInt8) (e : Ending) (w' : World) : Prop :=
  (∃ (r : Com) (us : List Int), FormedC r us ∧ xs = comBytes r us ∧ e = .returned (.tuple #[.agg #[.int .i64 r.kind, .int .i64 r.ord, .slice r.uA r.uN r.uC, .int .i64 r.rea, .int .i64 r.want, .bool r.cred, .int .i64 r.rma, .int .i64 r.unit, .int .i64 r.grd, .int .i64 r.days, .int .i64 r.key, .bool r.yes], .int .i64 0]) ∧ NewLi w' w.heap.size r.uA r.uN r.uC us ∧ Fit64 r us ∧ r.uN < 256 ∧ (∀ (c : Com) (us0 : List Int), FormedC c us0 → xs = comBytes c us0 → sameB r c us us0 = true)) ∨ ((∀ (r : Com) (us : List Int), FormedC r us → xs ≠ comBytes r us) ∧ e = .returned (.tuple #[.agg #[.int .i64 0, .int .i64 0, .slice none 0 0, .int .i64 0, .int .i64 0, .bool false, .int .i64 0, .int .i64 0, .int .i64 0, .int .i64 0, .int .i64 0, .bool false], .int .i64 3]))

set_option maxHeartbeats 2000000 in
theorem cm_decode (a : Option Addr) (xs : List UInt8) (n c : Nat) (w : World) (hn : xs.length = n) (hx : IsBytes w a xs) (hnc : a = none → c = 0) (hb : n ≤ 140737488355328) :
    Calls Try.prog 15 #[.slice a n c] w fun e w' => DecE w xs e w' ∧ Below w.heap.size w w' := by
  obtain ⟨W, hW, hs2, hb2, X1⟩ := one_box w 30 com0
  unfold com0 at hW
  dsimp only at hW
  have HB : Aside (Below w.heap.size w W) := hb2
  have HX0 : Aside (ComBox W w.heap.size 30 com0) := X1
  have HC : Aside _ := in_new a xs n c W hn (hx.below hb2) hnc hb
  clear X1 hs2 hb2 hn hx hnc hb
  go_enter Try.func15, Try.ntmps15
  go_upto_region 1 with (fail)
  rw [← hW]
  clear hW
  obtain ⟨g2, hg2⟩ : ∃ g, g = w.heap.size := ⟨_, rfl⟩
  rw [← hg2] at HX0 ⊢
  have HG2 : Hid (w.heap.size ≤ g2) := by show _ ≤ _; omega
  clear hg2
  go_wp2_with fail
  refine Calls.mono HC.out ?_
  rintro e w1 ⟨p, S, rfl, i1, b1, s1⟩
  have HB1 : Aside (Below w.heap.size w w1) := HB.out.trans (b1.mono HB.out.size)
  have HX1 : Aside _ := HX0.out.below b1
  have HPS : Hid (w.heap.size ≤ p ∧ g2 ≠ p ∧ w.heap.size ≤ w1.heap.size) := ⟨by have := s1 p i1.own; have := HB.out.size; omega, by have := s1 p i1.own; have := HX0.out.lt; omega, HB1.out.size⟩
  clear HC b1 s1 HB HX0
  have HC : Aside _ := cm_read i1
  clear i1
  go_wp2_with fail
  refine Calls.mono HC.out ?_
  rintro e w2 ⟨r, vs, rest', bad', rfl, hn, i2, u2, hl, hf, hp⟩
  obtain ⟨m0, m1, xA, xN, xC, m3, m4, m5, m6, m7, m8, m9, m10, m11⟩ := r
  dsimp only at hn hl
  have HB2 : Aside (Below w.heap.size w w2) := HB1.out.trans (u2.toBelow HB1.out.size (fun k hk e => by have := HPS.out; have e : k = p := e; omega))
  have HX2 : Aside _ := HX1.out.upd u2 HPS.out.2.1
  have I2 : Aside (InAt w2 p S rest' bad') := i2
  have NL2 : Aside (NewLi w2 w1.heap.size xA xN xC vs) := hn
  have HL := Lib.hid hl
  have HF := Lib.hid hf
  have HP := Lib.hid hp
  have HG1 : Hid (g2 < w1.heap.size) := HX1.out.lt
  clear HC hn i2 u2 hl hf hp HB1 HX1
  go_upto_region 3 with (refine wpList_store_new rfl 30 _ _ rfl _ _ rfl rfl (by kernel_rfl) rfl rfl ?_)
  have HB3 : Aside (Below w.heap.size w (w2.alloc (.cells #[.int .i64 m0, .int .i64 m1, .slice xA xN xC, .int .i64 m3, .int .i64 m4, .bool m5, .int .i64 m6, .int .i64 m7, .int .i64 m8, .int .i64 m9, .int .i64 m10, .bool m11] 30))) := blw_alloc HB2.out _
  have I3 : Aside (InAt (w2.alloc (.cells #[.int .i64 m0, .int .i64 m1, .slice xA xN xC, .int .i64 m3, .int .i64 m4, .bool m5, .int .i64 m6, .int .i64 m7, .int .i64 m8, .int .i64 m9, .int .i64 m10, .bool m11] 30)) p S rest' bad') := I2.out.below (upd_box _)
  have X3 : Aside (ComBox (w2.alloc (.cells #[.int .i64 m0, .int .i64 m1, .slice xA xN xC, .int .i64 m3, .int .i64 m4, .bool m5, .int .i64 m6, .int .i64 m7, .int .i64 m8, .int .i64 m9, .int .i64 m10, .bool m11] 30)) g2 30 com0) := HX2.out.below (upd_box _)
  have Y3 : Aside (ComBox (w2.alloc (.cells #[.int .i64 m0, .int .i64 m1, .slice xA xN xC, .int .i64 m3, .int .i64 m4, .bool m5, .int .i64 m6, .int .i64 m7, .int .i64 m8, .int .i64 m9, .int .i64 m10, .bool m11] 30)) w2.heap.size 30 ⟨m0, m1, xA, xN, xC, m3, m4, m5, m6, m7, m8, m9, m10, m11⟩) := ComBox.made w2 30 ⟨m0, m1, xA, xN, xC, m3, m4, m5, m6, m7, m8, m9, m10, m11⟩
  have NL3 : Aside (NewLi (w2.alloc (.cells #[.int .i64 m0, .int .i64 m1, .slice xA xN xC, .int .i64 m3, .int .i64 m4, .bool m5, .int .i64 m6, .int .i64 m7, .int .i64 m8, .int .i64 m9, .int .i64 m10, .bool m11] 30)) w1.heap.size xA xN xC vs) := NL2.out.below (upd_box _)
  obtain ⟨g5, hg5⟩ : ∃ g, g = w2.heap.size := ⟨_, rfl⟩
  rw [← hg5] at Y3 ⊢
  clear hg5 HB2 I2 HX2 NL2
  generalize w2.alloc (.cells #[.int .i64 m0, .int .i64 m1, .slice xA xN xC, .int .i64 m3, .int .i64 m4, .bool m5, .int .i64 m6, .int .i64 m7, .int .i64 m8, .int .i64 m9, .int .i64 m10, .bool m11] 30) = w3 at *
  have HC : Aside _ := in_done I3.out
  have HD0 : Hid ((!bad' && decide (rest'.length = 0)) = true → bad' = false ∧ rest' = []) := fun h => by
    simp only [Bool.and_eq_true, Bool.not_eq_true', decide_eq_true_eq] at h
    exact ⟨h.1, List.length_eq_zero_iff.1 h.2⟩
  have HD1 : Hid ((!bad' && decide (rest'.length = 0)) = false → ¬ (bad' = false ∧ rest' = [])) := fun h h2 => by
    obtain ⟨rfl, rfl⟩ := h2
    cases h
  generalize (!bad' && decide (rest'.length = 0)) = qd at *
  go_wp2_with fail
  refine Calls.mono HC.out ?_
  rintro e w4 ⟨rfl, rfl⟩
  clear HC I3
  -- nothing of this sort
  have HNO : Hid ((¬ (bad' = false ∧ rest' = []) ∨ ¬ FormedC ⟨m0, m1, xA, xN, xC, m3, m4, m5, m6, m7, m8, m9, m10, m11⟩ vs) → ∀ (r : Com) (us : List Int), FormedC r us → xs ≠ comBytes r us) := fun hno r us hfr he => by
    obtain ⟨t1, t2, t3⟩ := HP.out.bwd r us [] rfl hfr.1 (by rw [List.append_nil]; exact he)
    rcases hno with h | h
    · exact h ⟨t2, t3⟩
    · exact h (hfr.same (sameB_sym t1))
  cases qd with
  | false =>
    skip
    · have HN := Lib.hid (HNO.out (.inl (HD1.out rfl)))
      have yf := X3.out.fz
      obtain ⟨y0, y1, y2, y3, y4, y5, y6, y7, y8, y9, y10, y11⟩ := X3.out.cells
      have HFX : Aside _ := set12_at X3.out com0
      have HFU : Aside _ := set12_upd w3 g2 com0
      unfold set12 com0 at HFX HFU
      dsimp only at HFX HFU
      clear X3 Y3 NL3 HP HD0 HD1 HNO HF HL
      go_wp2
      refine bodyPost_ret (results_row_tmp rfl _ _ g2 30 #[.int .i64 0, .int .i64 0, .slice none 0 0, .int .i64 0, .int .i64 0, .bool false, .int .i64 0, .int .i64 0, .int .i64 0, .int .i64 0, .int .i64 0, .bool false] (0, 0) _ rfl HFX.out.at' Try.underlying30 rfl info_com) rfl ?_
      exact ⟨.inr ⟨HN.out, rfl⟩, HB3.out.trans (HFU.out.toBelow HB3.out.size (fun k hk e => by have := HG2.out; have e : k = g2 := e; omega))⟩
  | true =>
    obtain ⟨rfl, rfl⟩ := HD0.out rfl
    clear HD0 HD1
    have HC : Aside _ := cm_formed ⟨m0, m1, xA, xN, xC, m3, m4, m5, m6, m7, m8, m9, m10, m11⟩ vs NL3.out.li HF.out (by show xN ≤ _; have := HL.out; omega)
    obtain ⟨z0, z1, z2, z3, z4, z5, z6, z7, z8, z9, z10, z11⟩ := Y3.out.cells
    have hl5 := Y3.out.lt
    dsimp only at z0 z1 z2 z3 z4 z5 z6 z7 z8 z9 z10 z11
    go_wp2_with fail
    refine Calls.mono HC.out ?_
    rintro e w4 ⟨⟨q, rfl, hq⟩, b4⟩
    have HB4 : Aside (Below w.heap.size w w4) := HB3.out.trans (b4.mono HB3.out.size)
    have X4 : Aside (ComBox w4 g2 30 com0) := X3.out.below b4
    have Y4 : Aside (ComBox w4 g5 30 ⟨m0, m1, xA, xN, xC, m3, m4, m5, m6, m7, m8, m9, m10, m11⟩) := Y3.out.below b4
    have NL4 : Aside (NewLi w4 w1.heap.size xA xN xC vs) := NL3.out.below b4
    have HQ := Lib.hid hq
    clear HC hq b4 HB3 X3 Y3 NL3 z0 z1 z2 z3 z4 z5 z6 z7 z8 z9 z10 z11 hl5
    cases q with
    | false =>
      skip
      · have HN := Lib.hid (HNO.out (.inr (fun h => by have := HQ.out.2 h; cases this)))
        have yf := X4.out.fz
        obtain ⟨y0, y1, y2, y3, y4, y5, y6, y7, y8, y9, y10, y11⟩ := X4.out.cells
        have HFX : Aside _ := set12_at X4.out com0
        have HFU : Aside _ := set12_upd w4 g2 com0
        unfold set12 com0 at HFX HFU
        dsimp only at HFX HFU
        clear X4 Y4 NL4 HP HNO HF HL HQ
        go_wp2
        refine bodyPost_ret (results_row_tmp rfl _ _ g2 30 #[.int .i64 0, .int .i64 0, .slice none 0 0, .int .i64 0, .int .i64 0, .bool false, .int .i64 0, .int .i64 0, .int .i64 0, .int .i64 0, .int .i64 0, .bool false] (0, 0) _ rfl HFX.out.at' Try.underlying30 rfl info_com) rfl ?_
        exact ⟨.inr ⟨HN.out, rfl⟩, HB4.out.trans (HFU.out.toBelow HB4.out.size (fun k hk e => by have := HG2.out; have e : k = g2 := e; omega))⟩
    | true =>
      skip
      · have HFC : Hid (FormedC ⟨m0, m1, xA, xN, xC, m3, m4, m5, m6, m7, m8, m9, m10, m11⟩ vs) := HQ.out.1 rfl
        have HXS : Hid (xs = comBytes ⟨m0, m1, xA, xN, xC, m3, m4, m5, m6, m7, m8, m9, m10, m11⟩ vs) := by
          have := (HP.out.fwd rfl HFC.out.1).2
          rwa [List.append_nil] at this
        have yf := X4.out.fz
        obtain ⟨y0, y1, y2, y3, y4, y5, y6, y7, y8, y9, y10, y11⟩ := X4.out.cells
        have HCV : Aside _ := Y4.out.at_cells
        have HFX : Aside _ := set12_at X4.out ⟨m0, m1, xA, xN, xC, m3, m4, m5, m6, m7, m8, m9, m10, m11⟩
        have HFU : Aside _ := set12_upd w4 g2 ⟨m0, m1, xA, xN, xC, m3, m4, m5, m6, m7, m8, m9, m10, m11⟩
        unfold set12 at HFX HFU
        dsimp only at HFX HFU
        have HINJ : Hid (∀ (c : Com) (us0 : List Int), FormedC c us0 → xs = comBytes c us0 → sameB ⟨m0, m1, xA, xN, xC, m3, m4, m5, m6, m7, m8, m9, m10, m11⟩ c vs us0 = true) := fun c us0 hc he => (HP.out.bwd c us0 [] rfl hc.1 (by rw [List.append_nil]; exact he)).1
        clear X4 Y4 HP HNO HQ
        go_wp2_with (refine wpList_load_cells rfl 30 _ rfl g5 0 rfl _ _ HCV.out Try.underlying30 rfl (by kernel_rfl) ?_)
        refine bodyPost_ret (results_row_tmp rfl _ _ g2 30 #[.int .i64 m0, .int .i64 m1, .slice xA xN xC, .int .i64 m3, .int .i64 m4, .bool m5, .int .i64 m6, .int .i64 m7, .int .i64 m8, .int .i64 m9, .int .i64 m10, .bool m11] (0, 0) _ rfl HFX.out.at' Try.underlying30 rfl info_com) rfl ?_
        exact ⟨.inl ⟨⟨m0, m1, xA, xN, xC, m3, m4, m5, m6, m7, m8, m9, m10, m11⟩, vs, HFC.out, HXS.out, rfl, (NL4.out.upd HFU.out (fun g hg _ e => by have := HG1.out; have e : g = g2 := e; omega)).lower HPS.out.2.2, HF.out, HL.out, HINJ.out⟩, HB4.out.trans (HFU.out.toBelow HB4.out.size (fun k hk e => by have := HG2.out; have e : k = g2 := e; omega))⟩

theorem tick_bytes : comBytes ⟨7, 0, none, 0, 0, 0, 0, false, 0, 0, 0, 3, 0, false⟩ [] = [7, 3, 0] := by decide +kernel
theorem tick_formed : FormedC ⟨7, 0, none, 0, 0, 0, 0, false, 0, 0, 0, 3, 0, false⟩ [] :=
  ⟨⟨by dsimp only; omega, ⟨fun e => by dsimp only at e; omega, fun _ e => by dsimp only at e; omega, fun e => by dsimp only at e; omega, fun _ => by decide, fun e => by dsimp only at e; omega⟩, ⟨fun _ => ⟨rfl, rfl, rfl, rfl, rfl⟩, fun _ => rfl, fun _ => ⟨rfl, rfl⟩, fun e => absurd rfl e, fun _ => ⟨rfl, rfl⟩⟩⟩, fun e => by dsimp only at e; omega⟩

set_option maxHeartbeats 4000000 in
theorem cm_awake (w : World) : Calls Try.prog 8 #[] w fun e w' => e = .returned (.bool true) ∧ Below w.heap.size w w' := by
  have HC : Aside _ := cm_encode (w := w) ⟨7, 0, none, 0, 0, 0, 0, false, 0, 0, 0, 3, 0, false⟩ [] (liAt0 w) ⟨by unfold I64; dsimp only; omega, i640, fun x hx => by simp at hx, i640, i640, i640, i640, i640, by unfold I64; dsimp only; omega, i640⟩ (Nat.zero_le _)
  go_enter Try.func8, Try.ntmps8
  go_wp2_with fail
  refine Calls.mono HC.out ?_
  rintro e w1 ⟨h, b1⟩
  rcases h with ⟨-, a, n, cc, rfl, h1, h2, -⟩ | ⟨h, -⟩
  · rw [tick_bytes] at h1 h2
    obtain rfl : 3 = n := h1
    rcases h2 with h | ⟨b, off, rfl, hb, hcs⟩
    · cases h
    · have k0 := hcs 0 (by decide)
      have k1 := hcs 1 (by decide)
      rw [Nat.add_zero] at k0
      have q0 : (([7, 3, 0] : List UInt8)[0].toNat : Int) = 7 := rfl
      have q1 : (([7, 3, 0] : List UInt8)[1].toNat : Int) = 3 := rfl
      rw [q0] at k0
      rw [q1] at k1
      have HB : Aside (Below w.heap.size w w1) := b1
      clear HC hcs b1 q0 q1
      go_wp2
      go_ret
      exact ⟨rfl, HB.out⟩
  · exact absurd tick_formed h
end Go.Proofs.Ytmaoimjfkncnpaa
