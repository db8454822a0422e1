/-
  CodecBack: what was put is read, one behind the other, and nothing is left. No conditions: every input.
-/
import Derived.Test.YtljoalihioflmaaBack
namespace Go.Proofs.Ytljoalihioflmaa
open Go.RowKit Go.WideShapes
set_option maxRecDepth 100000


section
variable {A w' : World} {p : Nat} {S : Nat → Prop} {rest : List UInt8} {bad : Bool}
theorem done_over {w2 : World} {r : List UInt8} {b : Bool} (hb : Below A.heap.size A w') (d : InDone w' p S r b w2) : InAt w2 p S r b ∧ Upd (fun k => k = p) A w2 :=
  ⟨d.1, (below_upd (fun k => k = p) hb).trans d.2 (fun _ _ hk => hk)⟩
theorem in_u8_over (h : InAt A p S rest bad) {v : Int} {r : List UInt8} {b : Bool} (hv : ((numLe (took rest bad 1).1 : Nat) : Int) = v) (hr : (took rest bad 1).2 = (r, b)) (hb : Below A.heap.size A w') :
    Calls Try.prog 37 #[.pointer (some ⟨p, 0, none⟩)] w' fun e w2 => e = .returned (.int .i64 v) ∧ InAt w2 p S r b ∧ Upd (fun k => k = p) A w2 :=
  (in_u8 (h.below hb)).mono fun _ _ ⟨h1, d⟩ => by
    rw [hv] at h1
    rw [hr] at d
    exact ⟨h1, done_over hb d⟩
theorem in_u16_over (h : InAt A p S rest bad) {v : Int} {r : List UInt8} {b : Bool} (hv : ((numLe (took rest bad 2).1 : Nat) : Int) = v) (hr : (took rest bad 2).2 = (r, b)) (hb : Below A.heap.size A w') :
    Calls Try.prog 38 #[.pointer (some ⟨p, 0, none⟩)] w' fun e w2 => e = .returned (.int .i64 v) ∧ InAt w2 p S r b ∧ Upd (fun k => k = p) A w2 :=
  (in_u16 (h.below hb)).mono fun _ _ ⟨h1, d⟩ => by
    rw [hv] at h1
    rw [hr] at d
    exact ⟨h1, done_over hb d⟩
theorem in_u32_over (h : InAt A p S rest bad) {v : Int} {r : List UInt8} {b : Bool} (hv : ((numLe (took rest bad 4).1 : Nat) : Int) = v) (hr : (took rest bad 4).2 = (r, b)) (hb : Below A.heap.size A w') :
    Calls Try.prog 39 #[.pointer (some ⟨p, 0, none⟩)] w' fun e w2 => e = .returned (.int .i64 v) ∧ InAt w2 p S r b ∧ Upd (fun k => k = p) A w2 :=
  (in_u32 (h.below hb)).mono fun _ _ ⟨h1, d⟩ => by
    rw [hv] at h1
    rw [hr] at d
    exact ⟨h1, done_over hb d⟩
theorem in_i64_over (h : InAt A p S rest bad) {v : Int} {r : List UInt8} {b : Bool} (hv : wrap64 ((numLe (took rest bad 8).1 : Nat) : Int) = v) (hr : (took rest bad 8).2 = (r, b)) (hb : Below A.heap.size A w') :
    Calls Try.prog 40 #[.pointer (some ⟨p, 0, none⟩)] w' fun e w2 => e = .returned (.int .i64 v) ∧ InAt w2 p S r b ∧ Upd (fun k => k = p) A w2 :=
  (in_i64 (h.below hb)).mono fun _ _ ⟨h1, d⟩ => by
    rw [hv] at h1
    rw [hr] at d
    exact ⟨h1, done_over hb d⟩
theorem in_flag_over (h : InAt A p S rest bad) {v : Bool} {r : List UInt8} {b : Bool} (hv : flagged rest bad = (v, r, b)) (hb : Below A.heap.size A w') :
    Calls Try.prog 41 #[.pointer (some ⟨p, 0, none⟩)] w' fun e w2 => e = .returned (.bool v) ∧ InAt w2 p S r b ∧ Upd (fun k => k = p) A w2 :=
  (in_flag (h.below hb)).mono fun _ _ ⟨h1, d⟩ => by
    rw [hv] at h1 d
    exact ⟨h1, done_over hb d⟩
theorem in_bytes_over (h : InAt A p S rest bad) {v r : List UInt8} {b : Bool} (hv : bytesOf rest bad = (v, r, b)) (hl : rest.length ≤ 140737488355328) (hb : Below A.heap.size A w') :
    Calls Try.prog 42 #[.pointer (some ⟨p, 0, none⟩)] w' fun e w2 => (∃ a m c, e = .returned (.slice a m c) ∧ Hid (v.length = m) ∧ IsBytes w2 a v ∧ m ≤ maxLen) ∧ InAt w2 p S r b ∧ Upd (fun k => k = p) A w2 :=
  (in_bytes (h.below hb) hl).mono fun _ _ ⟨⟨a, m, c, h1, h2, h3, h4, h5, _, _⟩, d⟩ => by
    rw [hv] at h2 h3 d
    exact ⟨⟨a, m, c, h1, h2, h3, Nat.le_trans h4 h5⟩, done_over hb d⟩
theorem in_plain_over (h : InAt A p S rest bad) (n : Int) {v r : List UInt8} {b : Bool} (hv : took rest bad n = (v, r, b)) (hl : rest.length ≤ 140737488355328) (hb : Below A.heap.size A w') :
    Calls Try.prog 43 #[.pointer (some ⟨p, 0, none⟩), .int .i64 n] w' fun e w2 => (∃ a m c, e = .returned (.slice a m c) ∧ Hid (v.length = m) ∧ IsBytes w2 a v ∧ m ≤ maxLen) ∧ InAt w2 p S r b ∧ Upd (fun k => k = p) A w2 :=
  (in_plain (h.below hb) n hl).mono fun _ _ ⟨⟨a, m, c, h1, h2, h3, h4, h5, _, _⟩, d⟩ => by
    rw [hv] at h2 h3 d
    exact ⟨⟨a, m, c, h1, h2, h3, Nat.le_trans h4 h5⟩, done_over hb d⟩
theorem bytes_same {w2 : World} (hu : Upd (fun k => k = p) A w2) (a b : Option Addr) (n m ca cb : Nat) (xs : List UInt8) (hn : xs.length = n) (hm : xs.length = m) (ha : IsBytes w2 a xs) (hb : IsBytes w2 b xs) (hx : n ≤ maxLen) (hy : m ≤ maxLen) :
    Calls Try.prog 26 #[.slice a n ca, .slice b m cb] w2 fun e w3 => e = .returned (.bool true) ∧ Upd (fun k => k = p) A w3 ∧ Below w2.heap.size w2 w3 :=
  (bytes_any a b n m ca cb xs xs w2 hn hm ha hb hx hy).mono fun _ _ ⟨h1, b3⟩ => ⟨by rw [h1]; simp, hu.trans (below_upd (fun _ => False) b3) (fun _ _ h => h.elim), b3⟩
end

set_option maxHeartbeats 800000 in
theorem back_far (a : Option Addr) (xs : List Item) (n c : Nat) (w : World) (hn : xs.length = n) (hx : Items w a xs) (hm : n ≤ maxLen) (hf : fewB xs = false) :
    Calls Try.prog 8 #[.slice a n c] w fun e w' => e = .returned (.bool true) ∧ Below w.heap.size w w' := by
  have HF := Lib.hid hf
  clear hf
  go_enter Try.func8, Try.ntmps8
  go_wp2_with fail
  refine (codec_awake _).mono ?_
  rintro e w1 ⟨rfl, b1⟩
  go_wp2_with fail
  refine (few_in a xs n c w1 hn (hx.below b1) hm).mono ?_
  rintro e w2 ⟨rfl, rfl⟩
  rw [HF.out]
  go_wp2_with fail
  refine (codec_awake _).mono ?_
  rintro e w2 ⟨rfl, b2⟩
  go_wp2
  go_ret
  exact ⟨rfl, b1.trans (b2.mono b1.size)⟩

set_option maxHeartbeats 3200000 in
theorem back_near (a : Option Addr) (xs : List Item) (n c : Nat) (w : World) (hn : xs.length = n) (hx : Items w a xs) (hm : n ≤ maxLen) (hf : fewB xs = true) :
    Calls Try.prog 8 #[.slice a n c] w fun e w' => e = .returned (.bool true) ∧ Below w.heap.size w w' := by
  have hn60 : n ≤ 60 := by simp [fewB] at hf; omega
  have hsum : sumB xs ≤ 200000 := by simp [fewB] at hf; omega
  have HF := Lib.hid hf
  have HN := Lib.hid hn
  clear hf hn
  go_enter Try.func8, Try.ntmps8
  go_wp2_with fail
  refine (codec_awake _).mono ?_
  rintro e w1 ⟨rfl, b1⟩
  go_wp2_with fail
  refine (few_in a xs n c w1 HN.out (hx.below b1) hm).mono ?_
  rintro e w2 ⟨rfl, rfl⟩
  rw [HF.out]
  have hs1 := b1.size
  go_wp2_with fail
  go_loopw [4, 21] (fun _ i wr => ∃ k : Nat, k ≤ n ∧ i = .int .i64 k ∧ ∃ S ys bad, OutAt wr w1.heap.size S ys bad ∧ (∀ k, S k → w.heap.size ≤ k) ∧ Put xs k ys bad ∧ Below w.heap.size w wr) (fun _ i _ => n - (intOf i).toNat)
  case atStart =>
    refine ⟨0, Nat.zero_le _, rfl, _, [], false, OutAt.new w1, fun k hk => ?_, fun _ => ⟨rfl, fun i _ h => by omega⟩, b1.trans ((Below.refl _ _).alloc hs1 _)⟩
    have h9 : k = w1.heap.size := hk
    omega
  case round =>
    obtain ⟨k, hk, rfl, S, ys, bad, ho, hS, hP, hB⟩ := hrel
    by_cases hlt2 : k < n
    · rcases hx with h0 | ⟨b, off, rfl, hb, hi⟩
      · have := HN.out; rw [h0] at this; simp at this; omega
      have hlk : k < xs.length := by rw [HN.out]; exact hlt2
      obtain ⟨ad, cc, hit⟩ := hi k hlk
      have hsk := sumB_take xs k hlk
      have hmo := sumB_mono xs (k + 1)
      have hmk := sumB_mono xs k
      have hPn := hP.next hlk hit.v64
      have hyl : ys.length ≤ 1000000 := by
        cases bad with
        | true => rw [ho.ok rfl]; simp
        | false => rw [(hP rfl).1]; have := docs_len xs k; omega
      generalize xs[k] = x at *
      obtain ⟨kd, V, L, F, Bs⟩ := x
      have hV := hit.v64
      have hnil := hit.nil
      have hby := hit.bytes
      have cw : ∀ {w' : World}, Below w.heap.size w w' → ∀ o, w'.cell? ⟨b, o, none⟩ = w.cell? ⟨b, o, none⟩ := fun h o => h.cell (p := ⟨b, o, none⟩) hb
      have HIT := Lib.hid hit
      simp only at hsk hV hnil hby
      have hBl : Bs.length ≤ 200000 := by omega
      clear hi hit hsk hP
      have hk0 : (0 : Int) ≤ (k : Int) := by omega
      have hkn : (k : Int) < (n : Int) := by omega
      have hbS : Bs ≠ [] → ∀ x, ad = some x → ¬ S x.block := fun h0 x e hs => by
        have h1 := hS _ hs
        rcases hby with h | ⟨b', o', e', hb', _⟩
        · exact h0 h
        · rw [e] at e'; injection e' with e'; subst e'; exact absurd hb' (by simp; omega)
      have hbyr : IsBytes wr ad Bs := hby.upd (below_upd (fun _ => False) hB) (fun _ _ _ h => h)
      clear hby
      have hcs := item_cells HIT.out (cw hB)
      go_wp2_with (refine wpList_load_cells rfl 60 _ rfl b (off + k * 5) rfl #[.int .u8 kd, .int .i64 V, .int .i64 L, .bool F, .slice ad Bs.length cc] _ hcs Try.underlying60 rfl info_item ?_)
      refine (put_in ho kd V L F ad Bs cc hV hbyr hnil hbS hyl (by omega)).mono ?_
      rintro e w2 ⟨rfl, S2, h2, u2, m2⟩
      have B2 : Below w.heap.size w w2 := hB.trans (upd_below u2 hB.size hS)
      have hS2 : ∀ k, S2 k → w.heap.size ≤ k := fun k hk => (m2 k hk).elim (hS k) (fun h => Nat.le_trans hB.size h)
      generalize (putItem ys bad ⟨kd, V, L, F, Bs⟩).1 = ys2 at *
      generalize (putItem ys bad ⟨kd, V, L, F, Bs⟩).2 = bad2 at *
      clear hbS hbyr u2 m2 ho hS hcs
      go_wp2
      go_roundw
      case rel => exact ⟨k + 1, by omega, by go_num, S2, ys2, bad2, h2, hS2, hPn, B2⟩
      case measure => simp [intOf]; omega
    · obtain rfl : k = n := by omega
      have hyl : ys.length ≤ 1000000 := by
        cases bad with
        | true => rw [ho.ok rfl]; simp
        | false => rw [(hP rfl).1]; have := docs_len xs k; have := sumB_mono xs k; omega
      go_wp2_with fail
      refine (end_in ho (by omega)).mono ?_
      rintro e w2 ⟨⟨ae, ce, rfl, hr⟩, b2⟩
      have B2 : Below w.heap.size w w2 := hB.trans (b2.mono hB.size)
      cases hbad : bad
      · subst hbad
        obtain ⟨hys, hok⟩ := hP rfl
        have hyx : Hid (ys = docs xs) := by
          show ys = docs xs
          rw [hys, List.take_of_length_le (by rw [HN.out]; exact Nat.le_refl _)]
        have HOK := Lib.hid hok
        clear hP hys hok
        obtain ⟨g1, _, g3, g4, g5⟩ := bytes_of_row hr
        have e0 : endE false = 0 := rfl
        rw [e0]
        clear hr ho
        go_wp2_with fail
        refine (in_new ae ys ys.length ce w2 rfl g1 g5 (by omega)).mono ?_
        rintro e w3 ⟨p, SI, rfl, hI, b3, hSI⟩
        have B3 : Below w.heap.size w w3 := B2.trans (b3.mono B2.size)
        have hSI' : ∀ k, SI k → w.heap.size ≤ k := fun k hk => Nat.le_trans B2.size (hSI k hk)
        have hdl : Hid (xs.drop k = []) := by
          show xs.drop k = []
          rw [List.drop_eq_nil_iff, HN.out]; exact Nat.le_refl _
        clear b3 g1 hSI
        go_wp2_with fail
        go_loopw [8, 9, 10, 43] (fun _ _ _ i wq => ∃ j : Nat, j ≤ k ∧ i = .int .i64 j ∧ InAt wq p SI (docs (xs.drop j)) false ∧ Below w.heap.size w wq) (fun _ _ _ i _ => k - (intOf i).toNat)
        case atStart => exact ⟨0, Nat.zero_le _, rfl, by rw [List.drop_zero, ← hyx.out]; exact hI, B3⟩
        case round =>
          obtain ⟨j, hj, rfl, hIj, hBj⟩ := hrel
          by_cases hlt3 : j < k
          · rcases hx with h0 | ⟨b, off, rfl, hb, hi⟩
            · have := HN.out; rw [h0] at this; simp at this; omega
            have hlk : j < xs.length := by rw [HN.out]; exact hlt3
            obtain ⟨ad, cc, hit⟩ := hi j hlk
            have hxo := HOK.out j hlk hlt3
            have hdr := Lib.hid (docs_drop xs j hlk)
            have hsk := sumB_take xs j hlk
            have hmo := sumB_mono xs (j + 1)
            generalize xs[j] = x at *
            obtain ⟨kd, V, L, F, Bs⟩ := x
            have hV := hit.v64
            have hL := hit.l64
            have hkd := hit.kind
            have hnil := hit.nil
            have hby := hit.bytes
            have hfit := hit.fit
            have cw : ∀ {w' : World}, Below w.heap.size w w' → ∀ o, w'.cell? ⟨b, o, none⟩ = w.cell? ⟨b, o, none⟩ := fun h o => h.cell (p := ⟨b, o, none⟩) hb
            have HIT := Lib.hid hit
            simp only at hsk hV hnil hby hfit hL hkd
            have hBl : Bs.length ≤ 200000 := by omega
            clear hi hit hsk
            have hj0 : (0 : Int) ≤ (j : Int) := by omega
            have hjk : (j : Int) < (k : Int) := by omega
            have hcs := item_cells HIT.out (cw hBj)
            rw [hdr.out] at hIj
            have hqp : ¬ wr.heap.size = p := fun e => by have := hIj.lt p hIj.own; omega
            by_cases k0 : kd = 0
            · subst k0
              have hfV : fits V 1 = true := by simpa [okB] using hxo
              have hdc : docB ⟨0, V, L, F, Bs⟩ = le V 1 := by simp [docB, u64_pos hV (fits_pos hfV)]
              rw [hdc] at hIj
              have HT := Lib.hid (took_le V 1 (docs (xs.drop (j + 1))))
              have HN2 := Lib.hid (numLe_fits hfV)
              clear hfV hdc hxo
              have A0 : Below wr.heap.size wr (wr.alloc (.cells #[.int .u8 0, .int .i64 V, .int .i64 L, .bool F, .slice ad Bs.length cc] 60)) := upd_box _
              have BA : Below w.heap.size w (wr.alloc (.cells #[.int .u8 0, .int .i64 V, .int .i64 L, .bool F, .slice ad Bs.length cc] 60)) := hBj.trans (A0.mono hBj.size)
              have hIA := hIj.below A0
              have hqs : wr.heap.size < (wr.alloc (.cells #[.int .u8 0, .int .i64 V, .int .i64 L, .bool F, .slice ad Bs.length cc] 60)).heap.size := by simp
              have hqv : (wr.alloc (.cells #[.int .u8 0, .int .i64 V, .int .i64 L, .bool F, .slice ad Bs.length cc] 60)).cell? ⟨wr.heap.size, 1, none⟩ = some (.int .i64 V) := by simp
              have hq0 : (wr.alloc (.cells #[.int .u8 0, .int .i64 V, .int .i64 L, .bool F, .slice ad Bs.length cc] 60)).cell? ⟨wr.heap.size, 0, none⟩ = some (.int .u8 0) := by simp
              go_wp2_with (refine wpList_load_cells rfl 60 _ rfl b (off + j * 5) rfl #[.int .u8 0, .int .i64 V, .int .i64 L, .bool F, .slice ad Bs.length cc] _ hcs Try.underlying60 rfl info_item ?_)
              have u0 := Upd.refl (fun k => k = p) (wr.alloc (.cells #[.int .u8 0, .int .i64 V, .int .i64 L, .bool F, .slice ad Bs.length cc] 60))
              generalize wr.alloc (.cells #[.int .u8 0, .int .i64 V, .int .i64 L, .bool F, .slice ad Bs.length cc] 60) = A at *
              go_region_held3 (fun w' => Upd (fun k => k = p) A w' ∧ w'.cell? ⟨wr.heap.size, 1, none⟩ = some (.int .i64 V))
                (refine ⟨?_, (Upd.cell (S := fun k => k = p) (p := ⟨wr.heap.size, 1, none⟩) ?_ hqs hqp).trans hqv⟩ <;> (first | assumption | exact Upd.drew (by assumption)))
                ((go_at_call 37; refine Calls.mono (in_u8_over hIA (v := V) (r := docs (xs.drop (j + 1))) (b := false) ?_ ?_ ?_) ?_; (rw [show took _ false 1 = _ from HT.out]; exact HN2.out); (rw [show took _ false 1 = _ from HT.out]); (first | exact (Below.refl _ _).drew | exact Below.refl _ _); rintro e w2 ⟨rfl, I2, u2⟩))
              all_goals
                go_wp2
                go_roundw
                case rel => exact ⟨j + 1, by omega, by go_num, I2, BA.trans (upd_below u2 BA.size (fun k hk => by have h9 : k = p := hk; rw [h9]; exact hSI' _ hIj.own))⟩
                case measure => simp [intOf]; omega
            by_cases k1 : kd = 1
            · subst k1
              have hfV : fits V 2 = true := by simpa [okB] using hxo
              have hdc : docB ⟨1, V, L, F, Bs⟩ = le V 2 := by simp [docB, u64_pos hV (fits_pos hfV)]
              rw [hdc] at hIj
              have HT := Lib.hid (took_le V 2 (docs (xs.drop (j + 1))))
              have HN2 := Lib.hid (numLe_fits hfV)
              clear hfV hdc hxo
              have A0 : Below wr.heap.size wr (wr.alloc (.cells #[.int .u8 1, .int .i64 V, .int .i64 L, .bool F, .slice ad Bs.length cc] 60)) := upd_box _
              have BA : Below w.heap.size w (wr.alloc (.cells #[.int .u8 1, .int .i64 V, .int .i64 L, .bool F, .slice ad Bs.length cc] 60)) := hBj.trans (A0.mono hBj.size)
              have hIA := hIj.below A0
              have hqs : wr.heap.size < (wr.alloc (.cells #[.int .u8 1, .int .i64 V, .int .i64 L, .bool F, .slice ad Bs.length cc] 60)).heap.size := by simp
              have hqv : (wr.alloc (.cells #[.int .u8 1, .int .i64 V, .int .i64 L, .bool F, .slice ad Bs.length cc] 60)).cell? ⟨wr.heap.size, 1, none⟩ = some (.int .i64 V) := by simp
              have hq0 : (wr.alloc (.cells #[.int .u8 1, .int .i64 V, .int .i64 L, .bool F, .slice ad Bs.length cc] 60)).cell? ⟨wr.heap.size, 0, none⟩ = some (.int .u8 1) := by simp
              go_wp2_with (refine wpList_load_cells rfl 60 _ rfl b (off + j * 5) rfl #[.int .u8 1, .int .i64 V, .int .i64 L, .bool F, .slice ad Bs.length cc] _ hcs Try.underlying60 rfl info_item ?_)
              have u0 := Upd.refl (fun k => k = p) (wr.alloc (.cells #[.int .u8 1, .int .i64 V, .int .i64 L, .bool F, .slice ad Bs.length cc] 60))
              generalize wr.alloc (.cells #[.int .u8 1, .int .i64 V, .int .i64 L, .bool F, .slice ad Bs.length cc] 60) = A at *
              go_region_held3 (fun w' => Upd (fun k => k = p) A w' ∧ w'.cell? ⟨wr.heap.size, 1, none⟩ = some (.int .i64 V))
                (refine ⟨?_, (Upd.cell (S := fun k => k = p) (p := ⟨wr.heap.size, 1, none⟩) ?_ hqs hqp).trans hqv⟩ <;> (first | assumption | exact Upd.drew (by assumption)))
                ((go_at_call 38; refine Calls.mono (in_u16_over hIA (v := V) (r := docs (xs.drop (j + 1))) (b := false) ?_ ?_ ?_) ?_; (rw [show took _ false 2 = _ from HT.out]; exact HN2.out); (rw [show took _ false 2 = _ from HT.out]); (first | exact (Below.refl _ _).drew | exact Below.refl _ _); rintro e w2 ⟨rfl, I2, u2⟩))
              all_goals
                go_wp2
                go_roundw
                case rel => exact ⟨j + 1, by omega, by go_num, I2, BA.trans (upd_below u2 BA.size (fun k hk => by have h9 : k = p := hk; rw [h9]; exact hSI' _ hIj.own))⟩
                case measure => simp [intOf]; omega
            by_cases k2 : kd = 2
            · subst k2
              have hfV : fits V 4 = true := by simpa [okB] using hxo
              have hdc : docB ⟨2, V, L, F, Bs⟩ = le V 4 := by simp [docB, u64_pos hV (fits_pos hfV)]
              rw [hdc] at hIj
              have HT := Lib.hid (took_le V 4 (docs (xs.drop (j + 1))))
              have HN2 := Lib.hid (numLe_fits hfV)
              clear hfV hdc hxo
              have A0 : Below wr.heap.size wr (wr.alloc (.cells #[.int .u8 2, .int .i64 V, .int .i64 L, .bool F, .slice ad Bs.length cc] 60)) := upd_box _
              have BA : Below w.heap.size w (wr.alloc (.cells #[.int .u8 2, .int .i64 V, .int .i64 L, .bool F, .slice ad Bs.length cc] 60)) := hBj.trans (A0.mono hBj.size)
              have hIA := hIj.below A0
              have hqs : wr.heap.size < (wr.alloc (.cells #[.int .u8 2, .int .i64 V, .int .i64 L, .bool F, .slice ad Bs.length cc] 60)).heap.size := by simp
              have hqv : (wr.alloc (.cells #[.int .u8 2, .int .i64 V, .int .i64 L, .bool F, .slice ad Bs.length cc] 60)).cell? ⟨wr.heap.size, 1, none⟩ = some (.int .i64 V) := by simp
              have hq0 : (wr.alloc (.cells #[.int .u8 2, .int .i64 V, .int .i64 L, .bool F, .slice ad Bs.length cc] 60)).cell? ⟨wr.heap.size, 0, none⟩ = some (.int .u8 2) := by simp
              go_wp2_with (refine wpList_load_cells rfl 60 _ rfl b (off + j * 5) rfl #[.int .u8 2, .int .i64 V, .int .i64 L, .bool F, .slice ad Bs.length cc] _ hcs Try.underlying60 rfl info_item ?_)
              have u0 := Upd.refl (fun k => k = p) (wr.alloc (.cells #[.int .u8 2, .int .i64 V, .int .i64 L, .bool F, .slice ad Bs.length cc] 60))
              generalize wr.alloc (.cells #[.int .u8 2, .int .i64 V, .int .i64 L, .bool F, .slice ad Bs.length cc] 60) = A at *
              go_region_held3 (fun w' => Upd (fun k => k = p) A w' ∧ w'.cell? ⟨wr.heap.size, 1, none⟩ = some (.int .i64 V))
                (refine ⟨?_, (Upd.cell (S := fun k => k = p) (p := ⟨wr.heap.size, 1, none⟩) ?_ hqs hqp).trans hqv⟩ <;> (first | assumption | exact Upd.drew (by assumption)))
                ((go_at_call 39; refine Calls.mono (in_u32_over hIA (v := V) (r := docs (xs.drop (j + 1))) (b := false) ?_ ?_ ?_) ?_; (rw [show took _ false 4 = _ from HT.out]; exact HN2.out); (rw [show took _ false 4 = _ from HT.out]); (first | exact (Below.refl _ _).drew | exact Below.refl _ _); rintro e w2 ⟨rfl, I2, u2⟩))
              all_goals
                go_wp2
                go_roundw
                case rel => exact ⟨j + 1, by omega, by go_num, I2, BA.trans (upd_below u2 BA.size (fun k hk => by have h9 : k = p := hk; rw [h9]; exact hSI' _ hIj.own))⟩
                case measure => simp [intOf]; omega
            by_cases k3 : kd = 3
            · subst k3
              have hdc : docB ⟨3, V, L, F, Bs⟩ = le (IntKind.u64.wrap L) 8 := by simp [docB]
              rw [hdc] at hIj
              have HT := Lib.hid (took_le (IntKind.u64.wrap L) 8 (docs (xs.drop (j + 1))))
              have HN2 := Lib.hid (i64_back hL)
              clear hdc hxo
              have A0 : Below wr.heap.size wr (wr.alloc (.cells #[.int .u8 3, .int .i64 V, .int .i64 L, .bool F, .slice ad Bs.length cc] 60)) := upd_box _
              have BA : Below w.heap.size w (wr.alloc (.cells #[.int .u8 3, .int .i64 V, .int .i64 L, .bool F, .slice ad Bs.length cc] 60)) := hBj.trans (A0.mono hBj.size)
              have hIA := hIj.below A0
              have hqs : wr.heap.size < (wr.alloc (.cells #[.int .u8 3, .int .i64 V, .int .i64 L, .bool F, .slice ad Bs.length cc] 60)).heap.size := by simp
              have hqv : (wr.alloc (.cells #[.int .u8 3, .int .i64 V, .int .i64 L, .bool F, .slice ad Bs.length cc] 60)).cell? ⟨wr.heap.size, 2, none⟩ = some (.int .i64 L) := by simp
              have hq0 : (wr.alloc (.cells #[.int .u8 3, .int .i64 V, .int .i64 L, .bool F, .slice ad Bs.length cc] 60)).cell? ⟨wr.heap.size, 0, none⟩ = some (.int .u8 3) := by simp
              go_wp2_with (refine wpList_load_cells rfl 60 _ rfl b (off + j * 5) rfl #[.int .u8 3, .int .i64 V, .int .i64 L, .bool F, .slice ad Bs.length cc] _ hcs Try.underlying60 rfl info_item ?_)
              have u0 := Upd.refl (fun k => k = p) (wr.alloc (.cells #[.int .u8 3, .int .i64 V, .int .i64 L, .bool F, .slice ad Bs.length cc] 60))
              generalize wr.alloc (.cells #[.int .u8 3, .int .i64 V, .int .i64 L, .bool F, .slice ad Bs.length cc] 60) = A at *
              go_region_held3 (fun w' => Upd (fun k => k = p) A w' ∧ w'.cell? ⟨wr.heap.size, 2, none⟩ = some (.int .i64 L))
                (refine ⟨?_, (Upd.cell (S := fun k => k = p) (p := ⟨wr.heap.size, 2, none⟩) ?_ hqs hqp).trans hqv⟩ <;> (first | assumption | exact Upd.drew (by assumption)))
                ((go_at_call 40; refine Calls.mono (in_i64_over hIA (v := L) (r := docs (xs.drop (j + 1))) (b := false) ?_ ?_ ?_) ?_; (rw [show took _ false 8 = _ from HT.out]; exact HN2.out); (rw [show took _ false 8 = _ from HT.out]); (first | exact (Below.refl _ _).drew | exact Below.refl _ _); rintro e w2 ⟨rfl, I2, u2⟩))
              all_goals
                go_wp2
                go_roundw
                case rel => exact ⟨j + 1, by omega, by go_num, I2, BA.trans (upd_below u2 BA.size (fun k hk => by have h9 : k = p := hk; rw [h9]; exact hSI' _ hIj.own))⟩
                case measure => simp [intOf]; omega
            by_cases k4 : kd = 4
            · subst k4
              have hdc : docB ⟨4, V, L, F, Bs⟩ = [if F then 1 else 0] := by simp [docB]
              rw [hdc] at hIj
              have HT := Lib.hid (flag_back F (docs (xs.drop (j + 1))))
              clear hdc hxo
              have A0 : Below wr.heap.size wr (wr.alloc (.cells #[.int .u8 4, .int .i64 V, .int .i64 L, .bool F, .slice ad Bs.length cc] 60)) := upd_box _
              have BA : Below w.heap.size w (wr.alloc (.cells #[.int .u8 4, .int .i64 V, .int .i64 L, .bool F, .slice ad Bs.length cc] 60)) := hBj.trans (A0.mono hBj.size)
              have hIA := hIj.below A0
              have hqs : wr.heap.size < (wr.alloc (.cells #[.int .u8 4, .int .i64 V, .int .i64 L, .bool F, .slice ad Bs.length cc] 60)).heap.size := by simp
              have hqv : (wr.alloc (.cells #[.int .u8 4, .int .i64 V, .int .i64 L, .bool F, .slice ad Bs.length cc] 60)).cell? ⟨wr.heap.size, 3, none⟩ = some (.bool F) := by simp
              have hq0 : (wr.alloc (.cells #[.int .u8 4, .int .i64 V, .int .i64 L, .bool F, .slice ad Bs.length cc] 60)).cell? ⟨wr.heap.size, 0, none⟩ = some (.int .u8 4) := by simp
              go_wp2_with (refine wpList_load_cells rfl 60 _ rfl b (off + j * 5) rfl #[.int .u8 4, .int .i64 V, .int .i64 L, .bool F, .slice ad Bs.length cc] _ hcs Try.underlying60 rfl info_item ?_)
              have u0 := Upd.refl (fun k => k = p) (wr.alloc (.cells #[.int .u8 4, .int .i64 V, .int .i64 L, .bool F, .slice ad Bs.length cc] 60))
              generalize wr.alloc (.cells #[.int .u8 4, .int .i64 V, .int .i64 L, .bool F, .slice ad Bs.length cc] 60) = A at *
              go_region_held3 (fun w' => Upd (fun k => k = p) A w' ∧ w'.cell? ⟨wr.heap.size, 3, none⟩ = some (.bool F))
                (refine ⟨?_, (Upd.cell (S := fun k => k = p) (p := ⟨wr.heap.size, 3, none⟩) ?_ hqs hqp).trans hqv⟩ <;> (first | assumption | exact Upd.drew (by assumption)))
                ((go_at_call 41; refine Calls.mono (in_flag_over hIA (v := F) (r := docs (xs.drop (j + 1))) (b := false) HT.out ?_) ?_; (first | exact (Below.refl _ _).drew | exact Below.refl _ _); rintro e w2 ⟨rfl, I2, u2⟩))
              all_goals
                go_wp2
                go_roundw
                case rel => exact ⟨j + 1, by omega, by go_num, I2, BA.trans (upd_below u2 BA.size (fun k hk => by have h9 : k = p := hk; rw [h9]; exact hSI' _ hIj.own))⟩
                case measure => simp [intOf]; omega
            have hrl : (docB ⟨kd, V, L, F, Bs⟩ ++ docs (xs.drop (j + 1))).length ≤ 140737488355328 := by
              rw [← hdr.out]
              have h1 := docs_append (xs.take j) (xs.drop j)
              rw [List.take_append_drop] at h1
              have h2 := docs_len xs xs.length
              rw [List.take_length] at h2
              rw [h1, List.length_append] at h2
              have := HN.out
              omega
            by_cases k5 : kd = 5
            · subst k5
              have hdc : docB ⟨5, V, L, F, Bs⟩ = le Bs.length 2 ++ Bs := by simp [docB]
              have h64 : Bs.length < 65536 := by simpa [okB] using hxo
              rw [hdc] at hIj hrl
              have HT := Lib.hid (bytes_back Bs (docs (xs.drop (j + 1))) h64)
              have HRL := Lib.hid hrl
              clear hdc hxo hrl
              have A0 : Below wr.heap.size wr (wr.alloc (.cells #[.int .u8 5, .int .i64 V, .int .i64 L, .bool F, .slice ad Bs.length cc] 60)) := upd_box _
              have BA : Below w.heap.size w (wr.alloc (.cells #[.int .u8 5, .int .i64 V, .int .i64 L, .bool F, .slice ad Bs.length cc] 60)) := hBj.trans (A0.mono hBj.size)
              have hIA := hIj.below A0
              have hqs : wr.heap.size < (wr.alloc (.cells #[.int .u8 5, .int .i64 V, .int .i64 L, .bool F, .slice ad Bs.length cc] 60)).heap.size := by simp
              have hqv : (wr.alloc (.cells #[.int .u8 5, .int .i64 V, .int .i64 L, .bool F, .slice ad Bs.length cc] 60)).cell? ⟨wr.heap.size, 4, none⟩ = some (.slice ad Bs.length cc) := by simp
              have hq0 : (wr.alloc (.cells #[.int .u8 5, .int .i64 V, .int .i64 L, .bool F, .slice ad Bs.length cc] 60)).cell? ⟨wr.heap.size, 0, none⟩ = some (.int .u8 5) := by simp
              have HBYA := Lib.hid (hby.upd (below_upd (fun _ => False) BA) (fun _ _ _ h => h))
              have HFA : Hid (Bs ≠ [] → ∀ x, ad = some x → ¬ (fun k => k = p) x.block) := fun h0 x e hp => by
                have h9 : x.block = p := hp
                have h1 := hSI' _ hIj.own
                rcases hby with h | ⟨b', o', e', hb', _⟩
                · exact h0 h
                · rw [e] at e'; injection e' with e'; subst e'; have : b' = p := h9; omega
              have hBm : Bs.length ≤ maxLen := by unfold maxLen; omega
              go_wp2_with (refine wpList_load_cells rfl 60 _ rfl b (off + j * 5) rfl #[.int .u8 5, .int .i64 V, .int .i64 L, .bool F, .slice ad Bs.length cc] _ hcs Try.underlying60 rfl info_item ?_)
              have u0 := Upd.refl (fun k => k = p) (wr.alloc (.cells #[.int .u8 5, .int .i64 V, .int .i64 L, .bool F, .slice ad Bs.length cc] 60))
              generalize wr.alloc (.cells #[.int .u8 5, .int .i64 V, .int .i64 L, .bool F, .slice ad Bs.length cc] 60) = A at *
              go_region_held3 (fun w' => Upd (fun k => k = p) A w' ∧ w'.cell? ⟨wr.heap.size, 4, none⟩ = some (.slice ad Bs.length cc))
                (refine ⟨?_, (Upd.cell (S := fun k => k = p) (p := ⟨wr.heap.size, 4, none⟩) ?_ hqs hqp).trans hqv⟩ <;> (first | assumption | exact Upd.drew (by assumption)))
                (first
                  | (go_at_call 42; refine Calls.mono (in_bytes_over hIA (v := Bs) (r := docs (xs.drop (j + 1))) (b := false) HT.out HRL.out ?_) ?_; (first | exact (Below.refl _ _).drew | exact Below.refl _ _); rintro e w2 ⟨⟨a2, m2, c2, rfl, hm2, hb2, hmm2⟩, I2, u2⟩)
                  | (go_at_call 26; refine Calls.mono (bytes_same u2 a2 ad m2 Bs.length c2 cc Bs hm2.out rfl hb2 (HBYA.out.upd u2 HFA.out) hmm2 hBm) ?_; rintro e w3 ⟨rfl, u3, b3⟩))
              all_goals
                go_wp2
                go_roundw
                case rel => exact ⟨j + 1, by omega, by go_num, I2.below b3, BA.trans (upd_below u3 BA.size (fun k hk => by have h9 : k = p := hk; rw [h9]; exact hSI' _ hIj.own))⟩
                case measure => simp [intOf]; omega
            have hdc : docB ⟨kd, V, L, F, Bs⟩ = Bs := by simp only [docB, k0, k1, k2, k3, k4, k5, if_false]
            rw [hdc] at hIj hrl
            have HT := Lib.hid (took_all Bs (docs (xs.drop (j + 1))))
            have HRL := Lib.hid hrl
            have b0 : (kd == 0) = false := by simpa using k0
            have b1' : (kd == 1) = false := by simpa using k1
            have b2' : (kd == 2) = false := by simpa using k2
            have b3' : (kd == 3) = false := by simpa using k3
            have b4' : (kd == 4) = false := by simpa using k4
            have b5' : (kd == 5) = false := by simpa using k5
            clear hdc hxo hrl k0 k1 k2 k3 k4 k5
            have A0 : Below wr.heap.size wr (wr.alloc (.cells #[.int .u8 kd, .int .i64 V, .int .i64 L, .bool F, .slice ad Bs.length cc] 60)) := upd_box _
            have BA : Below w.heap.size w (wr.alloc (.cells #[.int .u8 kd, .int .i64 V, .int .i64 L, .bool F, .slice ad Bs.length cc] 60)) := hBj.trans (A0.mono hBj.size)
            have hIA := hIj.below A0
            have hqs : wr.heap.size < (wr.alloc (.cells #[.int .u8 kd, .int .i64 V, .int .i64 L, .bool F, .slice ad Bs.length cc] 60)).heap.size := by simp
            have hqv : (wr.alloc (.cells #[.int .u8 kd, .int .i64 V, .int .i64 L, .bool F, .slice ad Bs.length cc] 60)).cell? ⟨wr.heap.size, 4, none⟩ = some (.slice ad Bs.length cc) := by simp
            have hq0 : (wr.alloc (.cells #[.int .u8 kd, .int .i64 V, .int .i64 L, .bool F, .slice ad Bs.length cc] 60)).cell? ⟨wr.heap.size, 0, none⟩ = some (.int .u8 kd) := by simp
            have HBYA := Lib.hid (hby.upd (below_upd (fun _ => False) BA) (fun _ _ _ h => h))
            have HFA : Hid (Bs ≠ [] → ∀ x, ad = some x → ¬ (fun k => k = p) x.block) := fun h0 x e hp => by
              have h9 : x.block = p := hp
              have h1 := hSI' _ hIj.own
              rcases hby with h | ⟨b', o', e', hb', _⟩
              · exact h0 h
              · rw [e] at e'; injection e' with e'; subst e'; have : b' = p := h9; omega
            have hBm : Bs.length ≤ maxLen := by unfold maxLen; omega
            go_wp2_with (refine wpList_load_cells rfl 60 _ rfl b (off + j * 5) rfl #[.int .u8 kd, .int .i64 V, .int .i64 L, .bool F, .slice ad Bs.length cc] _ hcs Try.underlying60 rfl info_item ?_)
            have u0 := Upd.refl (fun k => k = p) (wr.alloc (.cells #[.int .u8 kd, .int .i64 V, .int .i64 L, .bool F, .slice ad Bs.length cc] 60))
            generalize wr.alloc (.cells #[.int .u8 kd, .int .i64 V, .int .i64 L, .bool F, .slice ad Bs.length cc] 60) = A at *
            go_region_held3 (fun w' => Upd (fun k => k = p) A w' ∧ w'.cell? ⟨wr.heap.size, 4, none⟩ = some (.slice ad Bs.length cc))
              (refine ⟨?_, (Upd.cell (S := fun k => k = p) (p := ⟨wr.heap.size, 4, none⟩) ?_ hqs hqp).trans hqv⟩ <;> (first | assumption | exact Upd.drew (by assumption)))
              (first
                | (go_at_call 43; refine Calls.mono (in_plain_over hIA (Bs.length : Int) (v := Bs) (r := docs (xs.drop (j + 1))) (b := false) HT.out HRL.out ?_) ?_; (first | exact (Below.refl _ _).drew | exact Below.refl _ _); rintro e w2 ⟨⟨a2, m2, c2, rfl, hm2, hb2, hmm2⟩, I2, u2⟩)
                | (go_at_call 26; refine Calls.mono (bytes_same u2 a2 ad m2 Bs.length c2 cc Bs hm2.out rfl hb2 (HBYA.out.upd u2 HFA.out) hmm2 hBm) ?_; rintro e w3 ⟨rfl, u3, b3⟩))
            all_goals
              go_wp2
              go_roundw
              case rel => exact ⟨j + 1, by omega, by go_num, I2.below b3, BA.trans (upd_below u3 BA.size (fun k hk => by have h9 : k = p := hk; rw [h9]; exact hSI' _ hIj.own))⟩
              case measure => simp [intOf]; omega
          · obtain rfl : j = k := by omega
            rw [hdl.out] at hIj
            have e1 : docs [] = [] := rfl
            rw [e1] at hIj
            go_wp2_with fail
            refine (in_done hIj).mono ?_
            rintro e w4 ⟨rfl, rfl⟩
            have e2 : (!false && decide (([] : List UInt8).length = 0)) = true := rfl
            rw [e2]
            go_wp2_with fail
            refine (in_bad hIj).mono ?_
            rintro e w4 ⟨rfl, rfl⟩
            go_wp2_with fail
            refine (in_left hIj).mono ?_
            rintro e w4 ⟨rfl, rfl⟩
            have e3 : (([] : List UInt8).length : Int) = 0 := rfl
            rw [e3]
            go_wp2
            go_ret
            exact ⟨rfl, hBj⟩
      · subst hbad
        have e0 : endE true = 2 := rfl
        rw [e0]
        obtain rfl := ho.ok rfl
        have e1 : ([] : List UInt8).length = 0 := rfl
        rw [e1]
        clear hr ho
        go_wp2
        go_ret
        exact ⟨rfl, B2⟩
theorem back_contract (W : World) (args : Array Value) (h : Each Try.prog W Try.f8.params.toList args.toList) :
    Calls Try.prog 8 args W fun e W' => e = .returned (.bool true) ∧ Below W.heap.size W W' := by
  rw [Try.params8] at h
  obtain ⟨v, hv, ⟨base, hok⟩, hr⟩ := each_one h
  obtain ⟨args⟩ := args
  obtain rfl : args = [v] := hv
  obtain ⟨a, n, c, rfl, hc0⟩ := val_slice hok Try.underlying53
  rw [hc0] at hr
  obtain ⟨xs, hn, hx, hm⟩ := items_of hr
  by_cases hf : fewB xs = true
  · exact back_near a xs n c W hn hx hm hf
  · exact back_far a xs n c W hn hx hm (by simpa using hf)

theorem back_lifted (os : Os) (started : os.Started) (H : Type) (enc : TypeId × Value → H) :
    ReturnsInHanded {} Try.checked os 8 .any (Rows.codecBackSpec.pre6 enc Try.prog Try.f8 Rows.codecBackRow.domain false) (Rows.codecBackSpec.post enc Try.prog Try.f8 false true false false) :=
  law_lifted (C := Try.checked) codec_own codec_laidOut (by kernel_rfl) Try.func8 rfl (tb := 4) rfl Try.underlying4
    (by rw [Try.params8]; intro t ht; simp at ht; subst ht; exact ⟨by kernel_rfl, of_decide_eq_true (by kernel_rfl)⟩)
    (fun H ds hl => by
      rw [Try.params8] at hl
      match ds, hl with
      | [d], _ => rfl)
    os started H enc
    (ChangeSpec.witness6 (enc := enc) (C := Try.checked) false ⟨#[], #[.slice none 0 0], []⟩ 8 (by kernel_rfl) (by kernel_rfl) (by kernel_rfl) (by kernel_rfl))
    back_contract

theorem codecBack_holds : Rows.CodecBackSaid :=
  OpenClaim.holds_of_wide 8 Try.f8 rfl rfl rfl rfl rfl rfl rfl ⟨rfl, rfl, rfl, rfl, rfl⟩ rfl rfl rfl rfl rfl (by kernel_rfl) Try.func8 (by kernel_rfl)
    (of_decide_eq_true (by kernel_rfl)) (by unfold Func.isWrapper; first | (rw [if_pos (by decide +kernel)]; kernel_rfl) | (rw [if_neg (by decide +kernel)]; exact ⟨rfl, rfl⟩))
    (fun os started H enc _ => back_lifted os started H enc)
#print axioms codecBack_holds
end Go.Proofs.Ytljoalihioflmaa
