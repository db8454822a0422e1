/-
  FrameTorn: of frames of which one byte is changed those ahead of it are told as they were, and no sum takes the changed byte for none; tied to the program's text. No conditions: every input.
-/
import Derived.Test.YtdbngmnpfcdhdaaDoorFrameBack
import Derived.Test.YtdbngmnpfcdhdaaDoorBent
import Derived.Laws.OwnMore
namespace Go.Proofs.YtdbngmnpfcdhdaaDoor
open Go.RowKit Go.WideShapes
set_option maxRecDepth 100000

theorem bits_xor_u8 {a b : Nat} (ha : a < 2 ^ 8) (hb : b < 2 ^ 8) : bits .xor .u8 (a : Int) (b : Int) = ((a ^^^ b : Nat) : Int) := by
  have hk : IntKind.bits .u8 = 8 := rfl
  unfold bits
  rw [hk]
  simp only [BitVec.ofInt_natCast, BitVec.toNat_xor, BitVec.toNat_ofNat]
  rw [Nat.mod_eq_of_lt ha, Nat.mod_eq_of_lt hb]
  have hlt : a ^^^ b < 2 ^ 8 := Nat.xor_lt_two_pow ha hb
  simp [IntKind.wrap, IntKind.signed, hk]
  omega
/-- A byte of a row. -/
theorem row_at {w : World} {base : Nat} {e : TypeId} {a : Option Addr} {c m : Nat} {xs : List UInt8} (h : w.ownsRow base e 1 (.slice a m c) m (xs.map bval)) {k : Nat} (hk : k < xs.length) :
    ∃ g, a = some ⟨g, 0, none⟩ ∧ w.cell? ⟨g, k, none⟩ = some (.int .u8 (xs[k].toNat : Int)) ∧ w.frozen? ⟨g, k, none⟩ = false ∧ base ≤ g ∧ g < w.heap.size := by
  have h0 := h
  rcases h.2 with ⟨_, h2⟩ | ⟨g, cap, cur, hv, hb, hh, _, _, _, ht⟩
  · have := h.1
    simp at this
    omega
  · injection hv with e1 _ _
    subst e1
    refine ⟨g, rfl, ?_, h0.frozenAt k, hb, own_lt h0 rfl⟩
    rw [cell_of_row w g k cur _ (0, 0) hh]
    have h1 : (xs.map bval)[k]? = some (bval xs[k]) := by simp [List.getElem?_map, List.getElem?_eq_getElem hk]
    rw [← ht, List.getElem?_take] at h1
    split at h1
    · show cur[k]? = some (bval xs[k])
      simpa using h1
    · cases h1
/-- A byte with another one laid over it by exclusive or. -/
theorem xor_byte (b : UInt8) {d : Nat} (hd : d < 256) (h0 : 1 ≤ d) : ∃ c : UInt8, c ≠ b ∧ bits .xor .u8 (b.toNat : Int) (d : Int) = (c.toNat : Int) := by
  have hb : b.toNat < 2 ^ 8 := b.toNat_lt
  have hy : b.toNat ^^^ d < 2 ^ 8 := Nat.xor_lt_two_pow hb hd
  refine ⟨UInt8.ofNat (b.toNat ^^^ d), fun e => ?_, ?_⟩
  · have e1 : (UInt8.ofNat (b.toNat ^^^ d)).toNat = b.toNat := by rw [e]
    rw [UInt8.toNat_ofNat_of_lt' hy] at e1
    have e2 : b.toNat ^^^ d = b.toNat ^^^ 0 := by rw [e1, Nat.xor_zero]
    have := xor_cancel_left e2
    omega
  · rw [bits_xor_u8 hb hd, UInt8.toNat_ofNat_of_lt' hy]

theorem lists_over {a b : Option Addr} {n m ca cb : Nat} {L M : List (List UInt8)} {w w' : World} (hn : L.length = n) (hm : M.length = m) (ha : ListsAt w a L) (hb : ListsAt w b M) (hx : n ≤ maxLen) (hy : m ≤ maxLen) (he : L = M) (h : Below w.heap.size w w') :
    Calls Tryd.prog 16 #[.slice a n ca, .slice b m cb] w' fun e w2 => e = .returned (.bool true) ∧ Below w.heap.size w w2 := by
  refine (lists_any a b n m ca cb L M w' hn hm (ha.below h) (hb.below h) hx hy).mono ?_
  rintro e w2 ⟨hq, b2⟩
  exact ⟨by rw [hq, he]; simp, h.trans (b2.mono h.size)⟩
theorem rows_cap {w : World} {base n c : Nat} {a : Option Addr} {E : Nat → Prop} {L : List (List UInt8)} (h : RowsOf w base (.slice a n c) E L) : n ≤ c := by
  obtain ⟨vals, hr, _⟩ := h
  rcases hr.2 with ⟨hv, h2⟩ | ⟨g, cap, cur, hv, _, _, h3, _⟩
  · injection hv with e1 e2 e3
    omega
  · injection hv with e1 e2 e3
    omega

set_option maxHeartbeats 4000000 in
theorem torn_near (a : Option Addr) (L : List (List UInt8)) (n c at0 d : Nat) (w : World) (hH : HalvesAt w) (hL : L.length = n) (hl : ListsAt w a L) (hlc : n ≤ c) (hcm : c ≤ maxLen)
    (hat : at0 < 65536) (hd : d < 256) (h10 : n ≤ 10) (hd0 : 1 ≤ d) :
    Calls Tryd.prog 6 #[.slice a n c, .int .u16 (at0 : Int), .int .u8 (d : Int)] w fun e w' => e = .returned (.bool true) ∧ Below w.heap.size w w' := by
  have h10' : ¬ (10 : Int) < n := by omega
  have hd' : ((d : Int) == 0) = false := by rw [beq_eq_false_iff_ne]; omega
  have HH := Lib.hid hH
  have HL := Lib.hid hL
  clear hH hL
  go_enter Tryd.func6, Tryd.ntmps6
  go_wp2_with fail
  refine (frame_awake _ HH.out).mono ?_
  rintro e w1 ⟨rfl, b1⟩
  go_wp2_with fail
  go_loopw [7, 8, 9, 10, 11, 33] (fun v u _ _ _ i wr => ∃ k m : Nat, k ≤ n ∧ i = .int .i64 k ∧ Below w.heap.size w wr ∧ (catF (L.take k)).length = m ∧ wr.ownsRow w.heap.size 5 1 v m ((catF (L.take k)).map bval) ∧
    wr.ownsRow w.heap.size 3 1 u k ((places 0 (L.take k)).map ival) ∧ (∀ g, v.ownBlock = some g → u.ownBlock ≠ some g) ∧ Good (L.take k) ∧ (∀ x ∈ L.take k, x.length ≤ 2000)) (fun _ _ _ _ _ i _ => n - (intOf i).toNat)
  case atStart => exact ⟨0, 0, Nat.zero_le _, rfl, b1, rfl, World.ownsRow_nil _ _ _ _, World.ownsRow_nil _ _ _ _, fun g h => by simp [Value.ownBlock] at h, fun x h => by simp at h, fun x h => by simp at h⟩
  case round =>
    obtain ⟨k, m, hk, rfl, bR, hm, hr, hu, hvu, hG, hS⟩ := hrel
    have HR := Lib.hid hr
    have HU := Lib.hid hu
    have HVU := Lib.hid hvu
    have HG := Lib.hid hG
    have HS := Lib.hid hS
    have HM := Lib.hid hm
    obtain ⟨av, cv, rfl⟩ := own_slice hr
    obtain ⟨au, cu, rfl⟩ := own_slice hu
    have hmb : m ≤ 20070 := by
      have h := catF_bound (b := 2000) hS
      have h2 : (L.take k).length ≤ 10 := by rw [List.length_take]; omega
      have h3 : (L.take k).length * (7 + 2000) ≤ 10 * (7 + 2000) := Nat.mul_le_mul_right _ h2
      omega
    clear hr hu hvu hG hS hm
    by_cases hlt : k < n
    · have hk0 : (0 : Int) ≤ (k : Int) := by omega
      have hkn : (k : Int) < (n : Int) := by omega
      have hkL : k < L.length := by rw [HL.out]; exact hlt
      obtain ⟨b, off, rfl, hb, hi⟩ : ∃ b off, a = some ⟨b, off, none⟩ ∧ b < wr.heap.size ∧ ∃ ad cx, wr.cell? ⟨b, off + k, none⟩ = some (.slice ad L[k].length cx) ∧ IsBytes wr ad L[k] ∧ (ad = none → cx = 0) := by
        rcases hl.below bR with h | ⟨b, off, h2, h3, h4⟩
        · rw [h] at hkL; simp at hkL
        · obtain ⟨ad, cx, h5, h6, _, _, h7⟩ := h4 k hkL
          exact ⟨b, off, h2, h3, ad, cx, h5, h6, h7⟩
      obtain ⟨ad, cx, hck, hby, hnx⟩ := hi
      obtain ⟨x, hxe⟩ : ∃ x, L[k] = x := ⟨_, rfl⟩
      rw [hxe] at hck hby
      obtain ⟨mx, hmx⟩ : ∃ mx, x.length = mx := ⟨_, rfl⟩
      rw [hmx] at hck
      have HXE := Lib.hid hxe
      have HMX := Lib.hid hmx
      clear hxe hmx
      by_cases h2k : 2000 < mx
      · have h2k' : (2000 : Int) < mx := by omega
        go_wp2
        go_ret
        exact ⟨rfl, bR⟩
      · have h2k' : ¬ (2000 : Int) < mx := by omega
        go_wp2_with fail
        refine (code_frame ad x mx cx wr (HH.out.below bR) HMX.out hby hnx).mono ?_
        rintro e w2 ⟨af, mf, cf, er, rfl, hmf, hbad, hok, b2⟩
        have bR2 := bR.trans (b2.mono bR.size)
        have hck2 : w2.cell? ⟨b, off + k, none⟩ = some (.slice ad mx cx) := (b2.cell (p := ⟨b, off + k, none⟩) hb).trans hck
        rw [HMX.out] at hbad hok
        by_cases hq : mx < 1
        · obtain ⟨rfl, rfl⟩ := hbad (.inl hq)
          have hq1' : ((mx : Int) == 0) = true := by rw [beq_iff_eq]; omega
          clear hbad hok hq
          go_wp2
          go_ret
          exact ⟨by first | rfl | simp [hq1'], bR2⟩
        · obtain ⟨rfl, rfl, hyf, hrf⟩ := hok (by omega)
          have HQ := Lib.hid hq
          clear hbad hok hq hck
          have hfl : Hid ((frameOf x).length = 7 + mx) := by show (frameOf x).length = 7 + mx; rw [frameOf_len, HMX.out]
          have hcf : Hid (af = none → cf = 0) := (bytes_of_row hrf).2.2.2.2
          have hr2 := Lib.hid (ownsRow_upd (S := fun _ => False) HR.out (below_upd _ b2) (fun _ _ h => h))
          have hu2 := Lib.hid (ownsRow_upd (S := fun _ => False) HU.out (below_upd _ b2) (fun _ _ h => h))
          have hHF := Lib.hid hrf
          clear hrf
          have hku : k + 1 ≤ maxLen := by have : 11 ≤ maxLen := by decide
                                          omega
          have hku8 : (k + 1) * 8 ≤ 140737488355328 := by omega
          go_wp2_with (first
            | (at_builtin; refine wpList_append_bytes rfl _ _ 22 rfl w.heap.size 5 Tryd.underlying22 u8_info (.slice av m cv) m _ rfl hr2.out af (frameOf x) (7 + mx) hfl.out cf rfl hyf hcf.out (by omega) bR2.size ?_; intro a3 c3 w3 hr3 hg3 hn3; have HR3 := Lib.hid hr3; have HG3 := Lib.hid hg3; have HN3 := Lib.hid hn3; have hs3 := Nat.le_trans bR2.size hg3.size; have HU3 := Lib.hid (ownsRow_upd (S := fun g => (Value.slice av m cv).ownBlock = some g) hu2.out ((Upd.refl _ _).grown hg3 (fun j hj => .inl hj)) (fun g hg hv => HVU.out g hv hg)); have HU4 := Lib.hid (ownsRow_upd (S := fun _ => False) HU3.out ((Upd.refl _ _).alloc (.cells #[.int .i64 ((m : Int) + (7 + (mx : Int)))] 3)) (fun _ _ h => h)); have x4 : (w3.alloc (.cells #[.int .i64 ((m : Int) + (7 + (mx : Int)))] 3)).cell? ⟨w3.heap.size, 0, none⟩ = some (.int .i64 ((m : Int) + (7 + (mx : Int)))) := by simp
               have z4 : w.heap.size ≤ (w3.alloc (.cells #[.int .i64 ((m : Int) + (7 + (mx : Int)))] 3)).heap.size := by simp; omega
               clear hr3 hg3 hn3)
            | (at_builtin; refine wpList_append_elem rfl _ _ 33 rfl w.heap.size 3 (.int .i64 0) 8 Tryd.underlying33 int_info rfl (.slice au k cu) k _ rfl HU4.out (.int .i64 ((m : Int) + (7 + (mx : Int)))) rfl ⟨w3.heap.size, 0, none⟩ 1 rfl x4 (k + 1) rfl hku hku8 z4 ?_; intro a5 c5 w5 hr5 hg5 hn5; have HR5 := Lib.hid hr5; have HG5 := Lib.hid hg5; have HN5 := Lib.hid hn5; clear hr5 hg5 hn5))
          go_roundw
          case rel =>
            have bg : Below w.heap.size w w3 := bR2.grown HG3.out bR2.size (fun j hj => own_ge HR.out hj)
            have hva : ∀ g, (Value.slice a3 (m + (7 + mx)) c3).ownBlock = some g → ¬ (Value.slice au k cu).ownBlock = some g := fun g hg hug => by
              rcases HN3.out g hg with h | h
              · exact HVU.out g h hug
              · have := own_lt hu2.out hug; omega
            have hlen : endOf 0 (L.take k) = m := by rw [← catF_len, Nat.zero_add]; exact HM.out
            refine ⟨k + 1, m + (7 + mx), by omega, by go_num, (bg.alloc bg.size _).grown HG5.out z4 (fun j hj => own_ge HU4.out hj), ?_, ?_, ?_, ?_, HG.out.take hkL (by rw [HXE.out, HMX.out]; have := HQ.out; omega) (by rw [HXE.out, HMX.out]; omega), ?_⟩
            · rw [List.take_succ_eq_append_getElem hkL, catF_snoc, List.length_append, HM.out, HXE.out, hfl.out]
            · rw [List.take_succ_eq_append_getElem hkL, catF_snoc, HXE.out]
              exact ownsRow_upd (S := fun g => (Value.slice au k cu).ownBlock = some g) HR3.out (((Upd.refl _ _).alloc _).grown HG5.out (fun j hj => .inl hj)) hva
            · rw [List.take_succ_eq_append_getElem hkL, HXE.out, places_snoc, List.map_append, hlen, HMX.out]
              have e : ival (m + 7 + mx) = .int .i64 ((m : Int) + (7 + (mx : Int))) := by
                unfold ival; congr 1; omega
              simp only [List.map_cons, List.map_nil, e]
              exact HR5.out
            · intro g hg hug
              rcases HN5.out g hug with h | h
              · exact hva g hg h
              · have := own_lt HR3.out hg
                simp at h; omega
            · intro y hy
              rw [List.take_succ_eq_append_getElem hkL, HXE.out] at hy
              rcases List.mem_append.1 hy with hy | hy
              · exact HS.out y hy
              · rw [List.mem_singleton.1 hy, HMX.out]; omega
          case measure => simp [intOf]; omega
    · obtain rfl : k = n := by omega
      have hLk : L.take k = L := List.take_of_length_le (by rw [HL.out]; exact Nat.le_refl _)
      rw [hLk] at HR HU HG HS HM
      clear hLk
      by_cases hm0 : m = 0
      · subst hm0
        go_wp2
        go_ret
        exact ⟨rfl, bR⟩
      · have hm0' : ((m : Int) == 0) = false := by rw [beq_eq_false_iff_ne]; omega
        obtain ⟨k1, hk1⟩ : ∃ k1, at0 % m = k1 := ⟨_, rfl⟩
        have hk1i : (at0 : Int) % (m : Int) = (k1 : Int) := by rw [← hk1]; rfl
        have hk1m : k1 < m := by rw [← hk1]; exact Nat.mod_lt _ (by omega)
        obtain ⟨i0, -, -, -, i4⟩ := bytes_of_row HR.out
        have HI4 := Lib.hid i4
        have A2 : Below wr.heap.size wr (wr.alloc (.cells #[] 5)) := upd_box _
        have o2 := own_empty wr
        have i02 := i0.below A2
        have z2 : wr.heap.size ≤ (wr.alloc (.cells #[] 5)).heap.size := by simp
        clear hk1 i4
        go_wp2_with (at_builtin; refine wpList_append_own1 rfl _ _ 22 rfl wr.heap.size 5 Tryd.underlying22 u8_info (.slice (some ⟨wr.heap.size, 0, none⟩) 0 0) 0 [] rfl o2 av (catF L) m HM.out cv rfl i02 HI4.out m (by omega) (by omega) z2 ?_; intro a3 c3 w3 hr3 hb3 hn3 hu3; have B3 : Below wr.heap.size wr w3 := A2.trans hb3; rw [List.nil_append] at hr3; obtain ⟨g, rfl, q3, f3, hg3, hgs⟩ := row_at hr3 (k := k1) (by rw [HM.out]; exact hk1m); have HR3 := Lib.hid hr3; clear hr3 hn3 hu3 hb3)
        obtain ⟨y, hyc, hyx⟩ := xor_byte ((catF L)[k1]'(by rw [HM.out]; exact hk1m)) hd hd0
        rw [hyx]
        have hst := (HR3.out.stored k1 (.int .u8 (y.toNat : Int))).1
        have b4 : Below wr.heap.size wr (w3.setCell ⟨g, k1, none⟩ (.int .u8 (y.toNat : Int))) := B3.setCell hg3 _
        have e4 : ((catF L).map bval).set k1 (.int .u8 (y.toNat : Int)) = ((catF L).set k1 y).map bval := by rw [List.map_set]; rfl
        rw [e4] at hst
        have HBE := Lib.hid hyc
        generalize w3.setCell ⟨g, k1, none⟩ (.int .u8 (y.toNat : Int)) = w4 at hst b4 ⊢
        clear e4 hyc hyx q3 f3 HR3 B3 A2 o2 i02 z2 HI4 i0 hgs hg3
        have B4 := bR.trans (b4.mono bR.size)
        obtain ⟨i4, hm4, i5, i6, -⟩ := bytes_of_row hst
        have HM4 := Lib.hid hm4.symm
        clear hm4 hst
        have hnn : (some (⟨g, 0, none⟩ : Addr)) = none → c3 = 0 := fun h => by cases h
        refine (told_all (some ⟨g, 0, none⟩) ((catF L).set k1 y) m c3 w4 (HH.out.below B4) HM4.out i4 hnn (by omega)).mono ?_
        rintro e w5 ⟨⟨a1, c1, a2, c2, E, rfl, hr1, hr2⟩, b5⟩
        have B5 := B4.trans (b5.mono B4.size)
        have L1 := Lib.hid hr1.lists
        have R2 := Lib.hid hr2
        have hpc1 := rows_cap hr1
        clear hr1 hr2
        obtain ⟨p, hp⟩ : ∃ p, (frames ((catF L).set k1 y)).length = p := ⟨_, rfl⟩
        have HP := Lib.hid hp
        rw [hp] at hpc1 ⊢
        clear hp
        have hk0 : 0 < k := by
          rcases Nat.eq_zero_or_pos k with e | e
          · have h1 := HM.out
            have h2 := HL.out
            rw [e] at h2
            rw [List.length_eq_zero_iff.1 h2] at h1
            exact absurd h1.symm hm0
          · exact e
        have hen : Hid (endOf 0 L = m) := by show endOf 0 L = m; rw [← catF_len, Nat.zero_add]; exact HM.out
        go_wp2_with fail
        go_loopw [16] (fun i wl => ∃ N : Nat, N < k ∧ i = .int .i64 N ∧ Below w5.heap.size w5 wl ∧ endOf 0 (L.take N) ≤ k1) (fun i _ => k - (intOf i).toNat)
        case atStart => exact ⟨0, hk0, rfl, Below.refl _ _, Nat.zero_le _⟩
        case round =>
          obtain ⟨N, hN, rfl, bL, hlo⟩ := hrel
          have HLO := Lib.hid hlo
          have bW := b4.trans ((b5.trans (bL.mono b5.size)).mono b4.size)
          have hNL : N < L.length := by rw [HL.out]; exact hN
          obtain ⟨z, hz⟩ : ∃ z, endOf 0 (L.take (N + 1)) = z := ⟨_, rfl⟩
          have hpz := places_at 0 L hNL
          rw [hz] at hpz
          obtain ⟨g2, rfl, q2, hg2⟩ := place_is (ownsRow_upd (S := fun _ => False) HU.out (below_upd _ bW) (fun _ _ h => h)) hpz
          have HZ := Lib.hid hz
          have hN0 : (0 : Int) ≤ (N : Int) := by omega
          have hNk : (N : Int) < (k : Int) := by omega
          clear hlo hz hpz
          by_cases hzk : z ≤ k1
          · have hzk' : (z : Int) ≤ (k1 : Int) := by omega
            go_wp2
            go_roundw
            case rel =>
              refine ⟨N + 1, ?_, by go_num, bL, by rw [HZ.out]; exact hzk⟩
              rcases Nat.lt_or_ge (N + 1) k with h | h
              · exact h
              · have h1 := HZ.out
                rw [List.take_of_length_le (by rw [HL.out]; exact h), hen.out] at h1
                omega
            case measure => simp [intOf]; omega
          · have hzk' : ¬ (z : Int) ≤ (k1 : Int) := by omega
            have hdr := frames_told HG.out hNL y HLO.out (by rw [HZ.out]; omega) (by rw [HM.out]; exact hk1m) HBE.out
            obtain ⟨hp1, hp2, hp3⟩ := hdr
            rw [HP.out] at hp1 hp3
            have HP2 := Lib.hid hp2
            have HP3 := Lib.hid hp3
            have i4R := i4.below (b5.trans (bL.mono b5.size))
            have BL := B5.trans (bL.mono B5.size)
            have L1R := Lib.hid (L1.out.below bL)
            have hr2 := R2.out
            rw [HP.out] at hr2
            have R2R := Lib.hid (ownsRow_upd (S := fun _ => False) hr2 (below_upd _ bL) (fun _ _ h => h))
            clear hp2 hp3 hr2
            go_wp2_with fail
            refine (frames_ref (some ⟨g, 0, none⟩) ((catF L).set k1 y) m c3 wr HM4.out i4R i5 i6 hnn (by omega)).mono ?_
            rintro e w6 ⟨v6, u6', rfl, hfr⟩
            obtain ⟨b6, E6, hv6, hu6⟩ := hfr.all
            obtain ⟨a6, c6, rfl⟩ := hv6.slice
            rw [HP.out] at hv6 ⊢
            have L6 := Lib.hid hv6.lists
            have B6 := BL.trans (b6.mono BL.size)
            have hpm : p ≤ maxLen := by
              have h1 := frames_count ((catF L).set k1 y)
              have : 20070 ≤ maxLen := by decide
              have := HP.out
              have := HM4.out
              omega
            clear hfr hv6 hu6
            have hNp : (N : Int) ≤ (p : Int) := by omega
            have hNc1 : (N : Int) ≤ (c1 : Int) := by omega
            have hNc : (N : Int) ≤ (c : Int) := by omega
            have hNm : N ≤ maxLen := by omega
            have hkN : (L.take N).length = N := by rw [List.length_take]; omega
            have LA := Lib.hid ((hl.below B6).take N)
            have LB := Lib.hid ((L1R.out.below b6).take N)
            have LC := Lib.hid (L1R.out.below b6)
            generalize hTT : L.take N = T at *
            have HKN := Lib.hid hkN
            generalize hFF : frames ((catF L).set k1 y) = F at *
            have hkF : (F.take N).length = N := by rw [HP2.out]; exact hkN
            have HKF := Lib.hid hkF
            generalize hGG : F.take N = G at *
            clear hkN hkF hFF hGG hTT
            by_cases hpN : p = N
            · subst hpN
              have hpp : ((p : Int) == (p : Int)) = true := by simp
              have b0 := Below.refl w6.heap.size w6
              clear HP3 L1 L1R R2R R2 HU HVU HR i4R i4 HBE HM4 q2
              have HC1 := Lib.hid (fun (w' : World) (h : Below w6.heap.size w6 w') => lists_over (ca := c1) (cb := c) HKF.out HKN.out LB.out LA.out hNm hNm HP2.out h)
              have HC2 := Lib.hid (fun (w' : World) (h : Below w6.heap.size w6 w') => lists_over (ca := c1) (cb := c6) HP.out HP.out LC.out L6.out hpm hpm rfl h)
              clear LA LB LC L6 HKF HKN HP HP2 HZ HLO HS HG hl HH
              go_wp2_with fail
              refine wp_region_noPanic ?_
              refine wp_region_held_drew (S := fun w' => Below w6.heap.size w6 w') (by kernel_rfl) (Below.refl _ _).drew (fun hHeld => ?_)
              refine wpAnyH_take (i := 0) (oi := _) (v := ?_) rfl (by kernel_rfl) (by kernel_rfl) (by kernel_rfl) (fun _ _ _ h => h) (Or.inl ⟨by rfl, ?_⟩) (by assumption) ?_
              rotate_left
              · intro w hSw
                go_simp
                try with_reducible rfl
              simp only [Act.put, List.setIfInBounds_toArray, List.set_cons_zero, List.set_cons_succ, List.getElem_toArray, List.getElem_cons_zero]
              refine wpAnyH_take (i := 1) (oi := _) (v := ?_) rfl (by kernel_rfl) (by kernel_rfl) (by kernel_rfl) (fun _ _ _ h => h) (Or.inl ⟨by rfl, ?_⟩) (by assumption) ?_
              rotate_left
              · intro w hSw
                go_simp
                try with_reducible rfl
              simp only [Act.put, List.setIfInBounds_toArray, List.set_cons_zero, List.set_cons_succ, List.getElem_toArray, List.getElem_cons_zero, List.getElem_cons_succ]
              refine wpAnyH_take (i := 2) (oi := _) (v := ?_) rfl (by kernel_rfl) (by kernel_rfl) (by kernel_rfl) (fun _ _ _ h => h) (Or.inl ⟨by rfl, ?_⟩) (by assumption) ?_
              rotate_left
              · intro w hSw
                go_simp
                try with_reducible rfl
              simp only [Act.put, List.setIfInBounds_toArray, List.set_cons_zero, List.set_cons_succ, List.getElem_toArray, List.getElem_cons_zero, List.getElem_cons_succ]
              refine wpAnyH_take (i := 3) (oi := _) (v := ?_) rfl (by kernel_rfl) (by kernel_rfl) (by kernel_rfl) (fun _ _ _ h => h) (Or.inl ⟨by rfl, ?_⟩) (by assumption) ?_
              rotate_left
              · intro w hSw
                go_simp
                try with_reducible rfl
              simp only [Act.put, List.setIfInBounds_toArray, List.set_cons_zero, List.set_cons_succ, List.getElem_toArray, List.getElem_cons_zero, List.getElem_cons_succ]
              refine wpAnyH_take (i := 4) (oi := _) (v := ?_) rfl (by kernel_rfl) (by kernel_rfl) (by kernel_rfl) (fun _ _ _ h => h) (Or.inl ⟨by rfl, ?_⟩) (by assumption) ?_
              rotate_left
              · intro w hSw
                go_simp
                try with_reducible rfl
              simp only [Act.put, List.setIfInBounds_toArray, List.set_cons_zero, List.set_cons_succ, List.getElem_toArray, List.getElem_cons_zero, List.getElem_cons_succ]
              refine wpAnyH_take (i := 5) (oi := _) (v := ?_) rfl (by kernel_rfl) (by kernel_rfl) (by kernel_rfl) (fun _ _ _ h => h) (Or.inl ⟨by rfl, ?_⟩) (by assumption) ?_
              rotate_left
              · intro w hSw
                go_simp
                try with_reducible rfl
              simp only [Act.put, List.setIfInBounds_toArray, List.set_cons_zero, List.set_cons_succ, List.getElem_toArray, List.getElem_cons_zero, List.getElem_cons_succ]
              refine wpAnyH_take (i := 6) (oi := _) (v := ?_) rfl (by kernel_rfl) (by kernel_rfl) (by kernel_rfl) (fun _ _ _ h => h) (Or.inl ⟨by rfl, ?_⟩) (by assumption) ?_
              rotate_left
              · intro w hSw
                go_simp
                try with_reducible rfl
              simp only [Act.put, List.setIfInBounds_toArray, List.set_cons_zero, List.set_cons_succ, List.getElem_toArray, List.getElem_cons_zero, List.getElem_cons_succ]
              refine wpAnyH_take (i := 7) (oi := _) (v := ?_) rfl (by kernel_rfl) (by kernel_rfl) (by kernel_rfl) (fun _ _ _ h => h) (Or.inl ⟨by rfl, ?_⟩) (by assumption) ?_
              rotate_left
              · intro w hSw
                go_simp
                try with_reducible rfl
              simp only [Act.put, List.setIfInBounds_toArray, List.set_cons_zero, List.set_cons_succ, List.getElem_toArray, List.getElem_cons_zero, List.getElem_cons_succ]
              refine wpAnyH_take (i := 8) (oi := _) (v := ?_) rfl (by kernel_rfl) (by kernel_rfl) (by kernel_rfl) (fun _ _ _ h => h) (Or.inl ⟨by rfl, ?_⟩) (by assumption) ?_
              rotate_left
              · intro w hSw
                go_simp
                try with_reducible rfl
              simp only [Act.put, List.setIfInBounds_toArray, List.set_cons_zero, List.set_cons_succ, List.getElem_toArray, List.getElem_cons_zero, List.getElem_cons_succ]
              refine wpAnyH_take (i := 9) (oi := _) (v := ?_) rfl (by kernel_rfl) (by kernel_rfl) (by kernel_rfl) (fun _ _ _ h => h) (Or.inl ⟨by rfl, ?_⟩) (by assumption) ?_
              rotate_left
              · intro w hSw
                go_simp
                try with_reducible rfl
              simp only [Act.put, List.setIfInBounds_toArray, List.set_cons_zero, List.set_cons_succ, List.getElem_toArray, List.getElem_cons_zero, List.getElem_cons_succ]
              refine wpAnyH_take (i := 10) (oi := _) (v := ?_) rfl (by kernel_rfl) (by kernel_rfl) (by kernel_rfl) (fun _ _ _ h => h) (Or.inl ⟨by rfl, ?_⟩) (by assumption) ?_
              rotate_left
              · intro w hSw
                go_simp
                try with_reducible rfl
              simp only [Act.put, List.setIfInBounds_toArray, List.set_cons_zero, List.set_cons_succ, List.getElem_toArray, List.getElem_cons_zero, List.getElem_cons_succ]
              refine wpAnyH_ready (rs := [11]) (by kernel_rfl) (by simp) ?_
              refine AllReadyH.cons (i := 11) (o := _) rfl (fun K hK => ?_) AllReadyH.nil
              go_simp
              with_reducible refine Calls.mono (HC1.out _ ?_) ?_
              · first | exact (Below.refl _ _).drew | assumption | exact Below.drew (by assumption)
              rintro e w8 ⟨rfl, b8⟩
              go_wp2_with fail
              refine hK.out _ _ ?_ (fun hHeld => ?_)
              · first | assumption | exact Below.drew (by assumption)
              clear hK K
              refine wpAnyH_take (i := 12) (oi := _) (v := ?_) rfl (by kernel_rfl) (by kernel_rfl) (by kernel_rfl) (fun _ _ _ h => h) (Or.inl ⟨by rfl, ?_⟩) (by assumption) ?_
              rotate_left
              · intro w hSw
                go_simp
                try with_reducible rfl
              simp only [Act.put, List.setIfInBounds_toArray, List.set_cons_zero, List.set_cons_succ, List.getElem_toArray, List.getElem_cons_zero, List.getElem_cons_succ]
              refine wpAnyH_take (i := 13) (oi := _) (v := ?_) rfl (by kernel_rfl) (by kernel_rfl) (by kernel_rfl) (fun _ _ _ h => h) (Or.inl ⟨by rfl, ?_⟩) (by assumption) ?_
              rotate_left
              · intro w hSw
                go_simp
                try with_reducible rfl
              simp only [Act.put, List.setIfInBounds_toArray, List.set_cons_zero, List.set_cons_succ, List.getElem_toArray, List.getElem_cons_zero, List.getElem_cons_succ]
              refine wpAnyH_take (i := 14) (oi := _) (v := ?_) rfl (by kernel_rfl) (by kernel_rfl) (by kernel_rfl) (fun _ _ _ h => h) (Or.inl ⟨by rfl, ?_⟩) (by assumption) ?_
              rotate_left
              · intro w hSw
                go_simp
                try with_reducible rfl
              simp only [Act.put, List.setIfInBounds_toArray, List.set_cons_zero, List.set_cons_succ, List.getElem_toArray, List.getElem_cons_zero, List.getElem_cons_succ]
              refine wpAnyH_take (i := 15) (oi := _) (v := ?_) rfl (by kernel_rfl) (by kernel_rfl) (by kernel_rfl) (fun _ _ _ h => h) (Or.inl ⟨by rfl, ?_⟩) (by assumption) ?_
              rotate_left
              · intro w hSw
                go_simp
                try with_reducible rfl
              simp only [Act.put, List.setIfInBounds_toArray, List.set_cons_zero, List.set_cons_succ, List.getElem_toArray, List.getElem_cons_zero, List.getElem_cons_succ]
              refine wpAnyH_ready (rs := [16]) (by kernel_rfl) (by simp) ?_
              refine AllReadyH.cons (i := 16) (o := _) rfl (fun K hK => ?_) AllReadyH.nil
              go_simp
              with_reducible refine Calls.mono (HC2.out _ ?_) ?_
              · first | exact (Below.refl _ _).drew | assumption | exact Below.drew (by assumption)
              rintro e w8 ⟨rfl, b9⟩
              go_wp2_with fail
              refine hK.out _ _ ?_ (fun hHeld => ?_)
              · first | assumption | exact Below.drew (by assumption)
              clear hK K
              refine wpAnyH_take (i := 17) (oi := _) (v := ?_) rfl (by kernel_rfl) (by kernel_rfl) (by kernel_rfl) (fun _ _ _ h => h) (Or.inl ⟨by rfl, ?_⟩) (by assumption) ?_
              rotate_left
              · intro w hSw
                go_simp
                try with_reducible rfl
              simp only [Act.put, List.setIfInBounds_toArray, List.set_cons_zero, List.set_cons_succ, List.getElem_toArray, List.getElem_cons_zero, List.getElem_cons_succ]
              refine wpAnyH_take (i := 18) (oi := _) (v := ?_) rfl (by kernel_rfl) (by kernel_rfl) (by kernel_rfl) (fun _ _ _ h => h) (Or.inl ⟨by rfl, ?_⟩) (by assumption) ?_
              rotate_left
              · intro w hSw
                go_simp
                try with_reducible rfl
              simp only [Act.put, List.setIfInBounds_toArray, List.set_cons_zero, List.set_cons_succ, List.getElem_toArray, List.getElem_cons_zero, List.getElem_cons_succ]
              refine wpAnyH_take (i := 19) (oi := _) (v := ?_) rfl (by kernel_rfl) (by kernel_rfl) (by kernel_rfl) (fun _ _ _ h => h) (Or.inl ⟨by rfl, ?_⟩) (by assumption) ?_
              rotate_left
              · intro w hSw
                go_simp
                try with_reducible rfl
              simp only [Act.put, List.setIfInBounds_toArray, List.set_cons_zero, List.set_cons_succ, List.getElem_toArray, List.getElem_cons_zero, List.getElem_cons_succ]
              refine wpAnyH_take (i := 20) (oi := _) (v := ?_) rfl (by kernel_rfl) (by kernel_rfl) (by kernel_rfl) (fun _ _ _ h => h) (Or.inl ⟨by rfl, ?_⟩) (by assumption) ?_
              rotate_left
              · intro w hSw
                go_simp
                try with_reducible rfl
              simp only [Act.put, List.setIfInBounds_toArray, List.set_cons_zero, List.set_cons_succ, List.getElem_toArray, List.getElem_cons_zero, List.getElem_cons_succ]
              refine wpAnyH_take (i := 21) (oi := _) (v := ?_) rfl (by kernel_rfl) (by kernel_rfl) (by kernel_rfl) (fun _ _ _ h => h) (Or.inl ⟨by rfl, ?_⟩) (by assumption) ?_
              rotate_left
              · intro w hSw
                go_simp
                try with_reducible rfl
              simp only [Act.put, List.setIfInBounds_toArray, List.set_cons_zero, List.set_cons_succ, List.getElem_toArray, List.getElem_cons_zero, List.getElem_cons_succ]
              refine wpAnyH_take (i := 22) (oi := _) (v := ?_) rfl (by kernel_rfl) (by kernel_rfl) (by kernel_rfl) (fun _ _ _ h => h) (Or.inl ⟨by rfl, ?_⟩) (by assumption) ?_
              rotate_left
              · intro w hSw
                go_simp
                try with_reducible rfl
              simp only [Act.put, List.setIfInBounds_toArray, List.set_cons_zero, List.set_cons_succ, List.getElem_toArray, List.getElem_cons_zero, List.getElem_cons_succ]
              refine wpAnyH_take (i := 23) (oi := _) (v := ?_) rfl (by kernel_rfl) (by kernel_rfl) (by kernel_rfl) (fun _ _ _ h => h) (Or.inl ⟨by rfl, ?_⟩) (by assumption) ?_
              rotate_left
              · intro w hSw
                go_simp
                try with_reducible rfl
              simp only [Act.put, List.setIfInBounds_toArray, List.set_cons_zero, List.set_cons_succ, List.getElem_toArray, List.getElem_cons_zero, List.getElem_cons_succ]
              refine wpAnyH_take (i := 24) (oi := _) (v := undef) rfl (by kernel_rfl) (by kernel_rfl) (by kernel_rfl) (fun _ _ _ h => h) (Or.inr ⟨by rfl, rfl⟩) (by assumption) ?_
              simp only [Act.put, List.setIfInBounds_toArray, List.set_cons_zero, List.set_cons_succ, List.getElem_toArray, List.getElem_cons_zero, List.getElem_cons_succ]
              refine wpAnyH_take (i := 25) (oi := _) (v := undef) rfl (by kernel_rfl) (by kernel_rfl) (by kernel_rfl) (fun _ _ _ h => h) (Or.inr ⟨by rfl, rfl⟩) (by assumption) ?_
              simp only [Act.put, List.setIfInBounds_toArray, List.set_cons_zero, List.set_cons_succ, List.getElem_toArray, List.getElem_cons_zero, List.getElem_cons_succ]
              refine wpAnyH_take (i := 28) (oi := _) (v := undef) rfl (by kernel_rfl) (by kernel_rfl) (by kernel_rfl) (fun _ _ _ h => h) (Or.inr ⟨by rfl, rfl⟩) (by assumption) ?_
              simp only [Act.put, List.setIfInBounds_toArray, List.set_cons_zero, List.set_cons_succ, List.getElem_toArray, List.getElem_cons_zero, List.getElem_cons_succ]
              refine wpAnyH_take (i := 29) (oi := _) (v := undef) rfl (by kernel_rfl) (by kernel_rfl) (by kernel_rfl) (fun _ _ _ h => h) (Or.inr ⟨by rfl, rfl⟩) (by assumption) ?_
              simp only [Act.put, List.setIfInBounds_toArray, List.set_cons_zero, List.set_cons_succ, List.getElem_toArray, List.getElem_cons_zero, List.getElem_cons_succ]
              refine wpAnyH_take (i := 26) (oi := _) (v := undef) rfl (by kernel_rfl) (by kernel_rfl) (by kernel_rfl) (fun _ _ _ h => h) (Or.inr ⟨by rfl, rfl⟩) (by assumption) ?_
              simp only [Act.put, List.setIfInBounds_toArray, List.set_cons_zero, List.set_cons_succ, List.getElem_toArray, List.getElem_cons_zero, List.getElem_cons_succ]
              refine wpAnyH_take (i := 30) (oi := _) (v := undef) rfl (by kernel_rfl) (by kernel_rfl) (by kernel_rfl) (fun _ _ _ h => h) (Or.inr ⟨by rfl, rfl⟩) (by assumption) ?_
              simp only [Act.put, List.setIfInBounds_toArray, List.set_cons_zero, List.set_cons_succ, List.getElem_toArray, List.getElem_cons_zero, List.getElem_cons_succ]
              refine wpAnyH_take (i := 27) (oi := _) (v := undef) rfl (by kernel_rfl) (by kernel_rfl) (by kernel_rfl) (fun _ _ _ h => h) (Or.inr ⟨by rfl, rfl⟩) (by assumption) ?_
              simp only [Act.put, List.setIfInBounds_toArray, List.set_cons_zero, List.set_cons_succ, List.getElem_toArray, List.getElem_cons_zero, List.getElem_cons_succ]
              refine wpAnyH_take (i := 31) (oi := _) (v := undef) rfl (by kernel_rfl) (by kernel_rfl) (by kernel_rfl) (fun _ _ _ h => h) (Or.inr ⟨by rfl, rfl⟩) (by assumption) ?_
              simp only [Act.put, List.setIfInBounds_toArray, List.set_cons_zero, List.set_cons_succ, List.getElem_toArray, List.getElem_cons_zero, List.getElem_cons_succ]
              refine wpAnyH_take (i := 32) (oi := _) (v := undef) rfl (by kernel_rfl) (by kernel_rfl) (by kernel_rfl) (fun _ _ _ h => h) (Or.inr ⟨by rfl, rfl⟩) (by assumption) ?_
              simp only [Act.put, List.setIfInBounds_toArray, List.set_cons_zero, List.set_cons_succ, List.getElem_toArray, List.getElem_cons_zero, List.getElem_cons_succ]
              refine wpAnyH_take (i := 33) (oi := _) (v := ?_) rfl (by kernel_rfl) (by kernel_rfl) (by kernel_rfl) (fun _ _ _ h => h) (Or.inl ⟨by rfl, ?_⟩) (by assumption) ?_
              rotate_left
              · intro w hSw
                go_simp
                try with_reducible rfl
              simp only [Act.put, List.setIfInBounds_toArray, List.set_cons_zero, List.set_cons_succ, List.getElem_toArray, List.getElem_cons_zero, List.getElem_cons_succ]
              refine wpAnyH_take (i := 34) (oi := _) (v := ?_) rfl (by kernel_rfl) (by kernel_rfl) (by kernel_rfl) (fun _ _ _ h => h) (Or.inl ⟨by rfl, ?_⟩) (by assumption) ?_
              rotate_left
              · intro w hSw
                go_simp
                try with_reducible rfl
              simp only [Act.put, List.setIfInBounds_toArray, List.set_cons_zero, List.set_cons_succ, List.getElem_toArray, List.getElem_cons_zero, List.getElem_cons_succ]
              refine wpAnyH_take (i := 35) (oi := _) (v := ?_) rfl (by kernel_rfl) (by kernel_rfl) (by kernel_rfl) (fun _ _ _ h => h) (Or.inl ⟨by rfl, ?_⟩) (by assumption) ?_
              rotate_left
              · intro w hSw
                go_simp
                try with_reducible rfl
              simp only [Act.put, List.setIfInBounds_toArray, List.set_cons_zero, List.set_cons_succ, List.getElem_toArray, List.getElem_cons_zero, List.getElem_cons_succ]
              refine wpAnyH_done (by kernel_rfl) ?_ _
              refine NoPanic.normal ?_
              go_wp2
              go_ret
              exact ⟨rfl, B6.trans (b9.mono B6.size)⟩
            · have hpN' : ((p : Int) == (N : Int)) = false := by rw [beq_eq_false_iff_ne]; omega
              obtain ⟨z5, hz5, hzz⟩ := HP3.out (by omega)
              obtain ⟨g5, rfl, q5, hg5⟩ := place_is R2R.out hz5
              have hzz' : ((z5 : Int) != (z : Int)) = true := by
                rw [bne_iff_ne]; have := HZ.out; omega
              have hNlp : (N : Int) < (p : Int) := by omega
              have b0 := Below.refl w6.heap.size w6
              have HC1 := Lib.hid (fun (w' : World) (h : Below w6.heap.size w6 w') => lists_over (ca := c1) (cb := c) HKF.out HKN.out LB.out LA.out hNm hNm HP2.out h)
              have HC2 := Lib.hid (fun (w' : World) (h : Below w6.heap.size w6 w') => lists_over (ca := c1) (cb := c6) HP.out HP.out LC.out L6.out hpm hpm rfl h)
              have q56 := (Below.cell (p := ⟨g5, N, none⟩) b6 hg5).trans q5
              have q26 := (Below.cell (p := ⟨g2, N, none⟩) b6 hg2).trans q2
              have hg56 : g5 < w6.heap.size := Nat.lt_of_lt_of_le hg5 b6.size
              have hg26 : g2 < w6.heap.size := Nat.lt_of_lt_of_le hg2 b6.size
              have hNe : ¬ N = p := fun e => hpN e.symm
              clear LA LB LC L6 HKF HKN HP HP2 HZ HLO HS HG hl HH HP3 L1 L1R R2R R2 HU HVU HR i4R i4 HBE HM4 q2 q5 hg5 hg2 hz5 hzz hpN hNe
              go_wp2_with fail
              go_region_held3 (fun w' => Below w6.heap.size w6 w' ∧ w'.cell? ⟨g5, N, none⟩ = some (.int .i64 (z5 : Int)) ∧ w'.cell? ⟨g2, N, none⟩ = some (.int .i64 (z : Int)))
                (refine ⟨?_, (Below.cell (p := ⟨g5, N, none⟩) (B := w6.heap.size) ?_ hg56).trans q56, (Below.cell (p := ⟨g2, N, none⟩) (B := w6.heap.size) ?_ hg26).trans q26⟩ <;> (first | assumption | exact Below.drew (by assumption)))
                (first
                  | (go_at_call 16; with_reducible refine Calls.mono (HC1.out _ ?_) ?_; (first | exact (Below.refl _ _).drew | exact Below.refl _ _ | assumption | exact Below.drew (by assumption)); rintro e w8 ⟨rfl, b8⟩)
                  | (go_at_call 16; with_reducible refine Calls.mono (HC2.out _ ?_) ?_; (first | exact (Below.refl _ _).drew | exact Below.refl _ _ | assumption | exact Below.drew (by assumption)); rintro e w9 ⟨rfl, b9⟩))
              all_goals
                go_wp2
                go_ret
                exact ⟨rfl, B6.trans (b9.mono B6.size)⟩

theorem torn_far (a : Option Addr) (n c at0 d : Nat) (w : World) (hH : HalvesAt w) (h : 10 < n ∨ d = 0) :
    Calls Tryd.prog 6 #[.slice a n c, .int .u16 (at0 : Int), .int .u8 (d : Int)] w fun e w' => e = .returned (.bool true) ∧ Below w.heap.size w w' := by
  have HH := Lib.hid hH
  clear hH
  by_cases h1 : (10 : Int) < n
  · clear h
    go_enter Tryd.func6, Tryd.ntmps6
    go_wp2_with fail
    refine (frame_awake _ HH.out).mono ?_
    rintro e w1 ⟨rfl, b1⟩
    go_wp2_with fail
    refine (frame_awake _ (HH.out.below b1)).mono ?_
    rintro e w2 ⟨rfl, b2⟩
    go_wp2
    go_ret
    exact ⟨rfl, b1.trans (b2.mono b1.size)⟩
  · obtain rfl : d = 0 := by omega
    clear h
    go_enter Tryd.func6, Tryd.ntmps6
    go_wp2_with fail
    refine (frame_awake _ HH.out).mono ?_
    rintro e w1 ⟨rfl, b1⟩
    go_wp2_with fail
    refine (frame_awake _ (HH.out.below b1)).mono ?_
    rintro e w2 ⟨rfl, b2⟩
    go_wp2
    go_ret
    exact ⟨rfl, b1.trans (b2.mono b1.size)⟩

theorem torn_contract (W : World) (args : Array Value) (hL : laidMetH Tryd.prog halvesLaid W) (h : Each Tryd.prog W Tryd.f6.params.toList args.toList) :
    Calls Tryd.prog 6 args W fun e W' => e = .returned (.bool true) ∧ Below W.heap.size W W' := by
  rw [Tryd.params6] at h
  obtain ⟨v0, r0, e0, ⟨_, o0⟩, d0, h⟩ := h.cons
  obtain ⟨v1, r1, rfl, ⟨_, o1⟩, d1, h⟩ := h.cons
  obtain ⟨v2, r2, rfl, ⟨_, o2⟩, d2, h⟩ := h.cons
  obtain rfl := h.nil
  obtain ⟨args⟩ := args
  obtain rfl : args = [v0, v1, v2] := e0
  obtain ⟨a, n, c, rfl, hc0⟩ := val_slice o0 Tryd.underlying32
  rw [hc0] at d0
  obtain ⟨L, hLn, hl, hnc0, hcm0⟩ := lists_of d0
  obtain ⟨at0, rfl, hk⟩ := val_int o1 d1 Tryd.underlying41
  obtain ⟨d, rfl, hm⟩ := val_int o2 d2 Tryd.underlying5
  obtain ⟨hk1, hk2⟩ := wf_u16 hk
  obtain ⟨hm1, hm2⟩ := wf_u8 hm
  obtain ⟨at0, rfl⟩ := Int.eq_ofNat_of_zero_le hk1
  obtain ⟨d, rfl⟩ := Int.eq_ofNat_of_zero_le hm1
  have hH := halves_of_laid hL
  by_cases hbig : 10 < n ∨ d = 0
  · exact torn_far _ _ _ at0 d W hH hbig
  · exact torn_near _ L _ _ at0 d W hH hLn hl hnc0 hcm0 (by omega) (by omega) (by omega) (by omega)

theorem torn_lifted (os : Os) (started : os.Started) (H : Type) (enc : TypeId × Value → H) :
    ReturnsInHanded {} Tryd.checked os 6 .any (fun w args => (Rows.frameTornSpec.pre enc Tryd.prog Tryd.f6 [] false w args ∧ laidMetH Tryd.prog halvesLaid w) ∧ sizedMet enc Tryd.prog Tryd.f6 (OpenSpec.ofChange Rows.frameTornSpec) false w args)
      (Rows.frameTornSpec.post enc Tryd.prog Tryd.f6 false true false false) :=
  law_lifted_laid (C := Tryd.checked) frame_own frame_laidOut (by kernel_rfl) Tryd.func6 rfl (tb := 4) rfl Tryd.underlying4
    (by
      rw [Tryd.params6]; intro t ht; simp at ht
      rcases ht with rfl | rfl | rfl <;> exact ⟨by kernel_rfl, of_decide_eq_true (by kernel_rfl)⟩)
    (fun H ds hl => by
      rw [Tryd.params6] at hl
      match ds, hl with
      | [d1, d2, d3], _ => rfl)
    os started H enc
    (ChangeSpec.witness_shaped (enc := enc) (C := Tryd.checked) (os := os) (X := fun w _ => laidMetH Tryd.prog halvesLaid w) false (World.doorLaid Tryd.prog 14 os) #[.slice none 0 0, .int .u16 0, .int .u8 0] 8 rfl (World.shaped_of_RefB (by kernel_rfl) (by kernel_rfl)) (by kernel_rfl) (by kernel_rfl) (by kernel_rfl) (door_met os _))
    torn_contract

theorem frameTorn_holds : Rows.FrameTornSaid :=
  OpenClaim.holds_of_wide 6 Tryd.f6 rfl rfl rfl rfl rfl rfl rfl ⟨rfl, rfl, rfl, rfl, rfl⟩ rfl rfl rfl rfl rfl (by kernel_rfl) Tryd.func6 (by kernel_rfl)
    (of_decide_eq_true (by kernel_rfl)) (by unfold Func.isWrapper; first | (rw [if_pos (by decide +kernel)]; kernel_rfl) | (rw [if_neg (by decide +kernel)]; exact ⟨rfl, rfl⟩))
    (fun os started H enc _ => torn_lifted os started H enc)

theorem frameTorn_card : Rows.FrameTornCardSaid :=
  Claim7.holds_tied_plain_at .later [] [.data] true _ false
    frameTorn_holds (fun _ h => by cases h) (by kernel_rfl) (fun _ h => by cases h) frameTorn_row_tie rfl ⟨rfl, rfl⟩ (by kernel_rfl) rfl
    (fun f fn hf hfn => by
      obtain rfl : f = 6 := Option.some.inj ((show Tryd.prog.funcNamed "recoup/recouplaw03.FrameTorn" = some 6 by kernel_rfl).symm.trans hf) |>.symm
      obtain rfl : fn = Tryd.f6 := (Option.some.inj (Tryd.func6.symm.trans hfn)).symm
      exact ⟨by kernel_rfl, fun j t ht => by
        rw [Tryd.params6] at ht
        have hm : t ∈ [32, 41, 5] := by simpa using Array.mem_of_getElem? ht
        have hall : ([32, 41, 5].all fun u => !Tryd.prog.wantsStandIn u) = true := by kernel_rfl
        exact (show Tryd.prog.wantsStandIn t = false by simpa using List.all_eq_true.1 hall t hm)⟩)
    (by kernel_rfl)
#print axioms frameTorn_card
end Go.Proofs.YtdbngmnpfcdhdaaDoor
