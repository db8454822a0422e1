/-
  A log's Records, and recouplaw04.Same. Conditions: those of each theorem ('LogAt': the pointer leads to a log that holds L).
-/
import Derived.Test.YteipcbpkgpffjaaDoorLogAt
namespace Go.Proofs.YteipcbpkgpffjaaDoor
open Go.RowKit
set_option maxRecDepth 100000

set_option maxHeartbeats 1600000 in
theorem log_records {w : World} {q p : Nat} {T : Nat → Prop} {L : LM} (h : LogAt w q p T L) (hr : L.recs.length ≤ 1000000) :
    Calls Tryd.prog 39 #[.pointer (some ⟨q, 0, none⟩)] w fun e w' => (∃ v E, e = .returned v ∧ RowsOf w' w.heap.size v E L.recs) ∧ Below w.heap.size w w' := by
  obtain ⟨_, _, v, E, _, _, _, _, _, _, m7, m8, _, _⟩ := h.mem
  obtain ⟨av, cv, rfl⟩ := m8.slice
  have hl := m8.lists
  have h60 := h.r60
  generalize L.recs = R at *
  obtain ⟨n, hn⟩ : ∃ n, R.length = n := ⟨_, rfl⟩
  rw [hn] at m7 hr
  have HN := Lib.hid hn
  have HL := Lib.hid hl
  have H60 := Lib.hid h60
  clear m8 hl hn h60 h
  go_enter Tryd.func39, Tryd.ntmps39
  go_wp2
  go_loopw [3, 13] (fun v i wr => ∃ k : Nat, k ≤ n ∧ i = .int .i64 k ∧ Below w.heap.size w wr ∧ ∃ E, RowsOf wr w.heap.size v E (R.take k) ∧ ∀ g, E g → w.heap.size ≤ g ∧ g < wr.heap.size ∧ v.ownBlock ≠ some g) (fun _ i _ => n - (intOf i).toNat)
  case atStart => exact ⟨0, Nat.zero_le _, rfl, Below.refl _ _, fun _ => False, RowsOf.nil _ _ _, fun _ h => h.elim⟩
  case round =>
    obtain ⟨k, hk, rfl, hB, E1, hrow, hE⟩ := hrel
    obtain ⟨a1, c1, rfl⟩ := hrow.slice
    have htk : (R.take k).length = k := by rw [List.length_take, HN.out]; omega
    obtain ⟨vals, hv, hi⟩ := hrow
    rw [htk] at hv hE ⊢
    have HTK := Lib.hid htk
    have HI := Lib.hid hi
    have HE := Lib.hid hE
    have HV := Lib.hid hv
    clear htk hi hE hv
    by_cases hlt : k < n
    · have hlk : k < R.length := by rw [HN.out]; exact hlt
      obtain ⟨b, off, rfl, hb, ad, cx, hck, hby, hxc, hcm, hnx⟩ : ∃ b off, av = some ⟨b, off, none⟩ ∧ b < wr.heap.size ∧ ∃ ad cx, wr.cell? ⟨b, off + k, none⟩ = some (.slice ad R[k].length cx) ∧ IsBytes wr ad R[k] ∧ R[k].length ≤ cx ∧ cx ≤ maxLen ∧ (ad = none → cx = 0) := by
        rcases HL.out.below hB with h | ⟨b, off, h2, h3, h4⟩
        · rw [h] at hlk; simp at hlk
        · obtain ⟨ad, cx, h5⟩ := h4 k hlk
          exact ⟨b, off, h2, h3, ad, cx, h5⟩
      have hx60 := H60.out R[k] (List.getElem_mem hlk)
      obtain ⟨x, hxe⟩ : ∃ x, R[k] = x := ⟨_, rfl⟩
      rw [hxe] at hck hby hxc hx60
      obtain ⟨m, hm⟩ : ∃ m, x.length = m := ⟨_, rfl⟩
      rw [hm] at hck hxc hx60
      have HXE := Lib.hid hxe
      have HM := Lib.hid hm
      have hk0 : (0 : Int) ≤ (k : Int) := by omega
      have hkn : (k : Int) < (n : Int) := by omega
      clear hxe hm
      go_wp2_with fail
      refine (clone_bytes ad x m cx wr HM.out hby hnx (by omega)).mono ?_
      rintro e w2 ⟨⟨a2, c2, rfl, hr2⟩, b2⟩
      have A2 : Below wr.heap.size wr (w2.alloc (.cells #[.slice a2 m c2] 22)) := b2.trans ((upd_box _).mono b2.size)
      have hT : (w2.alloc (.cells #[.slice a2 m c2] 22)).ownsRow w.heap.size 22 1 (.slice a1 k c1) k vals := ownsRow_upd (S := fun _ => False) HV.out (below_upd _ A2) (fun _ _ h => h)
      have xT : (w2.alloc (.cells #[.slice a2 m c2] 22)).cell? ⟨w2.heap.size, 0, none⟩ = some (.slice a2 m c2) := by simp
      have hLm : k + 1 ≤ maxLen := by unfold maxLen; omega
      have hLb : (k + 1) * 24 ≤ 140737488355328 := by omega
      have hzz : w.heap.size ≤ (w2.alloc (.cells #[.slice a2 m c2] 22)).heap.size := Nat.le_trans hB.size A2.size
      go_wp2_with (at_builtin; refine wpList_append_elem rfl _ _ 33 rfl w.heap.size 22 (.slice none 0 0) 24 Tryd.underlying33 sl_info rfl (.slice a1 k c1) k vals rfl hT (.slice a2 m c2) rfl ⟨w2.heap.size, 0, none⟩ 1 rfl xT (k + 1) rfl hLm hLb hzz ?_; intro a5 c5 w5 hr5 hg5 hn5)
      go_roundw
      case rel =>
        have em := HM.out
        subst em
        obtain ⟨g1, -, g3, g4, g5⟩ := bytes_of_row hr2
        have hadr := own_addr hr2
        have hs2 := b2.size
        have hsz : (w2.alloc (.cells #[.slice a2 x.length c2] 22)).heap.size = w2.heap.size + 1 := by simp
        have hs5 := hg5.size
        have hovr : ∀ g, (Value.slice a1 k c1).ownBlock = some g → g < wr.heap.size := fun g hg => own_lt HV.out hg
        have hovb : ∀ g, (Value.slice a1 k c1).ownBlock = some g → w.heap.size ≤ g := fun g hg => own_ge HV.out hg
        have hrow := RowsOf.snoc (w := w2.alloc (.cells #[.slice a2 x.length c2] 22)) (w1 := w5) (x := x) (ad := a2) (c := c2) (E := E1) (L := R.take k) (by rw [HTK.out]; exact hT) (fun i h => by
          obtain ⟨ad, c, q1, q2, q3⟩ := HI.out i h
          exact ⟨ad, c, q1, q2.below A2, q3⟩) (by rw [HTK.out]; exact hr5) hg5 (g1.below (upd_box _)) g3 g4 g5 (fun y hy e => by have := (hadr y hy).1; have := hovr _ e; omega) (fun g hg => (HE.out g hg).2.2)
        refine ⟨k + 1, by omega, by go_num, (hB.trans (A2.mono hB.size)).grown hg5 hzz (fun j hj => hovb j hj), (fun g => E1 g ∨ ∃ y, a2 = some y ∧ y.block = g), ?_, fun g hg => ?_⟩
        · rw [List.take_succ_eq_append_getElem hlk, HXE.out]
          exact hrow
        · rcases hg with hg | ⟨y, hy, rfl⟩
          · obtain ⟨q1, q2, q3⟩ := HE.out g hg
            refine ⟨q1, by omega, fun e => ?_⟩
            rcases hn5 g e with e | e
            · exact q3 e
            · omega
          · have h1 := hadr y hy
            have hs0 := hB.size
            refine ⟨by omega, by omega, fun e => ?_⟩
            rcases hn5 _ e with e | e
            · have := hovr _ e; omega
            · omega
      case measure => simp [intOf]; omega
    · obtain rfl : k = n := by omega
      have hte : R.take k = R := List.take_of_length_le (by rw [HN.out]; exact Nat.le_refl _)
      have HTE := Lib.hid hte
      clear hte
      go_wp2
      go_ret
      refine ⟨⟨_, E1, rfl, vals, ?_, fun i hi => ?_⟩, hB⟩
      · rw [HN.out]; exact HV.out
      · have hi' : i < (R.take k).length := by rw [HTE.out]; exact hi
        have h1 := HI.out i hi'
        simp only [HTE.out] at h1
        exact h1

/-- What Same tells. -/
def same (L : LM) (im : List UInt8) (R : List (List UInt8)) : Bool := decide (L.image = im) && decide (L.recs = R)
theorem same_iff {L : LM} {im : List UInt8} {R : List (List UInt8)} : same L im R = true ↔ L.image = im ∧ L.recs = R := by simp [same]

set_option maxHeartbeats 1600000 in
theorem same_log {w : World} {q p : Nat} {T : Nat → Prop} {L : LM} (h : LogAt w q p T L) (hr : L.recs.length ≤ 1000000) (a ar : Option Addr) (im : List UInt8) (R : List (List UInt8)) (n c m cr : Nat)
    (hn : im.length = n) (hx : IsBytes w a im) (hnm : n ≤ maxLen) (hm : R.length = m) (hR : ListsAt w ar R) (hmm : m ≤ maxLen) :
    Calls Tryd.prog 14 #[.pointer (some ⟨q, 0, none⟩), .slice a n c, .slice ar m cr] w fun e w' => e = .returned (.bool (same L im R)) ∧ Below w.heap.size w w' := by
  have HI := Lib.hid (log_image h)
  have H := Lib.hid h
  have HN := Lib.hid hn
  have HM := Lib.hid hm
  have HX := Lib.hid hx
  have HR := Lib.hid hR
  have hi60 := h.i60
  have hLm : L.recs.length ≤ maxLen := Nat.le_trans hr (by decide)
  have him : L.image.length ≤ maxLen := Nat.le_trans hi60 (by decide)
  clear h hn hm hx hR
  go_enter Tryd.func14, Tryd.ntmps14
  go_wp2_with fail
  refine HI.out.mono ?_
  rintro e w1 ⟨⟨a1, c1, rfl, hr1⟩, b1⟩
  obtain ⟨g1, -, -, -, -⟩ := bytes_of_row hr1
  have HB := Lib.hid (bytes_any a1 a L.image.length n c1 c L.image im w1 rfl HN.out g1 (HX.out.below b1) him hnm)
  have B1 := Lib.hid b1
  clear hr1 g1 b1
  by_cases he : L.image = im
  · have hd : decide (L.image = im) = true := by simpa using he
    rw [hd] at HB
    have HD := Lib.hid hd
    clear hd he
    go_wp2_with fail
    refine HB.out.mono ?_
    rintro e w2 ⟨rfl, b2⟩
    have B2 := Lib.hid (B1.out.trans (b2.mono B1.out.size))
    have HRC := Lib.hid (log_records (H.out.below B2.out) hr)
    clear b2
    go_wp2_with fail
    refine HRC.out.mono ?_
    rintro e w3 ⟨⟨v, E, rfl, hrow⟩, b3⟩
    obtain ⟨a3, c3, rfl⟩ := hrow.slice
    have B3 := Lib.hid (B2.out.trans (b3.mono B2.out.size))
    have HLS := Lib.hid (lists_any a3 ar L.recs.length m c3 cr L.recs R w3 rfl HM.out hrow.lists (HR.out.below B3.out) hLm hmm)
    clear hrow b3
    by_cases hl : L.recs = R
    · have hd2 : decide (L.recs = R) = true := by simpa using hl
      rw [hd2] at HLS
      have HD2 := Lib.hid hd2
      have hlen : L.recs.length = m := by rw [hl, HM.out]
      rw [hlen] at HLS
      have HLN := Lib.hid hlen
      clear hd2 hl
      rw [hlen]
      clear hlen
      go_wp2_with fail
      refine HLS.out.mono ?_
      rintro e w4 ⟨rfl, b4⟩
      have HLE := Lib.hid (log_len (H.out.below (B3.out.trans (b4.mono B3.out.size))))
      rw [HLN.out] at HLE
      have B4 := Lib.hid (B3.out.trans (b4.mono B3.out.size))
      clear b4
      go_wp2_with fail
      refine HLE.out.mono ?_
      rintro e w5 ⟨rfl, rfl⟩
      go_wp2
      go_ret
      exact ⟨by unfold same; rw [HD.out, HD2.out]; rfl, B4.out⟩
    · have hd2 : decide (L.recs = R) = false := by simpa using hl
      rw [hd2] at HLS
      have HD2 := Lib.hid hd2
      clear hd2 hl
      go_wp2_with fail
      refine HLS.out.mono ?_
      rintro e w4 ⟨rfl, b4⟩
      go_wp2
      go_ret
      exact ⟨by unfold same; rw [HD.out, HD2.out]; rfl, B3.out.trans (b4.mono B3.out.size)⟩
  · have hd : decide (L.image = im) = false := by simpa using he
    rw [hd] at HB
    have HD := Lib.hid hd
    clear hd he
    go_wp2_with fail
    refine HB.out.mono ?_
    rintro e w2 ⟨rfl, b2⟩
    go_wp2
    go_ret
    exact ⟨by unfold same; rw [HD.out]; rfl, B1.out.trans (b2.mono B1.out.size)⟩
end Go.Proofs.YteipcbpkgpffjaaDoor
