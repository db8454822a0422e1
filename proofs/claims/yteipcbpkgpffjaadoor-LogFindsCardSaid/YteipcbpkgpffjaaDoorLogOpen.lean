/-
  The code's Open. Conditions: those of each theorem ('DiskAt': the pointer leads to a disk that holds D; 'HalvesAt': memory holds the table).
-/
import Derived.Test.YteipcbpkgpffjaaDoorLogLoadB
import Derived.Test.YteipcbpkgpffjaaDoorLogCalm
namespace Go.Proofs.YteipcbpkgpffjaaDoor
open Go.RowKit
set_option maxRecDepth 100000

/-- What Open answers, and leaves. -/
def logOpen (D : DM) : Int × DM × LM :=
  if D.lost = true then (6, D, LM.bare 0)
  else if counts (D.f 1).b (D.f 2).b = 0 then (7, D, LM.bare 0)
  else ((D.trim (counts (D.f 1).b (D.f 2).b)).1, (D.trim (counts (D.f 1).b (D.f 2).b)).2, loadL (frames (D.f (counts (D.f 1).b (D.f 2).b)).b) (counts (D.f 1).b (D.f 2).b) (frames (D.f (counts (D.f 1).b (D.f 2).b)).b).length)

theorem counts_two (b1 b2 : List UInt8) : (counts b1 b2 = 0 ∧ genOf b1 = 0 ∧ genOf b2 = 0) ∨ (counts b1 b2 = 1 ∧ 0 < genOf b1 ∧ genOf b2 ≤ genOf b1) ∨ (counts b1 b2 = 2 ∧ genOf b1 < genOf b2) := by
  unfold counts
  by_cases h1 : genOf b1 < genOf b2
  · rw [if_pos h1]; exact .inr (.inr ⟨rfl, h1⟩)
  · rw [if_neg h1]
    by_cases h2 : 0 < genOf b1
    · rw [if_pos h2]; exact .inr (.inl ⟨rfl, h2, by omega⟩)
    · rw [if_neg h2]; exact .inl ⟨rfl, by omega, by omega⟩
theorem gen_has {D : DM} (ht : Tidy D) {f : Nat} (hf : f < 8) (h : 0 < genOf (D.f f).b) : (D.f f).has = true := by
  cases hh : (D.f f).has with
  | true => rfl
  | false =>
    rw [ht f hf hh, show FM.gone.b = [] from rfl, genOf_none (by decide)] at h
    omega
theorem counts_in {D : DM} (ht : Tidy D) {c : Nat} (hc : counts (D.f 1).b (D.f 2).b = c) (h0 : c ≠ 0) : (c = 1 ∨ c = 2) ∧ 0 < genOf (D.f c).b ∧ (D.f c).has = true := by
  rcases counts_two (D.f 1).b (D.f 2).b with ⟨h, _⟩ | ⟨h, h1, _⟩ | ⟨h, h1⟩
  · omega
  · obtain rfl : c = 1 := by omega
    exact ⟨.inl rfl, h1, gen_has ht (by omega) h1⟩
  · obtain rfl : c = 2 := by omega
    exact ⟨.inr rfl, by omega, gen_has ht (by omega) (by omega)⟩

set_option maxHeartbeats 1600000 in
theorem log_open {w : World} {B p : Nat} {S : Nat → Prop} {V : Nat → Value} {D : DM} (h : DiskAt w p S V D) (hH : HalvesAt w) (hB : ∀ k, S k → B ≤ k) :
    Calls Tryd.prog 13 #[.pointer (some ⟨p, 0, none⟩)] w (Made w B p S (logOpen D)) := by
  have HRD := Lib.hid (log_ready p D.lost w h.c27)
  have HD := Lib.hid h
  have HT := Lib.hid hH
  have HBB := Lib.hid hB
  have hBp := Nat.le_of_lt (Nat.lt_of_le_of_lt (hB p h.own) (h.lt p h.own))
  clear h hH hB
  by_cases hl : D.lost = true
  · have EQ : Hid (logOpen D = (6, D, LM.bare 0)) := if_pos hl
    rw [hl] at HRD
    clear hl
    go_enter Tryd.func13, Tryd.ntmps13
    go_wp2_with fail
    refine HRD.out.mono ?_
    rintro e w1 ⟨rfl, rfl⟩
    go_wp2
    go_ret2
    rw [EQ.out]
    exact ⟨S, Upd.refl _ _, fun k hk => .inl hk, fun _ => ⟨rfl, V, HD.out⟩, fun h => by cases h⟩
  · have hl2 : D.lost = false := by simpa using hl
    rw [hl2] at HRD
    have HC := Lib.hid (counting_in HD.out HT.out hl2)
    have HL := Lib.hid hl
    have HL2 := Lib.hid hl2
    clear hl2 hl
    by_cases hc : counts (D.f 1).b (D.f 2).b = 0
    · have EQ : Hid (logOpen D = (7, D, LM.bare 0)) := by show logOpen D = _; unfold logOpen; rw [if_neg HL.out, if_pos hc]
      rw [hc] at HC
      clear hc
      go_enter Tryd.func13, Tryd.ntmps13
      go_wp2_with fail
      refine HRD.out.mono ?_
      rintro e w1 ⟨rfl, rfl⟩
      go_wp2_with fail
      refine HC.out.mono ?_
      rintro e w1 ⟨rfl, b1⟩
      go_wp2
      go_ret2
      rw [EQ.out]
      exact ⟨S, below_upd _ b1, fun k hk => .inl hk, fun _ => ⟨rfl, V, HD.out.below b1⟩, fun h => by cases h⟩
    · have EQ0 : logOpen D = ((D.trim (counts (D.f 1).b (D.f 2).b)).1, (D.trim (counts (D.f 1).b (D.f 2).b)).2, loadL (frames (D.f (counts (D.f 1).b (D.f 2).b)).b) (counts (D.f 1).b (D.f 2).b) (frames (D.f (counts (D.f 1).b (D.f 2).b)).b).length) := by unfold logOpen; rw [if_neg HL.out, if_neg hc]
      obtain ⟨fl, hfl⟩ : ∃ fl, counts (D.f 1).b (D.f 2).b = fl := ⟨_, rfl⟩
      have hin := counts_in HD.out.ok.tidy hfl (by rw [← hfl]; exact hc)
      rw [hfl] at EQ0 HC hc
      have EQ := Lib.hid EQ0
      have HIN := Lib.hid hin
      have hmi : ((fl : Int) == 0) = false := by simp; omega
      have hgl := Lib.hid HT.out.lt
      clear EQ0 hfl hc hin
      go_enter Tryd.func13, Tryd.ntmps13
      go_wp2_with fail
      refine HRD.out.mono ?_
      rintro e w1 ⟨rfl, rfl⟩
      go_wp2_with fail
      refine HC.out.mono ?_
      rintro e w1 ⟨rfl, b1⟩
      have hs1 := b1.size
      have hd1 := HD.out.below b1
      have hlg := LogAt.bare (w := w1) (p := p) (fl := fl) (by have := HIN.out.1; omega)
      have hbx := upd_box (w := w1) (.cells #[.pointer (some ⟨p, 0, none⟩), .int .i64 (fl : Int), .int .i64 0, .slice none 0 0, .slice none 0 0, .bool false] 65)
      have H2 := Both.mk (B := B) ⟨V, hd1.below hbx⟩ hlg HBB.out (fun k hk => by have h9 : k = w1.heap.size := hk; omega) (fun k hk ht => by have h9 : k = w1.heap.size := ht; have := hd1.lt k hk; omega)
      have B2 := b1.trans (hbx.mono hs1)
      have HLD := Lib.hid (callsIn_wide.1 (code_load 0 H2 (fun k hk => hk) (HT.out.below B2) (by have := hgl.out; omega) HL2.out (by have := HIN.out.1; omega) HIN.out.2.2))
      have HB2 := Lib.hid B2
      have hz2 : (w1.alloc (.cells #[.pointer (some ⟨p, 0, none⟩), .int .i64 (fl : Int), .int .i64 0, .slice none 0 0, .slice none 0 0, .bool false] 65)).heap.size = w1.heap.size + 1 := by simp
      have HZ2 := Lib.hid hz2
      obtain ⟨r, hr⟩ : ∃ r, D.trim fl = r := ⟨_, rfl⟩
      rw [hr] at EQ HLD
      generalize loadL (frames (D.f fl).b) fl (frames (D.f fl).b).length = LL at *
      clear H2 hlg hbx B2 hd1 hr hz2
      go_wp2_with fail
      refine HLD.out.mono ?_
      rintro e w3 ⟨rfl, S3, T3, h3, g3⟩
      have H3 := Lib.hid h3
      have G3 := Lib.hid g3
      have U3 : Hid (Upd S w w3) := (below_upd S HB2.out).trans g3.upd (fun k hk e => by
        rcases e with e | e
        · exact e
        · have h9 : k = w1.heap.size := e
          omega)
      clear h3 g3
      by_cases hz : r.1 = 0
      · have HZ := Lib.hid hz
        rw [hz]
        clear hz
        go_wp2
        go_ret2
        rw [EQ.out]
        refine ⟨S3, U3.out, fun k hk => (G3.out.s k hk).imp id (fun x => by have := HZ2.out; omega), fun h => (h HZ.out).elim, fun _ => ⟨w1.heap.size, T3, rfl, H3.out, fun k hk => ?_⟩⟩
        rcases G3.out.t k hk with e | e
        · have h9 : k = w1.heap.size := e
          omega
        · have := HZ2.out; omega
      · have hb9 : (r.1 != 0) = true := by simpa using hz
        have HZ := Lib.hid hz
        clear hz
        go_wp2
        go_ret2
        rw [EQ.out]
        obtain ⟨V3, hd3⟩ := H3.out.disk
        exact ⟨S3, U3.out, fun k hk => (G3.out.s k hk).imp id (fun x => by have := HZ2.out; omega), fun _ => ⟨rfl, V3, hd3⟩, fun h => (HZ.out h).elim⟩
theorem loadL_all (g fl : Nat) (im : List UInt8) (R : List (List UInt8)) (hg : g < 4294967296) : loadL (headF g im :: R) fl (headF g im :: R).length = ⟨fl, g, im, R, false⟩ := by
  simp only [List.length_cons, loadL, List.headD_cons, genT_head im hg, imgT_head, List.take_succ_cons, List.drop_succ_cons, List.drop_zero, List.take_length]
/-- A log is opened out of a file that begins with its frames. -/
theorem open_found {D : DM} {fl g : Nat} {im : List UInt8} {R : List (List UInt8)} (hl : D.lost = false) (hc : counts (D.f 1).b (D.f 2).b = fl) (h0 : fl ≠ 0) (hf : frames (D.f fl).b = headF g im :: R) (hg : g < 4294967296) :
    logOpen D = ((D.trim fl).1, (D.trim fl).2, ⟨fl, g, im, R, false⟩) := by
  unfold logOpen
  rw [hl, if_neg (by decide), hc, if_neg h0, hf, loadL_all g fl im R hg]
end Go.Proofs.YteipcbpkgpffjaaDoor
