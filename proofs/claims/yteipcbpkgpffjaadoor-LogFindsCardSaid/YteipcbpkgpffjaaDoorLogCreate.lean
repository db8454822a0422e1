/-
  The code's Create. Conditions: those of each theorem ('DiskAt': the pointer leads to a disk that holds D; 'HalvesAt': memory holds the table).
-/
import Derived.Test.YteipcbpkgpffjaaDoorLogCompact
import Derived.Test.YteipcbpkgpffjaaDoorLogCount
namespace Go.Proofs.YteipcbpkgpffjaaDoor
open Go.RowKit
set_option maxRecDepth 100000

/-- A log that is in a file, and has nothing yet. -/
def LM.bare (fl : Nat) : LM := { file := fl, gen := 0, image := [], recs := [], over := false }
theorem LogAt.bare {w : World} {p fl : Nat} (hf : fl ≤ 2) : LogAt (w.alloc (.cells #[.pointer (some ⟨p, 0, none⟩), .int .i64 (fl : Int), .int .i64 0, .slice none 0 0, .slice none 0 0, .bool false] 65)) w.heap.size p (fun k => k = w.heap.size) (LM.bare fl) :=
  have hb := heap_alloc_new w (.cells #[.pointer (some ⟨p, 0, none⟩), .int .i64 (fl : Int), .int .i64 0, .slice none 0 0, .slice none 0 0, .bool false] 65)
  ⟨rfl, fun k hk => by subst hk; simp, ⟨_, hb, rfl⟩, cell_of_row _ _ 0 _ _ _ hb, cell_of_row _ _ 1 _ _ _ hb, cell_of_row _ _ 2 _ _ _ hb, cell_of_row _ _ 5 _ _ _ hb,
    ⟨none, 0, .slice none 0 0, fun _ => False, cell_of_row _ _ 3 _ _ _ hb, .inl rfl, Nat.le_refl _, Nat.zero_le _, fun _ => rfl, (fun x hx => by cases hx), cell_of_row _ _ 4 _ _ _ hb, RowsOf.nil _ _ _, (fun g hg => by simp [Value.ownBlock] at hg), (fun _ h => h.elim)⟩, hf, by show 0 < _; omega, Nat.zero_le _, fun x hx => by simp [LM.bare] at hx⟩

/-- What Create answers, and leaves. -/
def logCreate (D : DM) (im : List UInt8) : Int × DM × LM :=
  if D.lost = true then (6, D, LM.bare 0)
  else if counts (D.f 1).b (D.f 2).b ≠ 0 then (8, D, LM.bare 0)
  else logCompact D (LM.bare 0) im
/-- A disk, and a log that was made on it, if the answer is OK. -/
def Made (w : World) (B p : Nat) (S : Nat → Prop) (r : Int × DM × LM) (e : Ending) (w' : World) : Prop :=
  ∃ S', Upd S w w' ∧ (∀ k, S' k → S k ∨ w.heap.size ≤ k) ∧ (r.1 ≠ 0 → e = .returned (.tuple #[.pointer none, .int .i64 r.1]) ∧ ∃ V', DiskAt w' p S' V' r.2.1) ∧
    (r.1 = 0 → ∃ q T, e = .returned (.tuple #[.pointer (some ⟨q, 0, none⟩), .int .i64 0]) ∧ Both w' B p q S' T r.2.1 r.2.2 ∧ ∀ k, T k → w.heap.size ≤ k)

set_option maxHeartbeats 1600000 in
theorem log_create {w : World} {B p : Nat} {S : Nat → Prop} {V : Nat → Value} {D : DM} (h : DiskAt w p S V D) (hH : HalvesAt w) (hB : ∀ k, S k → B ≤ k) (ad : Option Addr) (im : List UInt8) (n c : Nat) (hn : im.length = n) (hx : IsBytes w ad im) (hnc : ad = none → c = 0)
    (hb : im ≠ [] → ∀ x, ad = some x → ¬ S x.block) :
    Calls Tryd.prog 10 #[.pointer (some ⟨p, 0, none⟩), .slice ad n c] w (Made w B p S (logCreate D im)) := by
  have HRD := Lib.hid (log_ready p D.lost w h.c27)
  have HD := Lib.hid h
  have HT := Lib.hid hH
  have HN := Lib.hid hn
  have HB := Lib.hid hb
  have HBB := Lib.hid hB
  have hBp := Nat.le_of_lt (Nat.lt_of_le_of_lt (hB p h.own) (h.lt p h.own))
  have HX := Lib.hid hx
  have HXL := Lib.hid hx.lt
  clear h hH hn hb hB hx
  by_cases hl : D.lost = true
  · have EQ : Hid (logCreate D im = (6, D, LM.bare 0)) := if_pos hl
    rw [hl] at HRD
    clear hl
    go_enter Tryd.func10, Tryd.ntmps10
    go_wp2_with fail
    refine HRD.out.mono ?_
    rintro e w1 ⟨rfl, rfl⟩
    go_wp2
    go_ret2
    rw [EQ.out]
    exact ⟨S, Upd.refl _ _, fun k hk => .inl hk, fun _ => ⟨rfl, V, HD.out⟩, fun h => by cases h⟩
  · have hl2 : D.lost = false := by simpa using hl
    rw [hl2] at HRD
    have HC := Lib.hid (counting_in HD.out HT.out hl2)
    have HL := Lib.hid hl
    clear hl2 hl
    by_cases hc : counts (D.f 1).b (D.f 2).b ≠ 0
    · have EQ : Hid (logCreate D im = (8, D, LM.bare 0)) := by show logCreate D im = _; unfold logCreate; rw [if_neg HL.out, if_pos hc]
      obtain ⟨m, hm⟩ : ∃ m, counts (D.f 1).b (D.f 2).b = m := ⟨_, rfl⟩
      rw [hm] at HC hc
      have hmi : ((m : Int) != 0) = true := by simp; omega
      clear hm hc
      go_enter Tryd.func10, Tryd.ntmps10
      go_wp2_with fail
      refine HRD.out.mono ?_
      rintro e w1 ⟨rfl, rfl⟩
      go_wp2_with fail
      refine HC.out.mono ?_
      rintro e w1 ⟨rfl, b1⟩
      go_wp2
      go_ret2
      rw [EQ.out]
      exact ⟨S, below_upd _ b1, fun k hk => .inl hk, fun _ => ⟨rfl, V, HD.out.below b1⟩, fun h => by cases h⟩
    · have hc0 : counts (D.f 1).b (D.f 2).b = 0 := by omega
      have EQ : Hid (logCreate D im = logCompact D (LM.bare 0) im) := by show logCreate D im = _; unfold logCreate; rw [if_neg HL.out, if_neg hc]
      rw [hc0] at HC
      clear hc hc0
      go_enter Tryd.func10, Tryd.ntmps10
      go_wp2_with fail
      refine HRD.out.mono ?_
      rintro e w1 ⟨rfl, rfl⟩
      go_wp2_with fail
      refine HC.out.mono ?_
      rintro e w1 ⟨rfl, b1⟩
      have hs1 := b1.size
      have hd1 := HD.out.below b1
      have hlg := LogAt.bare (w := w1) (p := p) (fl := 0) (by omega)
      have hbx := upd_box (w := w1) (.cells #[.pointer (some ⟨p, 0, none⟩), .int .i64 ((0 : Nat) : Int), .int .i64 0, .slice none 0 0, .slice none 0 0, .bool false] 65)
      have H2 := Both.mk (B := B) ⟨V, hd1.below hbx⟩ hlg HBB.out (fun k hk => by have h9 : k = w1.heap.size := hk; omega) (fun k hk ht => by have h9 : k = w1.heap.size := ht; have := hd1.lt k hk; omega)
      have B2 := b1.trans (hbx.mono hs1)
      have HCP := Lib.hid (log_compact H2 (HT.out.below B2) ad im n c HN.out (HX.out.below B2) hnc (fun h0 x hx e => by
        rcases e with e | e
        · exact HB.out h0 x hx e
        · have h9 : x.block = w1.heap.size := e
          have := HXL.out h0 x hx
          omega))
      have HB2 := Lib.hid B2
      have hz2 : (w1.alloc (.cells #[.pointer (some ⟨p, 0, none⟩), .int .i64 ((0 : Nat) : Int), .int .i64 0, .slice none 0 0, .slice none 0 0, .bool false] 65)).heap.size = w1.heap.size + 1 := by simp
      have HZ2 := Lib.hid hz2
      obtain ⟨r, hr⟩ : ∃ r, logCompact D (LM.bare 0) im = r := ⟨_, rfl⟩
      rw [hr] at EQ HCP
      clear H2 hlg hbx B2 hd1 hr hz2 hnc
      go_wp2_with fail
      refine HCP.out.mono ?_
      rintro e w3 ⟨rfl, S3, T3, h3, g3⟩
      have H3 := Lib.hid h3
      have G3 := Lib.hid g3
      have U3 : Hid (Upd S w w3) := (below_upd S HB2.out).trans g3.upd (fun k hk e => by
        rcases e with e | e
        · exact e
        · have h9 : k = w1.heap.size := e
          omega)
      clear h3 g3
      by_cases hz : r.1 = 0
      · have HZ := Lib.hid hz
        rw [hz]
        clear hz
        go_wp2
        go_ret2
        rw [EQ.out]
        refine ⟨S3, U3.out, fun k hk => (G3.out.s k hk).imp id (fun x => by have := HZ2.out; omega), fun h => (h HZ.out).elim, fun _ => ⟨w1.heap.size, T3, rfl, H3.out, fun k hk => ?_⟩⟩
        rcases G3.out.t k hk with e | e
        · have h9 : k = w1.heap.size := e
          omega
        · have := HZ2.out; omega
      · have hb9 : (r.1 != 0) = true := by simpa using hz
        have HZ := Lib.hid hz
        clear hz
        go_wp2
        go_ret2
        rw [EQ.out]
        obtain ⟨V3, hd3⟩ := H3.out.disk
        exact ⟨S3, U3.out, fun k hk => (G3.out.s k hk).imp id (fun x => by have := HZ2.out; omega), fun _ => ⟨rfl, V3, hd3⟩, fun h => (HZ.out h).elim⟩
end Go.Proofs.YteipcbpkgpffjaaDoor
