/-
  A log's Compact. Conditions: those of each theorem ('Both': the pointers lead to a disk that holds D and a log on it that holds L; 'HalvesAt': memory holds the table).
-/
import Derived.Test.YteipcbpkgpffjaaDoorLogAppend
import Derived.Test.YteipcbpkgpffjaaDoorLogHead
import Derived.Deep.DeepCutAuto
namespace Go.Proofs.YteipcbpkgpffjaaDoor
open Go.RowKit
set_option maxRecDepth 100000

def LM.next (L : LM) : Nat := if L.file = 1 then 2 else 1
def LM.other (L : LM) : Nat := if L.file = 1 then 1 else 2
def LM.anew (L : LM) (im : List UInt8) : LM := { file := L.next, gen := L.gen + 1, image := im, recs := [], over := false }
/-- What Compact answers, and leaves. -/
def logCompact (D : DM) (L : LM) (im : List UInt8) : Int × DM × LM :=
  if L.over = true then (6, D, L)
  else if 59996 < im.length then (4, D, L)
  else if 2147483648 ≤ L.gen then (5, D, L)
  else if D.cap + (D.f 3).b.length < D.used 8 + (11 + im.length) then (5, D, L)
  else if (D.place (frameOf (headF (L.gen + 1) im)) L.next).1 = 0 then
    (((D.place (frameOf (headF (L.gen + 1) im)) L.next).2.drop L.other).1, ((D.place (frameOf (headF (L.gen + 1) im)) L.next).2.drop L.other).2, (L.anew im).ends ((D.place (frameOf (headF (L.gen + 1) im)) L.next).2.drop L.other).1)
  else ((D.place (frameOf (headF (L.gen + 1) im)) L.next).1, (D.place (frameOf (headF (L.gen + 1) im)) L.next).2, L.ends (D.place (frameOf (headF (L.gen + 1) im)) L.next).1)

theorem wrap_nat {a : Nat} (h : a < 2 ^ 63) : IntKind.i64.wrap (a : Int) = a := by
  simp [IntKind.wrap, IntKind.signed, IntKind.bits]
  omega

/-- The log's cells, stored over. -/
def renewed (w : World) (q p fl g : Nat) (a : Option Addr) (n c : Nat) : World :=
  (((((w.setCell ⟨q, 0, none⟩ (.pointer (some ⟨p, 0, none⟩))).setCell ⟨q, 1, none⟩ (.int .i64 (fl : Int))).setCell ⟨q, 2, none⟩ (.int .i64 (g : Int))).setCell ⟨q, 3, none⟩ (.slice a n c)).setCell ⟨q, 4, none⟩ (.slice none 0 0)).setCell ⟨q, 5, none⟩ (.bool false)

theorem LogAt.renew {w w4 : World} {q p : Nat} {T : Nat → Prop} {L : LM} (h : LogAt w q p T L) {a : Option Addr} {c : Nat} {im : List UInt8} (fl g : Nat) (b4 : Below w.heap.size w w4)
    (hr : w4.ownsRow w.heap.size 5 1 (.slice a im.length c) im.length (im.map bval)) (hf : fl ≤ 2) (hg : g < 4294967296) (hi : im.length ≤ 60000) :
    LogAt (renewed w4 q p fl g a im.length c) q p (More T w w4) { file := fl, gen := g, image := im, recs := [], over := false } ∧ Upd T w (renewed w4 q p fl g a im.length c) := by
  have hq := h.lt q h.own
  have h4 := h.below b4
  obtain ⟨g1, -, g3, g4, g5⟩ := bytes_of_row hr
  have hadr := own_addr hr
  obtain ⟨cur, hb, hs⟩ := h4.blk
  obtain ⟨ra, rc, hrec⟩ := h4.records
  obtain ⟨ia, ic, _, _, himg, _⟩ := h4.mem
  have u : Upd (fun k => k = q) w4 (renewed w4 q p fl g a im.length c) :=
    (((((upd_set _ _).trans (upd_set _ _) (fun _ _ h => h)).trans (upd_set _ _) (fun _ _ h => h)).trans (upd_set _ _) (fun _ _ h => h)).trans (upd_set _ _) (fun _ _ h => h)).trans (upd_set _ _) (fun _ _ h => h)
  have hsz : (renewed w4 q p fl g a im.length c).heap.size = w4.heap.size := by simp only [renewed, setCell_size]
  refine ⟨⟨.inl h.own, fun k hk => ?_, ⟨_, setCell_heap_at (setCell_heap_at (setCell_heap_at (setCell_heap_at (setCell_heap_at (setCell_heap_at hb))))), by simp [hs]⟩, ?_, ?_, ?_, ?_, ⟨a, c, .slice none 0 0, fun _ => False, ?_, g1.upd u (fun _ x hx e => by have := (hadr x hx).1; omega), g3, g4, g5, fun x hx => ?_, ?_, RowsOf.nil _ _ _, fun g hg => by simp [Value.ownBlock] at hg, fun _ hE => hE.elim⟩, hf, hg, hi, fun x hx => by simp at hx⟩,
    (below_upd T b4).trans u (fun k _ e => by rw [e]; exact h.own)⟩
  · rw [hsz]
    rcases hk with hk | hk
    · exact Nat.lt_of_lt_of_le (h.lt k hk) b4.size
    · exact hk.2
  · unfold renewed
    rw [cell_other (by omega), cell_other (by omega), cell_other (by omega), cell_other (by omega), cell_other (by omega)]
    exact cell_same h4.c0
  · unfold renewed
    rw [cell_other (by omega), cell_other (by omega), cell_other (by omega), cell_other (by omega)]
    exact cell_same ((cell_other (by omega)).trans h4.c1)
  · unfold renewed
    rw [cell_other (by omega), cell_other (by omega), cell_other (by omega)]
    exact cell_same ((cell_other (by omega)).trans ((cell_other (by omega)).trans h4.c2))
  · exact cell_same ((cell_other (by omega)).trans ((cell_other (by omega)).trans ((cell_other (by omega)).trans ((cell_other (by omega)).trans ((cell_other (by omega)).trans h4.c5)))))
  · unfold renewed
    rw [cell_other (by omega), cell_other (by omega)]
    exact cell_same ((cell_other (by omega)).trans ((cell_other (by omega)).trans ((cell_other (by omega)).trans himg)))
  · have := hadr x hx
    exact ⟨.inr this, by omega, by simp [Value.ownBlock]⟩
  · unfold renewed
    rw [cell_other (by omega)]
    exact cell_same ((cell_other (by omega)).trans ((cell_other (by omega)).trans ((cell_other (by omega)).trans ((cell_other (by omega)).trans hrec))))

theorem DM.room_nat {D : DM} (h : D.ok) : (D.cap : Int) - D.used 8 = ((D.cap - D.used 8 : Nat) : Int) := by
  have := h.used
  omega

set_option maxHeartbeats 8000000 in
theorem log_compact {w : World} {B p q : Nat} {S T : Nat → Prop} {D : DM} {L : LM} (h : Both w B p q S T D L) (hH : HalvesAt w) (ad : Option Addr) (im : List UInt8) (n c : Nat) (hn : im.length = n) (hx : IsBytes w ad im) (hnc : ad = none → c = 0)
    (hb : im ≠ [] → ∀ x, ad = some x → ¬ (S x.block ∨ T x.block)) :
    Calls Tryd.prog 17 #[.pointer (some ⟨q, 0, none⟩), .slice ad n c] w (BothAfter w B p q S T (logCompact D L im).1 (logCompact D L im).2.1 (logCompact D L im).2.2) := by
  have HU := Lib.hid (log_usable q L.over w h.log.c5)
  have HH := Lib.hid h
  have HT := Lib.hid hH
  have HN := Lib.hid hn
  have HB := Lib.hid hb
  have x0 := h.log.c0
  have x1 := h.log.c1
  have x2 := h.log.c2
  have hg32 := h.log.g32
  have hf2 := h.log.f2
  clear h hH hn hb
  by_cases ho : L.over = true
  · have EQ : Hid (logCompact D L im = (6, D, L)) := if_pos ho
    rw [ho] at HU
    clear ho
    go_enter Tryd.func17, Tryd.ntmps17
    go_wp2_with fail
    refine HU.out.mono ?_
    rintro e w1 ⟨rfl, rfl⟩
    go_wp2
    go_ret
    rw [EQ.out]
    exact ⟨rfl, S, T, HH.out, Went.below (Below.refl _ _)⟩
  · have ho2 : L.over = false := by simpa using ho
    rw [ho2] at HU
    clear ho2
    by_cases hl : 59996 < im.length
    · have EQ : Hid (logCompact D L im = (4, D, L)) := by show logCompact D L im = _; unfold logCompact; rw [if_neg ho, if_pos hl]
      rw [HN.out] at hl
      have h4i : (59996 : Int) < (n : Int) := by omega
      clear ho hl
      go_enter Tryd.func17, Tryd.ntmps17
      go_wp2_with fail
      refine HU.out.mono ?_
      rintro e w1 ⟨rfl, rfl⟩
      go_wp2
      go_ret
      rw [EQ.out]
      exact ⟨rfl, S, T, HH.out, Went.below (Below.refl _ _)⟩
    · have h4i : ¬ (59996 : Int) < (n : Int) := by rw [HN.out] at hl; omega
      by_cases hg : 2147483648 ≤ L.gen
      · have EQ : Hid (logCompact D L im = (5, D, L)) := by show logCompact D L im = _; unfold logCompact; rw [if_neg ho, if_neg hl, if_pos hg]
        have hgi : (2147483648 : Int) ≤ (L.gen : Int) := by omega
        clear ho hl hg
        go_enter Tryd.func17, Tryd.ntmps17
        go_wp2_with fail
        refine HU.out.mono ?_
        rintro e w1 ⟨rfl, rfl⟩
        go_wp2
        go_ret
        rw [EQ.out]
        exact ⟨rfl, S, T, HH.out, Went.below (Below.refl _ _)⟩
      · have hgi : ¬ (2147483648 : Int) ≤ (L.gen : Int) := by omega
        have HBG := Lib.hid (begin_log (L.gen + 1) ad im n c w HT.out HN.out hx hnc (by omega) (by omega))
        rw [show ((L.gen + 1 : Nat) : Int) = (L.gen : Int) + 1 by omega] at HBG
        have HO := Lib.hid ho
        have HL := Lib.hid hl
        have HG := Lib.hid hg
        have HG32 := Lib.hid hg32
        have hwg : IntKind.i64.wrap ((L.gen : Int) + 1) = (L.gen : Int) + 1 := by rw [show (L.gen : Int) + 1 = ((L.gen + 1 : Nat) : Int) by omega]; exact wrap_nat (by omega)
        obtain ⟨gn, hgn⟩ : ∃ gn, L.gen = gn := ⟨_, rfl⟩
        have HGN := Lib.hid hgn
        rw [hgn] at hwg x2 hgi HBG
        have hgd : decide ((2147483648 : Int) ≤ (gn : Int)) = false := decide_eq_false hgi
        clear hgi
        have HNC := Lib.hid hnc
        clear ho hl hg hnc hg32 hgn
        go_enter Tryd.func17, Tryd.ntmps17
        go_wp2_with fail
        refine HU.out.mono ?_
        rintro e w1 ⟨rfl, rfl⟩
        go_wp2_with fail
        refine HBG.out.mono ?_
        rintro e w1 ⟨⟨a1, c1, rfl, hr1⟩, b1⟩
        obtain ⟨g1, -, g3, g4, g5⟩ := bytes_of_row hr1
        have HADR := Lib.hid (own_addr hr1)
        have H1 := Lib.hid (HH.out.below b1)
        have B1 := Lib.hid b1
        have x10 := H1.out.log.c0
        have x11 := H1.out.log.c1
        obtain ⟨V1, hd1⟩ := H1.out.disk
        have hq1 := H1.out.log.lt q H1.out.log.own
        have hfl : Hid ((frameOf (headF (L.gen + 1) im)).length = 11 + n) := by show (frameOf (headF (L.gen + 1) im)).length = 11 + n; rw [frameOf_len, headF_len, HN.out]; omega
        have HROOM := Lib.hid (DM.room_nat hd1.ok)
        have HR : Hid (∀ w', Below w1.heap.size w1 w' → Calls Tryd.prog 27 #[.pointer (some ⟨p, 0, none⟩)] w' fun e w2 => e = .returned (.int .i64 ((D.cap - D.used 8 : Nat) : Int)) ∧ Below w1.heap.size w1 w2) := fun w' hw => (room_in (hd1.below hw)).mono fun e w2 he => ⟨by rw [← HROOM.out]; exact he.1, hw.trans (he.2.mono hw.size)⟩
        have HS : Hid (∀ w', Below w1.heap.size w1 w' → Calls Tryd.prog 26 #[.pointer (some ⟨p, 0, none⟩), .int .i64 3] w' fun e w2 => e = .returned (.int .i64 ((D.f 3).b.length : Int)) ∧ Below w1.heap.size w1 w2) := fun w' hw => (size_in (hd1.below hw) 3 (by omega)).mono fun e w2 he => ⟨he.1, hw.trans (he.2.mono hw.size)⟩
        have hcap := hd1.ok.cap
        have hs3 := D.set_len 3 (by omega)
        have husd := hd1.ok.used
        obtain ⟨rm, hrm⟩ : ∃ rm, D.cap - D.used 8 = rm := ⟨_, rfl⟩
        obtain ⟨sz, hsz⟩ : ∃ sz, (D.f 3).b.length = sz := ⟨_, rfl⟩
        rw [hrm] at HR
        rw [hsz] at HS hs3
        have hwr : IntKind.i64.wrap ((rm : Int) + (sz : Int)) = (rm : Int) + (sz : Int) := by rw [← Int.natCast_add]; exact wrap_nat (by omega)
        have HRM := Lib.hid hrm
        have HSZ := Lib.hid hsz
        have HCU := Lib.hid husd
        have b0 := Below.refl w1.heap.size w1
        clear hr1 b1 hd1 x0 x1 x2 hrm hsz husd hcap hs3
        go_wp2_with fail
        go_region_held3 (fun w' => Below w1.heap.size w1 w' ∧ w'.cell? ⟨q, 0, none⟩ = some (.pointer (some ⟨p, 0, none⟩)))
          (refine ⟨?_, (Below.cell (p := ⟨q, 0, none⟩) (B := w1.heap.size) ?_ hq1).trans x10⟩ <;> (first | assumption | exact Below.drew (by assumption)))
          (first
            | (go_at_call 27; with_reducible refine Calls.mono (HR.out _ ?_) ?_; (first | exact (Below.refl _ _).drew | exact Below.refl _ _ | assumption | exact Below.drew (by assumption)); rintro e w2 ⟨rfl, b2⟩)
            | (go_at_call 26; with_reducible refine Calls.mono (HS.out _ ?_) ?_; (first | exact (Below.refl _ _).drew | exact Below.refl _ _ | assumption | exact Below.drew (by assumption)); rintro e w3 ⟨rfl, b3⟩))
        have H3 := Lib.hid (H1.out.below b3)
        have B3 := Lib.hid (B1.out.trans (b3.mono B1.out.size))
        have HY3 := Lib.hid (g1.below b3)
        have x30 := H3.out.log.c0
        have x31 := H3.out.log.c1
        have hs13 := b3.size
        have HS13 := Lib.hid hs13
        clear b2 b3 b0 x10 x11 g1 hs13 HR HS
        by_cases hroom : D.cap + (D.f 3).b.length < D.used 8 + (11 + im.length)
        · have EQ : Hid (logCompact D L im = (5, D, L)) := by show logCompact D L im = _; unfold logCompact; rw [if_neg HO.out, if_neg HL.out, if_neg HG.out, if_pos hroom]
          have hri : (rm : Int) + (sz : Int) < 11 + (n : Int) := by have := HRM.out; have := HSZ.out; have := HCU.out; have := HN.out; omega
          clear hroom
          go_wp2
          go_ret
          rw [EQ.out]
          exact ⟨rfl, S, T, H3.out, Went.below B3.out⟩
        · have hri : ¬ (rm : Int) + (sz : Int) < 11 + (n : Int) := by have := HRM.out; have := HSZ.out; have := HCU.out; have := HN.out; omega
          have EQ0 : (D.place (frameOf (headF (L.gen + 1) im)) L.next).1 = 0 → logCompact D L im = (((D.place (frameOf (headF (L.gen + 1) im)) L.next).2.drop L.other).1, ((D.place (frameOf (headF (L.gen + 1) im)) L.next).2.drop L.other).2, (L.anew im).ends ((D.place (frameOf (headF (L.gen + 1) im)) L.next).2.drop L.other).1) := fun hz => by
            unfold logCompact; rw [if_neg HO.out, if_neg HL.out, if_neg HG.out, if_neg hroom, if_pos hz]
          have EQ1 : ¬ (D.place (frameOf (headF (L.gen + 1) im)) L.next).1 = 0 → logCompact D L im = ((D.place (frameOf (headF (L.gen + 1) im)) L.next).1, (D.place (frameOf (headF (L.gen + 1) im)) L.next).2, L.ends (D.place (frameOf (headF (L.gen + 1) im)) L.next).1) := fun hz => by
            unfold logCompact; rw [if_neg HO.out, if_neg HL.out, if_neg HG.out, if_neg hroom, if_neg hz]
          have E0 := Lib.hid EQ0
          have E1 := Lib.hid EQ1
          have HPL := Lib.hid (log_place H3.out L.next a1 (frameOf (headF (L.gen + 1) im)) (11 + n) c1 hfl.out g3 g4 (by rw [HGN.out]; exact HY3.out) g5 (fun x hx => by
            have h1 := HADR.out x hx
            refine ⟨Nat.lt_of_lt_of_le h1.2 HS13.out, fun e => ?_⟩
            rcases e with e | e
            · obtain ⟨V, hd⟩ := HH.out.disk
              have := hd.lt _ e
              omega
            · have := HH.out.log.lt _ e
              omega))
          have HNX : Hid (L.next ≤ 2) := by show L.next ≤ 2; unfold LM.next; split <;> omega
          have HOT : Hid (L.other < 8) := by show L.other < 8; unfold LM.other; split <;> omega
          have HN1 : Hid (L.file = 1 → L.next = 2 ∧ L.other = 1) := fun hf => ⟨if_pos hf, if_pos hf⟩
          have HN2 : Hid (¬ L.file = 1 → L.next = 1 ∧ L.other = 2) := fun hf => ⟨if_neg hf, if_neg hf⟩
          have HAN : Hid (L.anew im = { file := L.next, gen := gn + 1, image := im, recs := [], over := false }) := by show L.anew im = _; rw [← HGN.out]; rfl
          obtain ⟨r, hr0⟩ : ∃ r, D.place (frameOf (headF (L.gen + 1) im)) L.next = r := ⟨_, rfl⟩
          rw [hr0] at HPL E0 E1
          obtain ⟨nx, hnx⟩ : ∃ nx, L.next = nx := ⟨_, rfl⟩
          obtain ⟨ot, hot⟩ : ∃ ot, L.other = ot := ⟨_, rfl⟩
          rw [hnx] at HPL HNX HAN HN1 HN2
          rw [hot] at E0 HN1 HN2 HOT
          clear hr0 EQ0 EQ1 hroom hnx hot
          go_upto_if 55 with (fail)
          go_cut [8, 9] (fun s8 s9 wx => s8 = .int .i64 (nx : Int) ∧ s9 = .int .i64 (ot : Int) ∧ w3 = wx)
          case first =>
            by_cases hf : L.file = 1
            · have hfe : ((L.file : Int) == 1) = true := by simp [hf]
              obtain ⟨e1, e2⟩ := HN1.out hf
              have E1 := Lib.hid e1
              have E2 := Lib.hid e2
              clear hf e1 e2
              go_wp2_with fail
              go_meet
              exact ⟨by rw [E1.out]; rfl, by rw [E2.out]; rfl, rfl⟩
            · have hfe : ((L.file : Int) == 1) = false := by simp; omega
              obtain ⟨e1, e2⟩ := HN2.out hf
              have E1 := Lib.hid e1
              have E2 := Lib.hid e2
              clear hf e1 e2
              go_wp2_with fail
              go_meet
              exact ⟨by rw [E1.out]; rfl, by rw [E2.out]; rfl, rfl⟩
          case rest =>
            obtain ⟨rfl, rfl, hwc⟩ := hcut
            subst hwc
            go_wp2_with fail
            refine HPL.out.mono ?_
            rintro e w4 ⟨rfl, S4, T4, h4, g4'⟩
            have H4 := Lib.hid h4
            have G4 := Lib.hid ((Went.below B3.out).trans g4')
            have x45 := h4.log.c5
            have f45 := h4.log.frozen 5
            clear h4 g4' x30 x31
            by_cases hz : r.1 = 0
            · have EQ := Lib.hid (E0.out hz)
              rw [hz]
              clear hz
              have HX4 : Hid (IsBytes w4 ad im) := hx.upd G4.out.upd HB.out
              have hq4 := H4.out.log.lt q H4.out.log.own
              have x40 := H4.out.log.c0
              have x41 := H4.out.log.c1
              have x42 := H4.out.log.c2
              rw [HGN.out] at x42
              obtain ⟨ia, ic, _, _, x43, _⟩ := H4.out.log.mem
              obtain ⟨ra, rc, x44⟩ := H4.out.log.records
              have f40 := H4.out.log.frozen 0
              have f41 := H4.out.log.frozen 1
              have f42 := H4.out.log.frozen 2
              have f43 := H4.out.log.frozen 3
              have f44 := H4.out.log.frozen 4
              have b0 := Below.refl w4.heap.size w4
              have hnb : n ≤ 140737488355328 := by have := HL.out; have := HN.out; omega
              go_upto_region 19 with (fail)
              go_cut [] (fun wx => ∃ a5 c5 w5, Below w4.heap.size w4 w5 ∧ w5.ownsRow w4.heap.size 5 1 (.slice a5 n c5) n (im.map bval) ∧ wx = renewed w5 q p nx (gn + 1) a5 n c5)
              case first =>
                go_region_law ((refine step_call (by rfl) 44 _ _ (by rfl) (enters_of Tryd.func44 (by kernel_rfl) rfl) #[.slice ad n c] (by kernel_rfl) (clone_bytes ad im n c w4.drew HN.out (HX4.out.below b0.drew) HNC.out hnb) ?_; rintro e w5 ⟨⟨a5, c5, rfl, hr5⟩, b5⟩; refine ⟨_, rfl, ?_⟩; have b5 := b0.drew.trans b5; have y0 := (Below.cell (p := ⟨q, 0, none⟩) (B := w4.heap.size) b5 hq4).trans x40; have y1 := (Below.cell (p := ⟨q, 1, none⟩) (B := w4.heap.size) b5 hq4).trans x41; have y2 := (Below.cell (p := ⟨q, 2, none⟩) (B := w4.heap.size) b5 hq4).trans x42; have y3 := (Below.cell (p := ⟨q, 3, none⟩) (B := w4.heap.size) b5 hq4).trans x43; have y4 := (Below.cell (p := ⟨q, 4, none⟩) (B := w4.heap.size) b5 hq4).trans x44; have y5 := (Below.cell (p := ⟨q, 5, none⟩) (B := w4.heap.size) b5 hq4).trans x45; have v0 := (Below.frozen (p := ⟨q, 0, none⟩) (B := w4.heap.size) b5 hq4).trans f40; have v1 := (Below.frozen (p := ⟨q, 1, none⟩) (B := w4.heap.size) b5 hq4).trans f41; have v2 := (Below.frozen (p := ⟨q, 2, none⟩) (B := w4.heap.size) b5 hq4).trans f42; have v3 := (Below.frozen (p := ⟨q, 3, none⟩) (B := w4.heap.size) b5 hq4).trans f43; have v4 := (Below.frozen (p := ⟨q, 4, none⟩) (B := w4.heap.size) b5 hq4).trans f44; have v5 := (Below.frozen (p := ⟨q, 5, none⟩) (B := w4.heap.size) b5 hq4).trans f45))
                all_goals
                  go_wp2_with fail
                  go_meet
                  exact ⟨a5, c5, w5, b5, hr5, rfl⟩
              case rest =>
                obtain ⟨a5, c5, w5, b5, hr5, rfl⟩ := hcut
                have e2 := HN.out
                subst e2
                obtain ⟨hl6, hu6⟩ := H4.out.log.renew nx (gn + 1) b5 hr5 HNX.out (by have := HG.out; have := HGN.out; omega) (by have := HL.out; omega)
                generalize renewed w5 q p nx (gn + 1) a5 im.length c5 = W6 at *
                obtain ⟨V4, hd4⟩ := H4.out.disk
                have H6 := Both.mk (B := B) ⟨V4, hd4.upd hu6 (fun k hk => H4.out.st k hk)⟩ hl6 H4.out.sB (fun k hk => hk.elim (H4.out.tB k) (fun x => Nat.le_trans H4.out.size x.1)) (fun k hk ht => ht.elim (H4.out.st k hk) (fun x => by have := hd4.lt k hk; omega))
                have G6 := Lib.hid (G4.out.trans (Went.mk (S' := S4) (T' := More T4 w4 w5) (hu6.mono (fun k _ x => .inr x)) (fun k hk => .inl hk) (fun k hk => hk.elim .inl (fun x => .inr x.1))))
                have HDR := Lib.hid (log_drop H6 ot HOT.out)
                have X65 := hl6.c5
                clear H6 hl6 hu6 hd4 x40 x41 x42 x43 x44 x45 f40 f41 f42 f43 f44 f45 hr5
                go_wp2_with fail
                refine HDR.out.mono ?_
                rintro e w7 ⟨rfl, S7, T7, h7, g7⟩
                have H7 := Lib.hid h7
                have G7 := Lib.hid (G6.out.trans g7)
                have x75 := h7.log.c5
                have f75 := h7.log.frozen 5
                clear h7 g7 X65
                have HE := Lib.hid (log_ended q (r.2.drop ot).1 _ w7 x75 f75)
                clear x75 f75
                go_wp2_with fail
                refine HE.out.mono ?_
                rintro e w8 ⟨rfl, rfl⟩
                go_wp2
                go_ret
                rw [EQ.out, HAN.out]
                obtain ⟨V7, hd7⟩ := H7.out.disk
                have u8 := upd_set (w := w7) (p := q) 5 (.bool ((r.2.drop ot).1 == 6))
                exact ⟨rfl, S7, T7, ⟨⟨V7, hd7.upd u8 (fun k hk e => H7.out.st k hk (by rw [e]; exact H7.out.log.own))⟩, H7.out.log.ended _, H7.out.sB, H7.out.tB, H7.out.st⟩,
                  G7.out.trans ⟨u8.mono (fun k _ e => by rw [e]; exact .inr H7.out.log.own), fun k hk => .inl hk, fun k hk => .inl hk⟩⟩
            · have EQ := Lib.hid (E1.out hz)
              have hb9 : (r.1 != 0) = true := by simpa using hz
              have HE := Lib.hid (log_ended q r.1 _ w4 x45 f45)
              clear hz x45 f45
              go_wp2_with fail
              refine HE.out.mono ?_
              rintro e w5 ⟨rfl, rfl⟩
              go_wp2
              go_ret
              rw [EQ.out]
              obtain ⟨V4, hd4⟩ := H4.out.disk
              have u5 : Upd (fun k => k = q) w4 (w4.setCell ⟨q, 5, none⟩ (.bool (r.1 == 6))) := upd_set _ _
              exact ⟨rfl, S4, T4, ⟨⟨V4, hd4.upd u5 (fun k hk e => H4.out.st k hk (by rw [e]; exact H4.out.log.own))⟩, H4.out.log.ended _, H4.out.sB, H4.out.tB, H4.out.st⟩,
                G4.out.trans ⟨u5.mono (fun k _ e => by rw [e]; exact .inr H4.out.log.own), fun k hk => .inl hk, fun k hk => .inl hk⟩⟩
end Go.Proofs.YteipcbpkgpffjaaDoor
