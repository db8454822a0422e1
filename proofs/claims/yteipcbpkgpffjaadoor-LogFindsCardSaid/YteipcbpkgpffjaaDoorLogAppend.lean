/-
  A log's Append. Conditions: those of each theorem ('Both': the pointers lead to a disk that holds D and a log on it that holds L; 'HalvesAt': memory holds the table).
-/
import Derived.Test.YteipcbpkgpffjaaDoorLogDisk
import Derived.Test.YteipcbpkgpffjaaDoorSeal
import Derived.Test.YteipcbpkgpffjaaDoorStep
namespace Go.Proofs.YteipcbpkgpffjaaDoor
open Go.RowKit
set_option maxRecDepth 100000

def LM.push (L : LM) (b : List UInt8) : LM := { L with recs := L.recs ++ [b] }
def LM.ends (L : LM) (e : Int) : LM := { L with over := e == 6 }
/-- What Append answers, and leaves. -/
def logAppend (D : DM) (L : LM) (b : List UInt8) : Int × DM × LM :=
  if L.over = true then (6, D, L)
  else if b.length < 1 ∨ 4000 < b.length then (4, D, L)
  else if D.cap < D.used 8 + (7 + b.length) then (5, D, L)
  else if (D.write L.file (frameOf b)).1 = 0 then (0, (D.write L.file (frameOf b)).2, L.push b)
  else ((D.write L.file (frameOf b)).1, (D.write L.file (frameOf b)).2, L.ends (D.write L.file (frameOf b)).1)

theorem LogAt.push {w w4 w5 : World} {q p : Nat} {T : Nat → Prop} {L : LM} (h : LogAt w q p T L) {a a' av a5 : Option Addr} {c c' cv c5 : Nat} {E : Nat → Prop} {vals : List Value} {b : List UInt8}
    (m1 : w.cell? ⟨q, 3, none⟩ = some (.slice a L.image.length c)) (m2 : IsBytes w a L.image) (m3 : L.image.length ≤ c) (m4 : c ≤ maxLen) (m5 : a = none → c = 0) (m6 : ∀ x, a = some x → T x.block ∧ x.block ≠ q ∧ (Value.slice av L.recs.length cv).ownBlock ≠ some x.block)
    (h1 : w.ownsRow 0 22 1 (.slice av L.recs.length cv) L.recs.length vals)
    (h2 : ∀ i (h : i < L.recs.length), ∃ ad c, vals[i]? = some (.slice ad L.recs[i].length c) ∧ IsBytes w ad L.recs[i] ∧ L.recs[i].length ≤ c ∧ c ≤ maxLen ∧ (ad = none → c = 0) ∧ ∀ x, ad = some x → E x.block)
    (m9 : ∀ g, (Value.slice av L.recs.length cv).ownBlock = some g → T g ∧ g ≠ q ∧ ¬ E g) (m10 : ∀ g, E g → T g ∧ g ≠ q)
    (b4 : Below w.heap.size w w4) (hr4 : w4.ownsRow w.heap.size 5 1 (.slice a' b.length c') b.length (b.map bval))
    (hr5 : w5.ownsRow 0 22 1 (.slice a5 (L.recs.length + 1) c5) (L.recs.length + 1) (vals ++ [.slice a' b.length c']))
    (hg5 : (w4.alloc (.cells #[.slice a' b.length c'] 22)).grownBy w5 (Value.slice av L.recs.length cv).ownBlock)
    (hn5 : ∀ g, (Value.slice a5 (L.recs.length + 1) c5).ownBlock = some g → (Value.slice av L.recs.length cv).ownBlock = some g ∨ g = (w4.alloc (.cells #[.slice a' b.length c'] 22)).heap.size) (hb : b.length ≤ 60000) :
    LogAt (w5.setCell ⟨q, 4, none⟩ (.slice a5 (L.recs.length + 1) c5)) q p (More T w w5) (L.push b) ∧ Upd T w (w5.setCell ⟨q, 4, none⟩ (.slice a5 (L.recs.length + 1) c5)) := by
  have hq := h.lt q h.own
  have A4 : Below w.heap.size w (w4.alloc (.cells #[.slice a' b.length c'] 22)) := b4.trans ((upd_box _).mono b4.size)
  have hz : (w4.alloc (.cells #[.slice a' b.length c'] 22)).heap.size = w4.heap.size + 1 := by simp
  have hs4 := b4.size
  have hs5 := hg5.size
  have u1 : Upd (fun g => (Value.slice av L.recs.length cv).ownBlock = some g) w w5 := (below_upd _ A4).trans ((Upd.refl _ _).grown hg5 (fun j hj => .inl hj)) (fun _ _ h => h)
  have u2 : Upd (fun k => k = q) w5 (w5.setCell ⟨q, 4, none⟩ (.slice a5 (L.recs.length + 1) c5)) := upd_set _ _
  have hnq : ¬ (Value.slice av L.recs.length cv).ownBlock = some q := fun e => (m9 q e).2.1 rfl
  have e1 := fun o => u1.cell (p := ⟨q, o, none⟩) hq hnq
  obtain ⟨g1, -, g3, g4, g5⟩ := bytes_of_row hr4
  have hadr := own_addr hr4
  have hrow := RowsOf.snoc (w := w4.alloc (.cells #[.slice a' b.length c'] 22)) (w1 := w5) (x := b) (ad := a') (c := c') (E := E) (L := L.recs) (ownsRow_upd (S := fun _ => False) h1 (below_upd _ A4) (fun _ _ h => h)) (fun i hi => by
    obtain ⟨ad, c, q1, q2, q3⟩ := h2 i hi
    exact ⟨ad, c, q1, q2.below A4, q3⟩) hr5 hg5 (g1.below (upd_box _)) g3 g4 g5 (fun y hy e => by have := (hadr y hy).1; have := h.lt _ (m9 _ e).1; omega) (fun g hg e => (m9 g e).2.2 hg)
  have hq4 : w5.cell? ⟨q, 4, none⟩ = w.cell? ⟨q, 4, none⟩ := e1 4
  obtain ⟨cur, hcur, hcs⟩ := h.blk
  have hblk : w5.heap[q]? = some (.cells cur 65 (0, 0)) := (u1.block q hq hnq).trans hcur
  have hc4 : ∃ u, w5.cell? ⟨q, 4, none⟩ = some u := by
    obtain ⟨a0, c0, h0⟩ := h.records
    exact ⟨_, hq4.trans h0⟩
  obtain ⟨u4, hc4⟩ := hc4
  refine ⟨⟨.inl h.own, fun k hk => ?_, ⟨_, setCell_heap_at hblk, by simp [hcs]⟩, by rw [cell_other (by omega), e1]; exact h.c0, by rw [cell_other (by omega), e1]; exact h.c1, by rw [cell_other (by omega), e1]; exact h.c2, by rw [cell_other (by omega), e1]; exact h.c5,
    ⟨a, c, .slice a5 (L.recs.length + 1) c5, _, by rw [cell_other (by omega), e1]; exact m1, (m2.upd u1 (fun _ x hx => (m6 x hx).2.2)).upd u2 (fun _ x hx => (m6 x hx).2.1), m3, m4, m5, fun x hx => ⟨.inl (m6 x hx).1, (m6 x hx).2.1, fun e => ?_⟩, cell_same hc4,
      hrow.upd u2 (fun g hg e => ?_) (fun g hg e => ?_), fun g hg => ?_, fun g hg => ?_⟩, h.f2, h.g32, h.i60, fun x hx => ?_⟩, (u1.mono (fun k _ e => (m9 k e).1)).trans u2 (fun k _ e => by rw [e]; exact h.own)⟩
  · rw [setCell_size]
    rcases hk with hk | hk
    · have := h.lt k hk; omega
    · exact hk.2
  · rcases hn5 _ e with e | e
    · exact (m6 x hx).2.2 e
    · have := h.lt _ (m6 x hx).1; omega
  · subst e
    rcases hn5 _ hg with e | e
    · exact hnq e
    · omega
  · subst e
    rcases hg with hg | ⟨y, hy, hg⟩
    · exact (m10 _ hg).2 rfl
    · have := (hadr y hy).1; omega
  · rcases hn5 _ hg with e | e
    · obtain ⟨k1, k2, k3⟩ := m9 g e
      refine ⟨.inl k1, k2, fun hE => ?_⟩
      rcases hE with hE | ⟨y, hy, hE⟩
      · exact k3 hE
      · have := (hadr y hy).1; have := h.lt _ k1; omega
    · have hlt := own_lt hr5 hg
      refine ⟨.inr ⟨by omega, hlt⟩, by omega, fun hE => ?_⟩
      rcases hE with hE | ⟨y, hy, hE⟩
      · have := h.lt _ (m10 _ hE).1; omega
      · have := (hadr y hy).2; omega
  · rcases hg with hg | ⟨y, hy, rfl⟩
    · exact ⟨.inl (m10 g hg).1, (m10 g hg).2⟩
    · have := hadr y hy
      exact ⟨.inr ⟨by omega, by omega⟩, by omega⟩
  · rcases List.mem_append.1 hx with hx | hx
    · exact h.r60 x hx
    · rw [List.mem_singleton.1 hx]; exact hb

set_option maxHeartbeats 4000000 in
theorem log_append {w : World} {B p q : Nat} {S T : Nat → Prop} {D : DM} {L : LM} (h : Both w B p q S T D L) (hH : HalvesAt w) (ad : Option Addr) (b : List UInt8) (n c : Nat) (hn : b.length = n) (hx : IsBytes w ad b) (hnc : ad = none → c = 0)
    (hb : b ≠ [] → ∀ x, ad = some x → ¬ (S x.block ∨ T x.block)) (hr : L.recs.length ≤ 1000000) :
    Calls Tryd.prog 16 #[.pointer (some ⟨q, 0, none⟩), .slice ad n c] w (BothAfter w B p q S T (logAppend D L b).1 (logAppend D L b).2.1 (logAppend D L b).2.2) := by
  have HU := Lib.hid (log_usable q L.over w h.log.c5)
  have HH := Lib.hid h
  have HT := Lib.hid hH
  have HN := Lib.hid hn
  have HB := Lib.hid hb
  have hxl := hx.lt
  have HXL := Lib.hid hxl
  have x0 := h.log.c0
  have x1 := h.log.c1
  clear h hH hn hb hxl
  by_cases ho : L.over = true
  · have EQ : Hid (logAppend D L b = (6, D, L)) := if_pos ho
    rw [ho] at HU
    clear ho
    go_enter Tryd.func16, Tryd.ntmps16
    go_wp2_with fail
    refine HU.out.mono ?_
    rintro e w1 ⟨rfl, rfl⟩
    go_wp2
    go_ret
    rw [EQ.out]
    exact ⟨rfl, S, T, HH.out, Went.below (Below.refl _ _)⟩
  · have ho2 : L.over = false := by simpa using ho
    rw [ho2] at HU
    clear ho2
    by_cases hl : b.length < 1 ∨ 4000 < b.length
    · have EQ : Hid (logAppend D L b = (4, D, L)) := by show logAppend D L b = _; unfold logAppend; rw [if_neg ho, if_pos hl]
      rw [HN.out] at hl
      clear ho
      by_cases h4 : 4000 < n
      · have h4i : (4000 : Int) < (n : Int) := by omega
        clear hl
        go_enter Tryd.func16, Tryd.ntmps16
        go_wp2_with fail
        refine HU.out.mono ?_
        rintro e w1 ⟨rfl, rfl⟩
        go_wp2
        go_ret
        rw [EQ.out]
        exact ⟨rfl, S, T, HH.out, Went.below (Below.refl _ _)⟩
      · have h4i : ¬ (4000 : Int) < (n : Int) := by omega
        have hn0 : n < 1 ∨ 60000 < n := by omega
        have HF := Lib.hid (code_frame_no ad b n c w HN.out hn0)
        have hb0 : b.length < 1 ∨ 60000 < b.length := by rw [HN.out]; exact hn0
        have HB0 := Lib.hid hb0
        clear hl hn0 hb0
        go_enter Tryd.func16, Tryd.ntmps16
        go_wp2_with fail
        refine HU.out.mono ?_
        rintro e w1 ⟨rfl, rfl⟩
        go_wp2_with fail
        refine HF.out.mono ?_
        rintro e w1 ⟨a1, m1, c1, er, rfl, -, hno, -, b1⟩
        obtain ⟨rfl, rfl⟩ := hno HB0.out
        clear hno
        go_wp2
        go_ret
        rw [EQ.out]
        exact ⟨rfl, S, T, HH.out.below b1, Went.below b1⟩
    · have h4i : ¬ (4000 : Int) < (n : Int) := by rw [HN.out] at hl; omega
      have hn60 : ¬ (b.length < 1 ∨ 60000 < b.length) := by omega
      have hbne : b ≠ [] := by intro e; rw [e] at hl; simp at hl
      have HF := Lib.hid (code_frame ad b n c w HT.out HN.out hx hnc)
      have HN60 := Lib.hid hn60
      have HBN := Lib.hid hbne
      have HL := Lib.hid hl
      have HO := Lib.hid ho
      clear hn60 hbne hl ho
      go_enter Tryd.func16, Tryd.ntmps16
      go_wp2_with fail
      refine HU.out.mono ?_
      rintro e w1 ⟨rfl, rfl⟩
      go_wp2_with fail
      refine HF.out.mono ?_
      rintro e w1 ⟨a1, m1, c1, er, rfl, hm1, -, hok, b1⟩
      obtain ⟨rfl, rfl, hy1, hr1⟩ := hok HN60.out
      rw [HN.out] at hr1 hm1
      rw [HN.out]
      obtain ⟨-, -, g3, g4, g5⟩ := bytes_of_row hr1
      have hadr := own_addr hr1
      have HADR := Lib.hid hadr
      have H1 := Lib.hid (HH.out.below b1)
      have B1 := Lib.hid b1
      have HY1 := Lib.hid hy1
      have x10 := H1.out.log.c0
      have x11 := H1.out.log.c1
      obtain ⟨V1, hd1⟩ := H1.out.disk
      have HR := Lib.hid (room_in hd1)
      have HOK := Lib.hid hd1.ok
      have hfl : Hid ((frameOf b).length = 7 + n) := by show (frameOf b).length = 7 + n; rw [frameOf_len, HN.out]
      clear hok hr1 hadr b1 hy1 hd1 x0 x1
      go_wp2_with fail
      refine HR.out.mono ?_
      rintro e w2 ⟨rfl, b2⟩
      have H2 := Lib.hid (H1.out.below b2)
      have B2 := Lib.hid (B1.out.trans (b2.mono B1.out.size))
      have HY2 := Lib.hid (HY1.out.below b2)
      have x20 := H2.out.log.c0
      have x21 := H2.out.log.c1
      have hszs := b2.size
      have HSZ := Lib.hid hszs
      clear b2 x10 x11 hszs
      by_cases hroom : D.cap < D.used 8 + (7 + n)
      · have EQ : Hid (logAppend D L b = (5, D, L)) := by show logAppend D L b = _; unfold logAppend; rw [if_neg HO.out, if_neg HL.out, if_pos (by rw [HN.out]; exact hroom)]
        have hroomi : (D.cap : Int) - (D.used 8 : Int) < 7 + (n : Int) := by omega
        clear hroom
        go_wp2
        go_ret
        rw [EQ.out]
        exact ⟨rfl, S, T, H2.out, Went.below B2.out⟩
      · have hroomi : ¬ (D.cap : Int) - (D.used 8 : Int) < 7 + (n : Int) := by omega
        have HW := Lib.hid (log_write H2.out L.file a1 (frameOf b) (7 + n) c1 hfl.out g3 g4 HY2.out g5 (fun x hx hs => by
          have := (HADR.out x hx).1
          obtain ⟨V, hd⟩ := HH.out.disk
          have := hd.lt _ hs
          omega))
        have EQ0 : (D.write L.file (frameOf b)).1 = 0 → logAppend D L b = (0, (D.write L.file (frameOf b)).2, L.push b) := fun hz => by unfold logAppend; rw [if_neg HO.out, if_neg HL.out, if_neg (by rw [HN.out]; exact hroom), if_pos hz]
        have EQ1 : ¬ (D.write L.file (frameOf b)).1 = 0 → logAppend D L b = ((D.write L.file (frameOf b)).1, (D.write L.file (frameOf b)).2, L.ends (D.write L.file (frameOf b)).1) := fun hz => by unfold logAppend; rw [if_neg HO.out, if_neg HL.out, if_neg (by rw [HN.out]; exact hroom), if_neg hz]
        obtain ⟨r, hr0⟩ : ∃ r, D.write L.file (frameOf b) = r := ⟨_, rfl⟩
        rw [hr0] at HW EQ0 EQ1
        have E0 := Lib.hid EQ0
        have E1 := Lib.hid EQ1
        clear hr0 EQ0 EQ1 hroom
        go_wp2_with fail
        refine HW.out.mono ?_
        rintro e w3 ⟨rfl, S3, T3, h3, g3'⟩
        have H3 := Lib.hid h3
        have G3 := Lib.hid ((Went.below B2.out).trans g3')
        have x35 := h3.log.c5
        have f35 := h3.log.frozen 5
        clear h3 g3' x20 x21
        by_cases hz : r.1 = 0
        · have EQ := Lib.hid (E0.out hz)
          rw [hz]
          clear hz x35 f35
          have hx3 : IsBytes w3 ad b := hx.upd G3.out.upd (fun _ x hx => HB.out HBN.out x hx)
          obtain ⟨a, ci, v, E, m1, m2, m3, m4, m5, m6, m7, m8, m9, m10⟩ := H3.out.log.mem
          obtain ⟨av, cv, rfl⟩ := m8.slice
          obtain ⟨vals, k1, k2⟩ := m8
          obtain ⟨mm, hmm⟩ : ∃ mm, L.recs.length = mm := ⟨_, rfl⟩
          have hq3 := H3.out.log.lt q H3.out.log.own
          have f34 := H3.out.log.frozen 4
          have b0 := Below.refl w3.heap.size w3
          have M6 := Lib.hid m6
          have M9 := Lib.hid m9
          have M10 := Lib.hid m10
          have K2 := Lib.hid k2
          have M5 := Lib.hid m5
          have M1 := Lib.hid m1
          have HX3 := Lib.hid hx3
          have K1 : Hid (w3.ownsRow 0 22 1 (.slice av mm cv) mm vals) := by show w3.ownsRow 0 22 1 (.slice av mm cv) mm vals; rw [← hmm]; exact k1
          rw [hmm] at m7
          have HMM := Lib.hid hmm
          rw [hmm] at hr
          clear m5 m6 m9 m10 k2 k1 hmm hx3 m1 hm1
          have HNQ : Hid (¬ (Value.slice av mm cv).ownBlock = some q) := fun e => (M9.out q (by rw [HMM.out]; exact e)).2.1 rfl
          have hmx : mm + 1 ≤ maxLen := by unfold maxLen; omega
          have hmb : (mm + 1) * 24 ≤ 140737488355328 := by omega
          have hnb : n ≤ 140737488355328 := by have := HL.out; have := HN.out; omega
          go_wp2_with fail
          go_region_law (first
              | (refine step_call (by rfl) 44 _ _ (by rfl) (enters_of Tryd.func44 (by kernel_rfl) rfl) #[.slice ad n c] (by kernel_rfl) (clone_bytes ad b n c w3.drew HN.out (HX3.out.below b0.drew) hnc hnb) ?_; rintro e w4 ⟨⟨a', c', rfl, hr4⟩, b4⟩; refine ⟨_, rfl, ?_⟩; have b4 := b0.drew.trans b4; have x4 := (Below.cell (p := ⟨q, 4, none⟩) (B := w3.heap.size) b4 hq3).trans m7; have q4 : q < w4.heap.size := Nat.lt_of_lt_of_le hq3 b4.size; have A4 : Below w3.heap.size w3 (w4.alloc (.cells #[.slice a' n c'] 22)) := b4.trans ((upd_box _).mono b4.size); have hT : (w4.alloc (.cells #[.slice a' n c'] 22)).ownsRow 0 22 1 (.slice av mm cv) mm vals := ownsRow_upd (S := fun _ => False) K1.out (below_upd _ A4) (fun _ _ h => h); have xT : (w4.alloc (.cells #[.slice a' n c'] 22)).cell? ⟨w4.heap.size, 0, none⟩ = some (.slice a' n c') := by simp)
              | (refine step_append_elem (by rfl) _ _ 33 (by rfl) 0 22 (.slice none 0 0) 24 Tryd.underlying33 sl_info rfl (.slice av mm cv) mm vals (by kernel_rfl) hT (.slice a' n c') rfl ⟨w4.heap.size, 0, none⟩ 1 (by kernel_rfl) xT (mm + 1) rfl hmx hmb (Nat.zero_le _) ?_; intro a5 c5 w5 hr5 hg5 hn5; have x5 : w5.cell? ⟨q, 4, none⟩ = some (.slice av mm cv) := (Upd.cell (p := ⟨q, 4, none⟩) ((Upd.refl (fun g => (Value.slice av mm cv).ownBlock = some g) _).grown hg5 (fun j hj => .inl hj)) (Nat.lt_of_lt_of_le hq3 A4.size) HNQ.out).trans ((Below.cell (p := ⟨q, 4, none⟩) (B := w3.heap.size) A4 hq3).trans m7); have f5 : w5.frozen? ⟨q, 4, none⟩ = false := (Upd.frozen (p := ⟨q, 4, none⟩) ((Upd.refl (fun g => (Value.slice av mm cv).ownBlock = some g) _).grown hg5 (fun j hj => .inl hj)) (Nat.lt_of_lt_of_le hq3 A4.size) HNQ.out).trans ((Below.frozen (p := ⟨q, 4, none⟩) (B := w3.heap.size) A4 hq3).trans f34)))
          all_goals
            go_wp2
            go_ret
            rw [EQ.out]
            have e1 := HMM.out
            have e2 := HN.out
            subst e1
            subst e2
            obtain ⟨hl, hu⟩ := H3.out.log.push (E := E) M1.out m2 m3 m4 M5.out M6.out K1.out K2.out M9.out M10.out b4 hr4 hr5 hg5 hn5 (by have := HL.out; omega)
            obtain ⟨V3, hd3⟩ := H3.out.disk
            exact ⟨rfl, S3, _, ⟨⟨V3, hd3.upd hu (fun k hk => H3.out.st k hk)⟩, hl, H3.out.sB, fun k hk => hk.elim (H3.out.tB k) (fun x => Nat.le_trans H3.out.size x.1), fun k hk ht => ht.elim (H3.out.st k hk) (fun x => by have := hd3.lt k hk; omega)⟩,
              G3.out.trans ⟨hu.mono (fun k _ x => .inr x), fun k hk => .inl hk, fun k hk => hk.imp id And.left⟩⟩
        · have EQ := Lib.hid (E1.out hz)
          have hb9 : (r.1 != 0) = true := by simpa using hz
          have HE := Lib.hid (log_ended q r.1 _ w3 x35 f35)
          clear hz x35 f35
          go_wp2_with fail
          refine HE.out.mono ?_
          rintro e w4 ⟨rfl, rfl⟩
          go_wp2
          go_ret
          rw [EQ.out]
          obtain ⟨V3, hd3⟩ := H3.out.disk
          have u5 : Upd (fun k => k = q) w3 (w3.setCell ⟨q, 5, none⟩ (.bool (r.1 == 6))) := upd_set _ _
          exact ⟨rfl, S3, T3, ⟨⟨V3, hd3.upd u5 (fun k hk e => H3.out.st k hk (by rw [e]; exact H3.out.log.own))⟩, H3.out.log.ended _, H3.out.sB, H3.out.tB, H3.out.st⟩,
            G3.out.trans ⟨u5.mono (fun k _ e => by rw [e]; exact .inr H3.out.log.own), fun k hk => .inl hk, fun k hk => .inl hk⟩⟩
end Go.Proofs.YteipcbpkgpffjaaDoor
