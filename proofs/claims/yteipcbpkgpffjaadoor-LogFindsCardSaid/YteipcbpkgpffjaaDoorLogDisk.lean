/-
  A log and its disk, side by side: the log's own calls of the disk (write, drop, place), and Read with all that it answers. Conditions: those of each theorem ('Both': the pointers lead to a disk that holds D and a log on it that holds L).
-/
import Derived.Test.YteipcbpkgpffjaaDoorLogAt
namespace Go.Proofs.YteipcbpkgpffjaaDoor
open Go.RowKit
set_option maxRecDepth 100000

/-- A disk and a log on it; S and T: the blocks of each; none of them is below B. -/
structure Both (w : World) (B p q : Nat) (S T : Nat → Prop) (D : DM) (L : LM) : Prop where
  disk : ∃ V, DiskAt w p S V D
  log : LogAt w q p T L
  sB : ∀ k, S k → B ≤ k
  tB : ∀ k, T k → B ≤ k
  st : ∀ k, S k → ¬ T k
/-- What has turned: the blocks of S and T, and what is new; S' and T' are of those. -/
structure Went (w : World) (S T : Nat → Prop) (w' : World) (S' T' : Nat → Prop) : Prop where
  upd : Upd (fun k => S k ∨ T k) w w'
  s : ∀ k, S' k → S k ∨ w.heap.size ≤ k
  t : ∀ k, T' k → T k ∨ w.heap.size ≤ k
theorem Went.trans {w w1 w2 : World} {S T S1 T1 S2 T2 : Nat → Prop} (h : Went w S T w1 S1 T1) (k : Went w1 S1 T1 w2 S2 T2) : Went w S T w2 S2 T2 :=
  ⟨h.upd.trans k.upd (fun i hi x => by
    rcases x with x | x
    · exact (h.s i x).imp id (fun y => by omega)
    · rcases h.t i x with y | y
      · exact .inr y
      · omega),
   fun i x => (k.s i x).elim (h.s i) (fun y => .inr (Nat.le_trans h.upd.size y)), fun i x => (k.t i x).elim (h.t i) (fun y => .inr (Nat.le_trans h.upd.size y))⟩
theorem Went.below {w w' : World} {S T : Nat → Prop} (h : Below w.heap.size w w') : Went w S T w' S T := ⟨below_upd _ h, fun _ x => .inl x, fun _ x => .inl x⟩
theorem Went.kept {w w' : World} {S T S' T' : Nat → Prop} (h : Went w S T w' S' T') {k : Nat} (hk : k < w.heap.size) (hn : ¬ (S k ∨ T k)) : ¬ (S' k ∨ T' k) := fun x => by
  rcases x with x | x
  · rcases h.s k x with y | y
    · exact hn (.inl y)
    · omega
  · rcases h.t k x with y | y
    · exact hn (.inr y)
    · omega
theorem Both.size {w : World} {B p q : Nat} {S T : Nat → Prop} {D : DM} {L : LM} (h : Both w B p q S T D L) : B ≤ w.heap.size :=
  Nat.le_of_lt (Nat.lt_of_le_of_lt (h.tB q h.log.own) (h.log.lt q h.log.own))
theorem Both.below {w w' : World} {B p q : Nat} {S T : Nat → Prop} {D : DM} {L : LM} (h : Both w B p q S T D L) (hb : Below w.heap.size w w') : Both w' B p q S T D L := by
  obtain ⟨V, hd⟩ := h.disk
  exact ⟨⟨V, hd.below hb⟩, h.log.below hb, h.sB, h.tB, h.st⟩
theorem Both.went {w w' : World} {B p q : Nat} {S T S' T' : Nat → Prop} {D : DM} {L : LM} (h : Both w B p q S T D L) (g : Went w S T w' S' T') : Below B w w' :=
  g.upd.toBelow h.size (fun k hk x => x.elim (fun y => by have := h.sB k y; omega) (fun y => by have := h.tB k y; omega))
/-- Behind a call of the disk. -/
theorem Both.step {w w' : World} {B p q : Nat} {S T : Nat → Prop} {D : DM} {L : LM} {r : Int × DM} {e : Ending} (h : Both w B p q S T D L) (ha : After w p S r e w') :
    e = .returned (.int .i64 r.1) ∧ ∃ S', Both w' B p q S' T r.2 L ∧ Went w S T w' S' T := by
  obtain ⟨he, S', V', h1, u1, m1⟩ := ha
  refine ⟨he, S', ⟨⟨V', h1⟩, h.log.upd u1 (fun k hk hs => h.st k hs hk), fun k hk => ?_, h.tB, fun k hk ht => ?_⟩, ⟨u1.mono (fun k _ x => .inl x), fun k hk => (m1 k hk).imp id And.left, fun k hk => .inl hk⟩⟩
  · rcases m1 k hk with x | x
    · exact h.sB k x
    · exact Nat.le_trans h.size x.1
  · rcases m1 k hk with x | x
    · exact h.st k x ht
    · have := h.log.lt k ht; omega
/-- What a call of the log answers, and leaves. -/
def BothAfter (w : World) (B p q : Nat) (S T : Nat → Prop) (c : Int) (D : DM) (L : LM) (e : Ending) (w' : World) : Prop :=
  e = .returned (.int .i64 c) ∧ ∃ S' T', Both w' B p q S' T' D L ∧ Went w S T w' S' T'

def DM.write (D : DM) (f : Nat) (ys : List UInt8) : Int × DM := if (D.append f ys).1 = 0 then (D.append f ys).2.sync f else D.append f ys
def DM.drop (D : DM) (f : Nat) : Int × DM := if (D.f f).has then D.remove f else (0, D)
def DM.place (D : DM) (ys : List UInt8) (fl : Nat) : Int × DM :=
  if (D.drop 3).1 = 0 then (if ((D.drop 3).2.write 3 ys).1 = 0 then ((D.drop 3).2.write 3 ys).2.rename 3 fl else (D.drop 3).2.write 3 ys) else D.drop 3

theorem DM.write_yes {D : DM} {f : Nat} {ys : List UInt8} (h : (D.append f ys).1 = 0) : D.write f ys = (D.append f ys).2.sync f := if_pos h
theorem DM.write_no {D : DM} {f : Nat} {ys : List UInt8} (h : ¬ (D.append f ys).1 = 0) : D.write f ys = D.append f ys := if_neg h
theorem DM.drop_yes {D : DM} {f : Nat} (h : (D.f f).has = true) : D.drop f = D.remove f := if_pos h
theorem DM.drop_no {D : DM} {f : Nat} (h : (D.f f).has = false) : D.drop f = (0, D) := if_neg (by simp [h])
theorem DM.place_drop {D : DM} {ys : List UInt8} {fl : Nat} (h : ¬ (D.drop 3).1 = 0) : D.place ys fl = D.drop 3 := if_neg h
theorem DM.place_write {D : DM} {ys : List UInt8} {fl : Nat} (h : (D.drop 3).1 = 0) (h2 : ¬ ((D.drop 3).2.write 3 ys).1 = 0) : D.place ys fl = (D.drop 3).2.write 3 ys := by unfold DM.place; rw [if_pos h, if_neg h2]
theorem DM.place_yes {D : DM} {ys : List UInt8} {fl : Nat} (h : (D.drop 3).1 = 0) (h2 : ((D.drop 3).2.write 3 ys).1 = 0) : D.place ys fl = ((D.drop 3).2.write 3 ys).2.rename 3 fl := by unfold DM.place; rw [if_pos h, if_pos h2]

set_option maxHeartbeats 800000 in
theorem log_write {w : World} {B p q : Nat} {S T : Nat → Prop} {D : DM} {L : LM} (h : Both w B p q S T D L) (f : Nat) (ad : Option Addr) (ys : List UInt8) (n c : Nat) (hn : ys.length = n) (hc : n ≤ c) (hcm : c ≤ maxLen) (hy : IsBytes w ad ys) (hnc : ad = none → c = 0) (hys : ∀ x, ad = some x → ¬ S x.block) :
    Calls Tryd.prog 42 #[.pointer (some ⟨q, 0, none⟩), .int .i64 (f : Int), .slice ad n c] w (BothAfter w B p q S T (D.write f ys).1 (D.write f ys).2 L) := by
  subst hn
  obtain ⟨V, hd⟩ := h.disk
  have x0 := h.log.c0
  have HA := Lib.hid (append_in hd (f : Int) ad ys c hc hcm hy hnc (fun _ => hys))
  have HH := Lib.hid h
  have HE1 := Lib.hid (DM.write_yes (D := D) (f := f) (ys := ys))
  have HE2 := Lib.hid (DM.write_no (D := D) (f := f) (ys := ys))
  obtain ⟨r, hr⟩ : ∃ r, D.append f ys = r := ⟨_, rfl⟩
  rw [hr] at HA HE1 HE2
  clear hr h hd hys hy hnc
  go_enter Tryd.func42, Tryd.ntmps42
  go_wp2_with fail
  refine HA.out.mono ?_
  intro e w1 ha
  obtain ⟨rfl, S1, h1, g1⟩ := HH.out.step ha
  have G1 := Lib.hid g1
  have H1 := Lib.hid h1
  obtain ⟨V1, hd1⟩ := h1.disk
  have x1 := h1.log.c0
  by_cases hz : r.1 = 0
  · rw [hz]
    have EQ := Lib.hid (HE1.out hz)
    have HS := Lib.hid (sync_in hd1 (f : Int))
    clear ha g1 h1 hd1 x0 hz
    go_wp2_with fail
    refine HS.out.mono ?_
    intro e w2 ha2
    obtain ⟨rfl, S2, h2, g2⟩ := H1.out.step ha2
    clear ha2
    go_wp2
    go_ret
    rw [EQ.out]
    exact ⟨rfl, S2, T, h2, G1.out.trans g2⟩
  · have EQ := Lib.hid (HE2.out hz)
    have hb : (r.1 != 0) = true := by simpa using hz
    clear ha g1 h1 hd1 x0 hz
    go_wp2
    go_ret
    rw [EQ.out]
    exact ⟨rfl, S1, T, H1.out, G1.out⟩

set_option maxHeartbeats 800000 in
theorem log_drop {w : World} {B p q : Nat} {S T : Nat → Prop} {D : DM} {L : LM} (h : Both w B p q S T D L) (f : Nat) (hf : f < 8) :
    Calls Tryd.prog 47 #[.pointer (some ⟨q, 0, none⟩), .int .i64 (f : Int)] w (BothAfter w B p q S T (D.drop f).1 (D.drop f).2 L) := by
  obtain ⟨V, hd⟩ := h.disk
  have x0 := h.log.c0
  have HA := Lib.hid (has_in hd f hf)
  have HH := Lib.hid h
  have HE1 := Lib.hid (DM.drop_yes (D := D) (f := f))
  have HE2 := Lib.hid (DM.drop_no (D := D) (f := f))
  clear h hd
  go_enter Tryd.func47, Tryd.ntmps47
  go_wp2_with fail
  refine HA.out.mono ?_
  rintro e w1 ⟨rfl, b1⟩
  have H1 := Lib.hid (HH.out.below b1)
  have B1 := Lib.hid b1
  obtain ⟨V1, hd1⟩ := H1.out.disk
  have x1 := H1.out.log.c0
  have HS := Lib.hid (remove_in hd1 (f : Int))
  clear hd1 b1 x0
  cases hh : (D.f f).has
  · have EQ := Lib.hid (HE2.out hh)
    go_wp2
    go_ret
    rw [EQ.out]
    exact ⟨rfl, S, T, H1.out, Went.below B1.out⟩
  · have EQ := Lib.hid (HE1.out hh)
    go_wp2_with fail
    refine HS.out.mono ?_
    intro e w2 ha2
    obtain ⟨rfl, S2, h2, g2⟩ := H1.out.step ha2
    clear ha2
    go_wp2
    go_ret
    rw [EQ.out]
    exact ⟨rfl, S2, T, h2, (Went.below B1.out).trans g2⟩

set_option maxHeartbeats 800000 in
theorem log_place {w : World} {B p q : Nat} {S T : Nat → Prop} {D : DM} {L : LM} (h : Both w B p q S T D L) (fl : Nat) (ad : Option Addr) (ys : List UInt8) (n c : Nat) (hn : ys.length = n) (hc : n ≤ c) (hcm : c ≤ maxLen) (hy : IsBytes w ad ys) (hnc : ad = none → c = 0) (hys : ∀ x, ad = some x → x.block < w.heap.size ∧ ¬ (S x.block ∨ T x.block)) :
    Calls Tryd.prog 46 #[.pointer (some ⟨q, 0, none⟩), .slice ad n c, .int .i64 (fl : Int)] w (BothAfter w B p q S T (D.place ys fl).1 (D.place ys fl).2 L) := by
  have HA := Lib.hid (log_drop h 3 (by omega))
  have HH := Lib.hid h
  have HY := Lib.hid hy
  have HYS := Lib.hid hys
  have HN := Lib.hid hn
  have HE0 := Lib.hid (DM.place_drop (D := D) (ys := ys) (fl := fl))
  have HE1 := Lib.hid (DM.place_write (D := D) (ys := ys) (fl := fl))
  have HE2 := Lib.hid (DM.place_yes (D := D) (ys := ys) (fl := fl))
  obtain ⟨r, hr⟩ : ∃ r, D.drop 3 = r := ⟨_, rfl⟩
  rw [hr] at HA HE0 HE1 HE2
  clear hr h hys hy hn
  go_enter Tryd.func46, Tryd.ntmps46
  go_wp2_with fail
  refine HA.out.mono ?_
  rintro e w1 ⟨rfl, S1, T1, h1, g1⟩
  have G1 := Lib.hid g1
  have H1 := Lib.hid h1
  clear g1 h1
  by_cases hz : r.1 = 0
  · rw [hz]
    have hz1 := Lib.hid hz
    have hy1 : IsBytes w1 ad ys := HY.out.upd G1.out.upd (fun _ x hx => (HYS.out x hx).2)
    have HW := Lib.hid (log_write H1.out 3 ad ys n c HN.out hc hcm hy1 hnc (fun x hx hs => G1.out.kept (HYS.out x hx).1 (HYS.out x hx).2 (.inl hs)))
    obtain ⟨r2, hr2⟩ : ∃ r2, r.2.write 3 ys = r2 := ⟨_, rfl⟩
    rw [hr2] at HW HE1 HE2
    clear hy1 hr2 hz hnc
    go_wp2_with fail
    refine HW.out.mono ?_
    rintro e w2 ⟨rfl, S2, T2, h2, g2⟩
    have G2 := Lib.hid (G1.out.trans g2)
    have H2 := Lib.hid h2
    obtain ⟨V2, hd2⟩ := h2.disk
    have x2 := h2.log.c0
    have HR := Lib.hid (rename_in hd2 3 (fl : Int))
    clear g2 h2 hd2
    by_cases hz2 : r2.1 = 0
    · have EQ := Lib.hid (HE2.out hz1.out hz2)
      rw [hz2]
      clear hz2
      go_wp2_with fail
      refine HR.out.mono ?_
      intro e w3 ha3
      obtain ⟨rfl, S3, h3, g3⟩ := H2.out.step ha3
      clear ha3
      go_wp2
      go_ret
      rw [EQ.out]
      exact ⟨rfl, S3, T2, h3, G2.out.trans g3⟩
    · have EQ := Lib.hid (HE1.out hz1.out hz2)
      have hb : (r2.1 != 0) = true := by simpa using hz2
      clear hz2
      go_wp2
      go_ret
      rw [EQ.out]
      exact ⟨rfl, S2, T2, H2.out, G2.out⟩
  · have EQ := Lib.hid (HE0.out hz)
    have hb : (r.1 != 0) = true := by simpa using hz
    clear hz
    go_wp2
    go_ret
    rw [EQ.out]
    exact ⟨rfl, S1, T1, H1.out, G1.out⟩

/-- Read, with all that it answers. -/
theorem DM.prs_nat {D : DM} {i : Nat} (hi : i < 8) (hl : D.lost = false) : D.prs i = if (D.f i).has then 0 else 7 := by
  unfold DM.prs
  rw [hl, if_neg (by decide), if_pos (by simp [inRange]; omega), Int.toNat_natCast]
set_option maxHeartbeats 800000 in
theorem read_all {w : World} {p : Nat} {S : Nat → Prop} {V : Nat → Value} {D : DM} (h : DiskAt w p S V D) (i : Nat) (hi : i < 8) (hl : D.lost = false) :
    Calls Tryd.prog 54 #[.pointer (some ⟨p, 0, none⟩), .int .i64 (i : Int)] w fun e w' =>
      (∃ a n c er, e = .returned (.tuple #[.slice a n c, .int .i64 er]) ∧ ((D.f i).has = true → er = 0) ∧ ((D.f i).has = false → er = 7) ∧ (D.f i).b.length = n ∧ IsBytes w' a (D.f i).b ∧ n ≤ c ∧ c ≤ maxLen ∧ (a = none → c = 0) ∧ ∀ x, a = some x → w.heap.size ≤ x.block) ∧ Below w.heap.size w w' := by
  have HP := Lib.hid (present_in h (i : Int))
  have HQ := Lib.hid (DM.prs_nat (D := D) hi hl)
  rw [HQ.out] at HP
  have hi8 : (i : Int) < 8 := by omega
  clear hl
  cases hh : (D.f i).has
  · rw [hh] at HP
    have hno := Lib.hid (h.ok.none i hi hh).1
    go_enter Tryd.func54, Tryd.ntmps54
    go_wp2_with (go_at_call 50; refine HP.out.mono ?_; rintro e w1 ⟨rfl, b1⟩)
    go_ret2
    exact ⟨⟨none, 0, 0, 7, rfl, (fun x => by cases x), (fun _ => rfl), by rw [hno.out]; rfl, .inl hno.out, Nat.le_refl _, Nat.zero_le _, fun _ => rfl, fun x hx => by cases hx⟩, b1⟩
  · rw [hh] at HP
    go_enter Tryd.func54, Tryd.ntmps54
    go_wp2_with fail
    refine HP.out.mono ?_
    rintro e w1 ⟨rfl, b1⟩
    have h1 := h.below b1
    obtain ⟨a, c, hv, hb, hc1, hc2, hnc⟩ := h1.bytes i hi
    have x1 := h1.val i hi
    rw [hv] at x1
    have hlen : (D.f i).b.length ≤ 140737488355328 := by have := D.set_len i hi; have := h.ok.used; have := h.ok.cap; omega
    clear hv
    go_wp2_with fail
    refine (clone_bytes a (D.f i).b _ c w1 rfl hb hnc hlen).mono ?_
    rintro e w2 ⟨⟨a', c', rfl, hr⟩, b2⟩
    have hadr := Lib.hid (own_addr hr)
    have hs1 := b1.size
    go_wp2
    go_ret2
    obtain ⟨g1, g2, g3, g4, g5⟩ := bytes_of_row hr
    exact ⟨⟨a', _, c', 0, rfl, (fun _ => rfl), (fun x => by cases x), rfl, g1, g3, g4, g5, fun x hx => Nat.le_trans hs1 (hadr.out x hx).1⟩, b1.trans (b2.mono b1.size)⟩
end Go.Proofs.YteipcbpkgpffjaaDoor
