/-
  What a log's calls of the disk leave, over the disks that the contracts speak of: all went, or the power was lost on the way. No memory. Conditions: those of each theorem.
-/
import Derived.Test.YteipcbpkgpffjaaDoorLogCreate
namespace Go.Proofs.YteipcbpkgpffjaaDoor
open Go.RowKit
set_option maxRecDepth 100000

def fupd (f : Nat → FM) (i : Nat) (x : FM) : Nat → FM := fun j => if j = i then x else f j
theorem fupd_same (f : Nat → FM) (i : Nat) (x : FM) : fupd f i x i = x := if_pos rfl
theorem fupd_other {f : Nat → FM} {i j : Nat} {x : FM} (h : j ≠ i) : fupd f i x j = f j := if_neg h
/-- All went: the files are g now. -/
structure Kept (D E : DM) (g : Nat → FM) : Prop where
  f : E.f = g
  cap : E.cap = D.cap
  lost : E.lost = false
  lit : D.lit = false → E.lit = false
/-- The power was lost. -/
structure Fell (D E : DM) (g : Nat → FM) : Prop where
  f : E.f = g
  cap : E.cap = D.cap
  lost : E.lost = true
  lit : D.lit = true
/-- The answer and the disk behind a change. -/
def Went2 (D : DM) (r : Int × DM) (g h : Nat → FM) : Prop := (r.1 = 0 ∧ Kept D r.2 g) ∨ (r.1 = 6 ∧ Fell D r.2 h)
theorem Kept.refl {D : DM} (h : D.lost = false) : Kept D D D.f := ⟨rfl, rfl, h, id⟩
theorem Kept.trans {D E F : DM} {g h : Nat → FM} (k : Kept D E g) (l : Kept E F h) : Kept D F h := ⟨l.f, l.cap.trans k.cap, l.lost, fun x => l.lit (k.lit x)⟩
theorem Kept.fell {D E F : DM} {g h : Nat → FM} (k : Kept D E g) (l : Fell E F h) : Fell D F h := ⟨l.f, l.cap.trans k.cap, l.lost, by
  cases hx : D.lit with
  | true => rfl
  | false => have := k.lit hx; rw [l.lit] at this; cases this⟩

theorem spend_two (D : DM) (h : D.lost = false) : (D.spend.1 = 0 ∧ Kept D D.spend.2 D.f) ∨ (D.spend.1 = 6 ∧ Fell D D.spend.2 D.f) := by
  unfold DM.spend
  by_cases hl : D.lit = true
  · rw [if_pos hl]
    by_cases hf : D.fuse = 0
    · rw [if_pos hf]
      exact .inr ⟨rfl, rfl, rfl, rfl, hl⟩
    · rw [if_neg hf]
      exact .inl ⟨rfl, rfl, rfl, h, fun x => by rw [x] at hl; cases hl⟩
  · rw [if_neg hl]
    exact .inl ⟨rfl, Kept.refl h⟩
theorem rd_ok {D : DM} {f : Nat} (hl : D.lost = false) (hf : f < 8) : rd D.lost [(f : Int)] = 0 := by
  unfold rd rdy
  rw [hl]
  simp [inRange]
  omega

theorem append_two {D : DM} {f : Nat} {ys : List UInt8} (hl : D.lost = false) (hf : f < 8) (hr : D.used 8 + ys.length ≤ D.cap) :
    Went2 D (D.append f ys) (fupd D.f f ⟨true, (D.f f).b ++ ys, (D.f f).safe⟩) (fupd D.f f ⟨true, (D.f f).b ++ ys.take (ys.length / 2), (D.f f).safe⟩) := by
  unfold DM.append
  rw [if_pos (rd_ok hl hf), if_neg (by omega), Int.toNat_natCast]
  rcases spend_two D hl with ⟨h1, h2⟩ | ⟨h1, h2⟩
  · rw [if_pos h1]
    exact .inl ⟨rfl, by show (fun j => if j = f then _ else D.spend.2.f j) = _; rw [h2.f]; rfl, h2.cap, h2.lost, h2.lit⟩
  · rw [if_neg (by rw [h1]; decide)]
    exact .inr ⟨rfl, by show (fun j => if j = f then _ else D.spend.2.f j) = _; rw [h2.f]; rfl, h2.cap, h2.lost, h2.lit⟩
theorem prs_ok {D : DM} {f : Nat} (hl : D.lost = false) (hf : f < 8) (hh : (D.f f).has = true) : D.prs f = 0 := by
  rw [DM.prs_nat hf hl, hh]; rfl
theorem sync_two {D : DM} {f : Nat} (hl : D.lost = false) (hf : f < 8) (hh : (D.f f).has = true) :
    Went2 D (D.sync f) (fupd D.f f ⟨true, (D.f f).b, (D.f f).b.length⟩) D.f := by
  unfold DM.sync
  rw [if_pos (prs_ok hl hf hh), Int.toNat_natCast]
  rcases spend_two D hl with ⟨h1, h2⟩ | ⟨h1, h2⟩
  · rw [if_pos h1]
    exact .inl ⟨rfl, by show (fun j => if j = f then _ else D.spend.2.f j) = _; rw [h2.f, hh]; rfl, h2.cap, h2.lost, h2.lit⟩
  · rw [if_neg (by rw [h1]; decide)]
    exact .inr ⟨h1, h2⟩
theorem fm_gone {D : DM} (hok : D.ok) {f : Nat} (hf : f < 8) (hh : (D.f f).has = false) : D.f f = FM.gone := by
  obtain ⟨h1, h2⟩ := hok.none f hf hh
  cases hx : D.f f with
  | mk a b c => rw [hx] at hh h1 h2; simp only at hh h1 h2; rw [hh, h1, h2]; rfl
theorem fupd_id {f : Nat → FM} {i : Nat} {x : FM} (h : f i = x) : fupd f i x = f := by
  funext j
  unfold fupd
  split
  · rename_i e; rw [e, h]
  · rfl
/-- A file that isn't there has nothing. -/
def Tidy (D : DM) : Prop := ∀ f, f < 8 → (D.f f).has = false → D.f f = FM.gone
theorem DM.ok.tidy {D : DM} (h : D.ok) : Tidy D := fun _ hf hh => fm_gone h hf hh
theorem Tidy.upd {D E : DM} (h : Tidy D) {i : Nat} {x : FM} (hE : E.f = fupd D.f i x) (hx : x.has = false → x = FM.gone) : Tidy E := fun f hf hh => by
  rw [hE] at hh ⊢
  unfold fupd at hh ⊢
  split
  · rename_i e; rw [if_pos e] at hh; exact hx hh
  · rename_i e; rw [if_neg e] at hh; exact h f hf hh
theorem drop_two {D : DM} (hok : Tidy D) {f : Nat} (hl : D.lost = false) (hf : f < 8) : Went2 D (D.drop f) (fupd D.f f FM.gone) D.f := by
  cases hh : (D.f f).has with
  | false =>
    rw [DM.drop_no hh, fupd_id (hok f hf hh)]
    exact .inl ⟨rfl, Kept.refl hl⟩
  | true =>
    rw [DM.drop_yes hh]
    unfold DM.remove
    rw [if_pos (prs_ok hl hf hh), Int.toNat_natCast]
    rcases spend_two D hl with ⟨h1, h2⟩ | ⟨h1, h2⟩
    · rw [if_pos h1]
      exact .inl ⟨rfl, by show (fun j => if j = f then _ else D.spend.2.f j) = _; rw [h2.f]; rfl, h2.cap, h2.lost, h2.lit⟩
    · rw [if_neg (by rw [h1]; decide)]
      exact .inr ⟨h1, h2⟩
theorem cut_two {D : DM} {f n : Nat} (hl : D.lost = false) (hf : f < 8) (hh : (D.f f).has = true) (hn : n ≤ (D.f f).b.length) :
    Went2 D (D.cut f n) (fupd D.f f ⟨true, (D.f f).b.take n, n⟩) D.f := by
  unfold DM.cut
  rw [if_pos (prs_ok hl hf hh), Int.toNat_natCast, if_neg (by omega), Int.toNat_natCast]
  rcases spend_two D hl with ⟨h1, h2⟩ | ⟨h1, h2⟩
  · rw [if_pos h1]
    exact .inl ⟨rfl, by show (fun j => if j = f then _ else D.spend.2.f j) = _; rw [h2.f, hh]; rfl, h2.cap, h2.lost, h2.lit⟩
  · rw [if_neg (by rw [h1]; decide)]
    exact .inr ⟨h1, h2⟩
theorem rename_two {D : DM} {a b : Nat} (hl : D.lost = false) (ha : a < 8) (hb : b < 8) (hab : a ≠ b) (hh : (D.f a).has = true) (hs : (D.f a).safe = (D.f a).b.length) :
    Went2 D (D.rename a b) (fupd (fupd D.f b (D.f a)) a FM.gone) D.f := by
  unfold DM.rename
  have hrd : rd D.lost [(a : Int), (b : Int)] = 0 := by
    unfold rd rdy
    rw [hl]
    simp [inRange]
    omega
  rw [if_pos hrd, Int.toNat_natCast, if_pos hh, if_neg (by rintro (h | h); omega; exact h hs), Int.toNat_natCast]
  rcases spend_two D hl with ⟨h1, h2⟩ | ⟨h1, h2⟩
  · rw [if_pos h1]
    refine .inl ⟨rfl, ?_, h2.cap, h2.lost, h2.lit⟩
    show (fun j => if j = a then FM.gone else (fun j => if j = b then D.f a else D.spend.2.f j) j) = _
    rw [h2.f]
    rfl
  · rw [if_neg (by rw [h1]; decide)]
    exact .inr ⟨h1, h2⟩

/-- Behind a write: all of it, and safe; or a part of it, and what was safe. -/
theorem write_two {D : DM} {f : Nat} {ys : List UInt8} (hl : D.lost = false) (hf : f < 8) (hr : D.used 8 + ys.length ≤ D.cap) :
    ((D.write f ys).1 = 0 ∧ Kept D (D.write f ys).2 (fupd D.f f ⟨true, (D.f f).b ++ ys, ((D.f f).b ++ ys).length⟩)) ∨
      ∃ k, ((D.write f ys).1 = 6 ∧ Fell D (D.write f ys).2 (fupd D.f f ⟨true, (D.f f).b ++ ys.take k, (D.f f).safe⟩)) := by
  rcases append_two (ys := ys) hl hf hr with ⟨h1, h2⟩ | ⟨h1, h2⟩
  · rw [DM.write_yes h1]
    have hx : (D.append f ys).2.f f = ⟨true, (D.f f).b ++ ys, (D.f f).safe⟩ := by rw [h2.f, fupd_same]
    rcases sync_two (D := (D.append f ys).2) (f := f) h2.lost hf (by rw [hx]) with ⟨h3, h4⟩ | ⟨h3, h4⟩
    · refine .inl ⟨h3, ?_⟩
      have h5 := h2.trans h4
      rw [hx, h2.f] at h5
      have e : fupd (fupd D.f f ⟨true, (D.f f).b ++ ys, (D.f f).safe⟩) f ⟨true, (D.f f).b ++ ys, ((D.f f).b ++ ys).length⟩ = fupd D.f f ⟨true, (D.f f).b ++ ys, ((D.f f).b ++ ys).length⟩ := by
        funext j
        unfold fupd
        split <;> rfl
      rw [e] at h5
      exact h5
    · refine .inr ⟨ys.length, h3, ?_⟩
      have h5 := h2.fell h4
      rw [h2.f] at h5
      rw [List.take_length]
      exact h5
  · rw [DM.write_no (by rw [h1]; decide)]
    exact .inr ⟨ys.length / 2, h1, h2⟩

theorem used_fupd {D E : DM} {i : Nat} {x : FM} (hi : i < 8) (h : E.f = fupd D.f i x) : E.used 8 + (D.f i).b.length = D.used 8 + x.b.length := by
  have h1 := DM.used_set D i x 8
  rw [if_pos hi, if_pos hi] at h1
  rw [DM.used_congr (D := E) (E := D.set i x) (by rw [h]; rfl)]
  exact h1

/-- Behind a file was made and given its number. -/
theorem place_two {D : DM} (hok : Tidy D) {fl : Nat} {ys : List UInt8} (hl : D.lost = false) (hf : fl < 8) (h3 : fl ≠ 3) (hr : D.used 8 + ys.length ≤ D.cap + (D.f 3).b.length) :
    ((D.place ys fl).1 = 0 ∧ Kept D (D.place ys fl).2 (fupd (fupd D.f fl ⟨true, ys, ys.length⟩) 3 FM.gone)) ∨
      ((D.place ys fl).1 = 6 ∧ (D.place ys fl).2.lost = true ∧ D.lit = true ∧ (D.place ys fl).2.cap = D.cap ∧ ∀ i, i ≠ 3 → (D.place ys fl).2.f i = D.f i) := by
  rcases drop_two hok (f := 3) hl (by omega) with ⟨h1, h2⟩ | ⟨h1, h2⟩
  · have hu := used_fupd (D := D) (by omega) h2.f
    have hx : (D.drop 3).2.f 3 = FM.gone := by rw [h2.f, fupd_same]
    have hg : FM.gone.b = [] := rfl
    have hgl : FM.gone.b.length = 0 := rfl
    rcases write_two (D := (D.drop 3).2) (f := 3) (ys := ys) h2.lost (by omega) (by rw [h2.cap]; omega) with ⟨h4, h5⟩ | ⟨k, h4, h5⟩
    · rw [DM.place_yes h1 h4]
      rw [hx, hg, List.nil_append, h2.f] at h5
      have h6 := h2.trans h5
      have hy : ((D.drop 3).2.write 3 ys).2.f 3 = ⟨true, ys, ys.length⟩ := by rw [h5.f, fupd_same]
      rcases rename_two (D := ((D.drop 3).2.write 3 ys).2) (a := 3) (b := fl) h5.lost (by omega) hf (Ne.symm h3) (by rw [hy]) (by rw [hy]) with ⟨h7, h8⟩ | ⟨h7, h8⟩
      · refine .inl ⟨h7, ?_⟩
        have h9 := h6.trans h8
        rw [hy, h5.f] at h9
        have e : fupd (fupd (fupd (fupd D.f 3 FM.gone) 3 ⟨true, ys, ys.length⟩) fl ⟨true, ys, ys.length⟩) 3 FM.gone = fupd (fupd D.f fl ⟨true, ys, ys.length⟩) 3 FM.gone := by
          funext j
          unfold fupd
          by_cases hj : j = 3
          · simp [hj]
          · simp [hj]
        rw [e] at h9
        exact h9
      · have h9 := h6.fell h8
        refine .inr ⟨h7, h9.lost, h9.lit, h9.cap, fun i hi => ?_⟩
        exact (congrFun h9.f i).trans (by rw [h5.f, fupd_other hi, fupd_other hi])
    · rw [DM.place_write h1 (by rw [h4]; decide)]
      have h9 := h2.fell h5
      refine .inr ⟨h4, h9.lost, h9.lit, h9.cap, fun i hi => ?_⟩
      rw [h9.f, h2.f, fupd_other hi, fupd_other hi]
  · rw [DM.place_drop (by rw [h1]; decide)]
    exact .inr ⟨h1, h2.lost, h2.lit, h2.cap, fun i _ => by rw [h2.f]⟩

/-- Append, on a log that isn't over: the frame is behind, and safe; or a part of it, and the power is lost; or it was refused. -/
theorem append_log {D : DM} {L : LM} {b : List UInt8} (hl : D.lost = false) (ho : L.over = false) (hf : L.file < 8) :
    (logAppend D L b).1 = 0 ∧ 1 ≤ b.length ∧ b.length ≤ 4000 ∧ D.used 8 + (7 + b.length) ≤ D.cap ∧ Kept D (logAppend D L b).2.1 (fupd D.f L.file ⟨true, (D.f L.file).b ++ frameOf b, ((D.f L.file).b ++ frameOf b).length⟩) ∧ (logAppend D L b).2.2 = L.push b ∨
    ((logAppend D L b).1 = 6 ∧ 1 ≤ b.length ∧ b.length ≤ 4000 ∧ (∃ k, Fell D (logAppend D L b).2.1 (fupd D.f L.file ⟨true, (D.f L.file).b ++ (frameOf b).take k, (D.f L.file).safe⟩)) ∧ (logAppend D L b).2.2 = L.ends 6) ∨
    (((b.length < 1 ∨ 4000 < b.length) ∧ logAppend D L b = (4, D, L)) ∨ (¬ (b.length < 1 ∨ 4000 < b.length) ∧ D.cap < D.used 8 + (7 + b.length) ∧ logAppend D L b = (5, D, L))) := by
  unfold logAppend
  rw [if_neg (by rw [ho]; decide)]
  by_cases h1 : b.length < 1 ∨ 4000 < b.length
  · rw [if_pos h1]
    exact .inr (.inr (.inl ⟨h1, rfl⟩))
  · rw [if_neg h1]
    by_cases h2 : D.cap < D.used 8 + (7 + b.length)
    · rw [if_pos h2]
      exact .inr (.inr (.inr ⟨h1, h2, rfl⟩))
    · rw [if_neg h2]
      rcases write_two (D := D) (f := L.file) (ys := frameOf b) hl hf (by rw [frameOf_len]; omega) with ⟨h3, h4⟩ | ⟨k, h3, h4⟩
      · rw [if_pos h3]
        exact .inl ⟨rfl, by omega, by omega, by omega, h4, rfl⟩
      · rw [if_neg (by rw [h3]; decide)]
        exact .inr (.inl ⟨h3, by omega, by omega, ⟨k, h4⟩, by rw [h3]⟩)

theorem LM.next_cases (L : LM) : (L.next = 2 ∧ L.other = 1) ∨ (L.next = 1 ∧ L.other = 2) := by
  unfold LM.next LM.other
  by_cases h : L.file = 1
  · rw [if_pos h, if_pos h]; exact .inl ⟨rfl, rfl⟩
  · rw [if_neg h, if_neg h]; exact .inr ⟨rfl, rfl⟩
/-- A log's file, made anew. -/
def freshFile (g : Nat) (im : List UInt8) : FM := ⟨true, frameOf (headF g im), (frameOf (headF g im)).length⟩
/-- Compact, on a log that isn't over. -/
theorem compact_log {D : DM} {L : LM} {im : List UInt8} (ht : Tidy D) (hl : D.lost = false) (ho : L.over = false) :
    ((logCompact D L im).1 = 0 ∧ im.length ≤ 59996 ∧ L.gen < 2147483648 ∧ D.used 8 + (11 + im.length) ≤ D.cap + (D.f 3).b.length ∧ (logCompact D L im).2.2 = L.anew im ∧
      Kept D (logCompact D L im).2.1 (fupd (fupd (fupd D.f L.next (freshFile (L.gen + 1) im)) 3 FM.gone) L.other FM.gone)) ∨
    ((logCompact D L im).1 = 6 ∧ im.length ≤ 59996 ∧ L.gen < 2147483648 ∧ D.lit = true ∧ (logCompact D L im).2.1.lost = true ∧ (logCompact D L im).2.1.cap = D.cap ∧
      (((logCompact D L im).2.2 = L.ends 6 ∧ ∀ i, i ≠ 3 → (logCompact D L im).2.1.f i = D.f i) ∨ ((logCompact D L im).2.2 = (L.anew im).ends 6 ∧ ∀ i, i ≠ 3 → (logCompact D L im).2.1.f i = fupd D.f L.next (freshFile (L.gen + 1) im) i))) ∨
    ((59996 < im.length ∧ logCompact D L im = (4, D, L)) ∨ (im.length ≤ 59996 ∧ (2147483648 ≤ L.gen ∨ D.cap + (D.f 3).b.length < D.used 8 + (11 + im.length)) ∧ logCompact D L im = (5, D, L))) := by
  unfold logCompact
  rw [if_neg (by rw [ho]; decide)]
  by_cases h1 : 59996 < im.length
  · rw [if_pos h1]
    exact .inr (.inr (.inl ⟨h1, rfl⟩))
  · rw [if_neg h1]
    by_cases h2 : 2147483648 ≤ L.gen
    · rw [if_pos h2]
      exact .inr (.inr (.inr ⟨by omega, .inl h2, rfl⟩))
    · rw [if_neg h2]
      by_cases h3 : D.cap + (D.f 3).b.length < D.used 8 + (11 + im.length)
      · rw [if_pos h3]
        exact .inr (.inr (.inr ⟨by omega, .inr h3, rfl⟩))
      · rw [if_neg h3]
        have hnx : L.next < 8 ∧ L.next ≠ 3 ∧ L.other < 8 ∧ L.other ≠ 3 ∧ L.other ≠ L.next := by rcases L.next_cases with ⟨a, b⟩ | ⟨a, b⟩ <;> rw [a, b] <;> decide
        obtain ⟨n1, n2, n3, n4, n5⟩ := hnx
        rcases place_two (D := D) ht (fl := L.next) (ys := frameOf (headF (L.gen + 1) im)) hl n1 n2 (by rw [frameOf_len, headF_len]; omega) with ⟨h4, h5⟩ | ⟨h4, h5, h6, h7, h8⟩
        · rw [if_pos h4]
          have htp : Tidy (D.place (frameOf (headF (L.gen + 1) im)) L.next).2 := fun f hf hh => by
            rw [h5.f] at hh ⊢
            unfold fupd at hh ⊢
            by_cases e3 : f = 3
            · simp [e3]
            · simp only [e3, if_false] at hh ⊢
              by_cases en : f = L.next
              · simp [en] at hh
              · simp only [en, if_false] at hh ⊢
                exact ht f hf hh
          rcases drop_two htp (f := L.other) h5.lost n3 with ⟨h9, h10⟩ | ⟨h9, h10⟩
          · refine .inl ⟨h9, by omega, by omega, by omega, by rw [h9]; rfl, ?_⟩
            have h11 := h5.trans h10
            rw [h5.f] at h11
            exact h11
          · have h11 := h5.fell h10
            refine .inr (.inl ⟨h9, by omega, by omega, h11.lit, h11.lost, h11.cap, .inr ⟨by rw [h9], fun i hi => ?_⟩⟩)
            rw [h11.f, h5.f, fupd_other hi]
            rfl
        · rw [if_neg (by rw [h4]; decide)]
          exact .inr (.inl ⟨h4, by omega, by omega, h6, h5, h7, .inl ⟨by rw [h4], h8⟩⟩)

theorem new_calm (c : Nat) : (DM.new c).lost = false ∧ (DM.new c).lit = false := ⟨rfl, rfl⟩
theorem new_counts (c : Nat) : counts ((DM.new c).f 1).b ((DM.new c).f 2).b = 0 := by
  show counts [] [] = 0
  unfold counts
  rw [genOf_none (by decide)]
  rfl
theorem new_tidy (c : Nat) : Tidy (DM.new c) := fun _ _ _ => rfl
/-- Create, on a new disk. -/
theorem create_new (c : Nat) (im : List UInt8) :
    (59996 < im.length ∧ logCreate (DM.new c) im = (4, DM.new c, LM.bare 0)) ∨ (im.length ≤ 59996 ∧ c < 11 + im.length ∧ logCreate (DM.new c) im = (5, DM.new c, LM.bare 0)) ∨
    (im.length ≤ 59996 ∧ 11 + im.length ≤ c ∧ (logCreate (DM.new c) im).1 = 0 ∧ (logCreate (DM.new c) im).2.2 = ⟨1, 1, im, [], false⟩ ∧ (logCreate (DM.new c) im).2.1.cap = c ∧ (logCreate (DM.new c) im).2.1.lost = false ∧ (logCreate (DM.new c) im).2.1.lit = false ∧
      (logCreate (DM.new c) im).2.1.f = fupd (fun _ => FM.gone) 1 (freshFile 1 im)) := by
  have e : logCreate (DM.new c) im = logCompact (DM.new c) (LM.bare 0) im := by
    unfold logCreate
    rw [if_neg (show ¬ (DM.new c).lost = true from (fun h => by cases h)), if_neg (by rw [new_counts]; decide)]
  have hu : (DM.new c).used 8 = 0 := DM.new_used c 8
  have h3 : ((DM.new c).f 3).b.length = 0 := rfl
  have hcap : (DM.new c).cap = c := rfl
  rw [e]
  rcases compact_log (D := DM.new c) (L := LM.bare 0) (im := im) (new_tidy c) rfl rfl with ⟨h1, h2, h4, h5, h6, h7⟩ | ⟨_, _, _, h4, _⟩ | ⟨h1, h2⟩ | ⟨h1, h2, h4⟩
  · refine .inr (.inr ⟨h2, by omega, h1, by rw [h6]; rfl, h7.cap, h7.lost, h7.lit rfl, ?_⟩)
    rw [h7.f]
    funext i
    show (if i = 2 then FM.gone else if i = 3 then FM.gone else if i = 1 then freshFile 1 im else FM.gone) = if i = 1 then freshFile 1 im else FM.gone
    by_cases i1 : i = 1
    · simp [i1]
    · simp [i1]
  · cases h4
  · exact .inl ⟨h1, h2⟩
  · refine .inr (.inl ⟨h1, ?_, h4⟩)
    rcases h2 with h2 | h2
    · exact absurd h2 (by decide)
    · omega
end Go.Proofs.YteipcbpkgpffjaaDoor
