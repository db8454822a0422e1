/-
  What of a log stays, over the disks that the contracts speak of: alive, and wherever the power goes. No memory. Conditions: those of each theorem.
-/
import Derived.Test.YtfoapnclfipkiaaDoorLogOpen
import Derived.Test.YtfoapnclfipkiaaDoorKeep
import Derived.Test.YtfoapnclfipkiaaDoorHeap
import Derived.Test.YtfoapnclfipkiaaDoorOps
namespace Go.Proofs.YtfoapnclfipkiaaDoor
open Go.RowKit
set_option maxRecDepth 100000

/-- A log that stands on its disk, and all of it safe; the other file counts less. -/
structure Alive (D : DM) (L : LM) : Prop where
  lost : D.lost = false
  over : L.over = false
  fl : L.file = 1 ∨ L.file = 2
  has : (D.f L.file).has = true
  b : (D.f L.file).b = logF L.gen L.image L.recs
  safe : (D.f L.file).safe = (D.f L.file).b.length
  good : Good L.recs
  im : L.image.length ≤ 59996
  gen : 1 ≤ L.gen ∧ L.gen < 4294967296
  oth : genOf (D.f (3 - L.file)).b < L.gen
  osafe : (D.f (3 - L.file)).safe = (D.f (3 - L.file)).b.length
  tidy : Tidy D

/-- A log's file with what may be torn behind it: what Open finds on a disk whose power has come back. -/
structure Found (D : DM) (fl g : Nat) (im : List UInt8) (R : List (List UInt8)) : Prop where
  one : fl = 1 ∨ fl = 2
  has : (D.f fl).has = true
  b : ∃ t, (D.f fl).b = logF g im R ++ t
  fr : frames (D.f fl).b = headF g im :: R
  safe : (D.f fl).safe = (D.f fl).b.length
  good : Good R
  ilen : im.length ≤ 59996
  gen : 1 ≤ g ∧ g < 4294967296
  oth : genOf (D.f (3 - fl)).b < g
  osafe : (D.f (3 - fl)).safe = (D.f (3 - fl)).b.length
  tidy : Tidy D

theorem Alive.found {D : DM} {L : LM} (h : Alive D L) : Found D L.file L.gen L.image L.recs :=
  ⟨h.fl, h.has, ⟨[], by rw [List.append_nil]; exact h.b⟩, by rw [h.b]; exact logF_frames h.im h.good, h.safe, h.good, h.im, h.gen, h.oth, h.osafe, h.tidy⟩

theorem Found.open {D : DM} {fl g : Nat} {im : List UInt8} {R : List (List UInt8)} (h : Found D fl g im R) (hl : D.lost = false) (hlit : D.lit = false) :
    ∃ D', logOpen D = (0, D', ⟨fl, g, im, R, false⟩) ∧ Alive D' ⟨fl, g, im, R, false⟩ ∧ D'.lit = false := by
  obtain ⟨t, ht⟩ := h.b
  have hgx : genOf (D.f fl).b = g := genOf_log h.gen.2 h.fr
  have hc : counts (D.f 1).b (D.f 2).b = fl := by
    have h1 := h.gen.1
    have h2 := h.oth
    rcases h.one with e | e
    · subst e; exact counts_first (by omega) (by show genOf (D.f 2).b ≤ genOf (D.f 1).b; have h3 : genOf (D.f 2).b < g := h2; omega)
    · subst e; exact counts_second (by have h3 : genOf (D.f 1).b < g := h2; omega)
  have ho := open_found hl hc (by have := h.one; omega) h.fr h.gen.2
  have hf8 : fl < 8 := by have := h.one; omega
  have hne : 3 - fl ≠ fl := by have := h.one; omega
  have hend : endOf 0 (frames (D.f fl).b) = (logF g im R).length := by rw [h.fr, logF_whole]
  by_cases hq : endOf 0 (frames (D.f fl).b) = (D.f fl).b.length
  · have ht : D.trim fl = (0, D) := by unfold DM.trim; rw [if_pos hq]
    rw [ht] at ho
    refine ⟨D, ho, ⟨hl, rfl, h.one, h.has, ?_, h.safe, h.good, h.ilen, h.gen, h.oth, h.osafe, h.tidy⟩, hlit⟩
    show (D.f fl).b = logF g im R
    obtain ⟨t, ht2⟩ := h.b
    have hl2 := congrArg List.length ht2
    rw [List.length_append, ← hq, hend] at hl2
    have : t = [] := List.length_eq_zero_iff.1 (by omega)
    rw [ht2, this, List.append_nil]
  · have ht2 : D.trim fl = D.cut fl (endOf 0 (frames (D.f fl).b)) := by unfold DM.trim; rw [if_neg hq]
    have hle : endOf 0 (frames (D.f fl).b) ≤ (D.f fl).b.length := by rw [hend, ht, List.length_append]; omega
    have key := cut_two (n := endOf 0 (frames (D.f fl).b)) hl hf8 h.has hle
    rw [ht2] at ho
    generalize D.cut (fl : Int) (endOf 0 (frames (D.f fl).b) : Nat) = r at ho key
    rcases key with ⟨h1, h2⟩ | ⟨_, h2⟩
    · rw [h1] at ho
      have hb : (D.f fl).b.take (endOf 0 (frames (D.f fl).b)) = logF g im R := by
        rw [hend, ht, List.take_append_of_le_length (Nat.le_refl _), List.take_length]
      refine ⟨_, ho, ⟨h2.lost, rfl, h.one, ?_, ?_, ?_, h.good, h.ilen, h.gen, ?_, ?_, h.tidy.upd h2.f (fun h => by cases h)⟩, h2.lit hlit⟩
      · show (r.2.f fl).has = true
        rw [h2.f, fupd_same]
      · show (r.2.f fl).b = logF g im R
        rw [h2.f, fupd_same]
        exact hb
      · show (r.2.f fl).safe = (r.2.f fl).b.length
        rw [h2.f, fupd_same]
        show endOf 0 (frames (D.f fl).b) = ((D.f fl).b.take _).length
        rw [hb, hend]
      · show genOf (r.2.f (3 - fl)).b < g
        rw [h2.f, fupd_other hne]
        exact h.oth
      · show (r.2.f (3 - fl)).safe = (r.2.f (3 - fl)).b.length
        rw [h2.f, fupd_other hne]
        exact h.osafe
    · have := h2.lit
      rw [hlit] at this
      cases this

/-- A file of which all is safe is as it was when the power has come back. -/
theorem restart_safe {x : FM} (h : x.safe = x.b.length) (k : Int) : x.restart k = x := by
  have hl : x.left k = x.b.length := by unfold FM.left; rw [h]; omega
  cases x with
  | mk a b c =>
    simp only [FM.restart] at hl ⊢
    rw [hl, List.take_length]
    simp only at h
    rw [h]
theorem restart_left {x : FM} (h : x.safe ≤ x.b.length) (k : Int) : ∃ n, x.safe ≤ n ∧ n ≤ x.b.length ∧ x.restart k = ⟨x.has, x.b.take n, n⟩ :=
  ⟨x.left k, by unfold FM.left; omega, x.left_le h k, rfl⟩
theorem restart_f (D : DM) (keep : Nat → Int) {i : Nat} (hi : i < 8) : (D.restart keep).f i = (D.f i).restart (keep i) := if_pos hi
theorem restart_tidy {D : DM} (h : Tidy D) (keep : Nat → Int) : Tidy (D.restart keep) := fun f hf hh => by
  rw [restart_f D keep hf] at hh ⊢
  have h1 : (D.f f).has = false := hh
  rw [h f hf h1]
  exact restart_safe rfl _
theorem Found.restart {D : DM} {fl g : Nat} {im : List UInt8} {R : List (List UInt8)} (h : Found D fl g im R) (keep : Nat → Int) : Found (D.restart keep) fl g im R := by
  have hf := h.one
  have e1 : (D.restart keep).f fl = D.f fl := by rw [restart_f D keep (by omega)]; exact restart_safe h.safe _
  have e2 : (D.restart keep).f (3 - fl) = D.f (3 - fl) := by rw [restart_f D keep (by omega)]; exact restart_safe h.osafe _
  exact ⟨h.one, by rw [e1]; exact h.has, by rw [e1]; exact h.b, by rw [e1]; exact h.fr, by rw [e1]; exact h.safe, h.good, h.ilen, h.gen, by rw [e2]; exact h.oth, by rw [e2]; exact h.osafe, restart_tidy h.tidy keep⟩

/-- The power is gone: whatever is kept, one of two is found. -/
structure Torn (D : DM) (im : List UInt8) (R : List (List UInt8)) (im' : List UInt8) (R' : List (List UInt8)) : Prop where
  lost : D.lost = true
  back : Tidy D → ∀ keep : Nat → Int, ∃ fl g, Found (D.restart keep) fl g im R ∨ Found (D.restart keep) fl g im' R'

/-- What Append does to a log that is alive. -/
theorem Alive.append {D : DM} {L : LM} (h : Alive D L) (b : List UInt8) :
    ((logAppend D L b).1 = 0 ∧ Alive (logAppend D L b).2.1 (L.push b) ∧ (logAppend D L b).2.2 = L.push b) ∨
    ((logAppend D L b).1 = 6 ∧ Torn (logAppend D L b).2.1 L.image L.recs L.image (L.recs ++ [b]) ∧ (logAppend D L b).2.2 = L.ends 6) ∨
    (((logAppend D L b).1 = 4 ∨ (logAppend D L b).1 = 5) ∧ (logAppend D L b).2 = (D, L)) := by
  have hf8 : L.file < 8 := by have := h.fl; omega
  have hne : 3 - L.file ≠ L.file := by have := h.fl; omega
  have key := append_log (b := b) h.lost h.over hf8
  generalize logAppend D L b = r at key ⊢
  rcases key with ⟨h1, h2, h3, _, h4, h5⟩ | ⟨h1, h2, h3, ⟨k, h4⟩, h5⟩ | ⟨_, h1⟩ | ⟨_, _, h1⟩
  · refine .inl ⟨h1, ⟨h4.lost, h.over, h.fl, ?_, ?_, ?_, h.good.snoc h2 (by omega), h.im, h.gen, ?_, ?_, h.tidy.upd h4.f (fun h => by cases h)⟩, h5⟩
    · show (r.2.1.f L.file).has = true
      rw [h4.f, fupd_same]
    · show (r.2.1.f L.file).b = logF L.gen L.image (L.recs ++ [b])
      rw [h4.f, fupd_same, logF_snoc, h.b]
    · show (r.2.1.f L.file).safe = (r.2.1.f L.file).b.length
      rw [h4.f, fupd_same]
    · show genOf (r.2.1.f (3 - L.file)).b < L.gen
      rw [h4.f, fupd_other hne]; exact h.oth
    · show (r.2.1.f (3 - L.file)).safe = (r.2.1.f (3 - L.file)).b.length
      rw [h4.f, fupd_other hne]; exact h.osafe
  · refine .inr (.inl ⟨h1, ⟨h4.lost, fun _ keep => ⟨L.file, L.gen, ?_⟩⟩, h5⟩)
    have e2 : (r.2.1.restart keep).f (3 - L.file) = D.f (3 - L.file) := by
      rw [restart_f _ keep (by have := h.fl; omega), h4.f, fupd_other hne]
      exact restart_safe h.osafe _
    have ht : Tidy (r.2.1.restart keep) := restart_tidy (h.tidy.upd h4.f (fun h => by cases h)) keep
    have e1 : (r.2.1.restart keep).f L.file = (⟨true, (D.f L.file).b ++ (frameOf b).take k, (D.f L.file).safe⟩ : FM).restart (keep L.file) := by
      rw [restart_f _ keep hf8, h4.f, fupd_same]
    obtain ⟨n, hn1, hn2, hn3⟩ := restart_left (x := ⟨true, (D.f L.file).b ++ (frameOf b).take k, (D.f L.file).safe⟩) (by show (D.f L.file).safe ≤ _; rw [h.safe, List.length_append]; omega) (keep L.file)
    rw [hn3] at e1
    have hn1' : (logF L.gen L.image L.recs).length ≤ n := by
      have : (D.f L.file).safe ≤ n := hn1
      rw [h.safe, h.b] at this
      exact this
    have hb : ((D.f L.file).b ++ (frameOf b).take k).take n = logF L.gen L.image L.recs ++ (frameOf b).take (min (n - (logF L.gen L.image L.recs).length) k) := by
      rw [h.b]; exact left_torn _ b k n hn1'
    have hln : (((D.f L.file).b ++ (frameOf b).take k).take n).length = n := by
      rw [List.length_take]
      have : n ≤ ((D.f L.file).b ++ (frameOf b).take k).length := hn2
      omega
    have hfr := logF_torn (g := L.gen) h.im h.good b h2 (by omega) (min (n - (logF L.gen L.image L.recs).length) k)
    by_cases hk : min (n - (logF L.gen L.image L.recs).length) k < 7 + b.length
    · rw [if_pos hk] at hfr
      exact .inl ⟨h.fl, by rw [e1], ⟨_, by rw [e1]; exact hb⟩, by rw [e1]; show frames (((D.f L.file).b ++ (frameOf b).take k).take n) = _; rw [hb]; exact hfr, by rw [e1]; exact hln.symm, h.good, h.im, h.gen, by rw [e2]; exact h.oth, by rw [e2]; exact h.osafe, ht⟩
    · rw [if_neg hk] at hfr
      refine .inr ⟨h.fl, by rw [e1], ⟨[], ?_⟩, by rw [e1]; show frames (((D.f L.file).b ++ (frameOf b).take k).take n) = _; rw [hb]; exact hfr, by rw [e1]; exact hln.symm, h.good.snoc h2 (by omega), h.im, h.gen, by rw [e2]; exact h.oth, by rw [e2]; exact h.osafe, ht⟩
      rw [e1]
      show ((D.f L.file).b ++ (frameOf b).take k).take n = _
      rw [hb, List.append_nil, logF_snoc, List.take_of_length_le (by rw [frameOf_len]; omega)]
  · rw [h1]
    exact .inr (.inr ⟨.inl rfl, rfl⟩)
  · rw [h1]
    exact .inr (.inr ⟨.inr rfl, rfl⟩)

theorem logF_one (g : Nat) (im : List UInt8) : logF g im [] = frameOf (headF g im) := by
  rw [logF, catF_cons, catF_nil, List.append_nil]
theorem LM.other_of {L : LM} (h : L.file = 1 ∨ L.file = 2) : L.other = L.file ∧ L.next = 3 - L.file := by
  unfold LM.other LM.next
  rcases h with e | e <;> rw [e] <;> decide
/-- What Compact does to a log that is alive. -/
theorem Alive.compact {D : DM} {L : LM} (h : Alive D L) (im : List UInt8) :
    ((logCompact D L im).1 = 0 ∧ Alive (logCompact D L im).2.1 (L.anew im) ∧ (logCompact D L im).2.2 = L.anew im) ∨
    ((logCompact D L im).1 = 6 ∧ Torn (logCompact D L im).2.1 L.image L.recs im [] ∧ (logCompact D L im).2.2.over = true) ∨
    (((logCompact D L im).1 = 4 ∨ (logCompact D L im).1 = 5) ∧ (logCompact D L im).2 = (D, L)) := by
  obtain ⟨hot, hnx⟩ := LM.other_of h.fl
  have hfl := h.fl
  have key := compact_log (im := im) h.tidy h.lost h.over
  generalize logCompact D L im = r at key ⊢
  rcases key with ⟨h1, h2, h3, _, h4, h5⟩ | ⟨h1, h2, h3, _, h5, _, h6⟩ | ⟨_, h1⟩ | ⟨_, _, h1⟩
  · have e1 : r.2.1.f (3 - L.file) = freshFile (L.gen + 1) im := by
      rw [h5.f, hot, hnx, fupd_other (by omega), fupd_other (by omega), fupd_same]
    have e2 : r.2.1.f L.file = FM.gone := by
      rw [h5.f, hot, fupd_same]
    have e3 : 3 - (3 - L.file) = L.file := by omega
    refine .inl ⟨h1, ⟨h5.lost, rfl, ?_, ?_, ?_, ?_, (fun x hx => by cases hx), h2, by show 1 ≤ L.gen + 1 ∧ L.gen + 1 < 4294967296; omega, ?_, ?_, ?_⟩, h4⟩
    · show L.next = 1 ∨ L.next = 2
      omega
    · show (r.2.1.f L.next).has = true
      rw [hnx, e1]; rfl
    · show (r.2.1.f L.next).b = logF (L.gen + 1) im []
      rw [hnx, e1, logF_one]; rfl
    · show (r.2.1.f L.next).safe = (r.2.1.f L.next).b.length
      rw [hnx, e1]; rfl
    · show genOf (r.2.1.f (3 - L.next)).b < L.gen + 1
      rw [hnx, e3, e2, show FM.gone.b = [] from rfl, genOf_none (by decide)]
      omega
    · show (r.2.1.f (3 - L.next)).safe = (r.2.1.f (3 - L.next)).b.length
      rw [hnx, e3, e2]; rfl
    · intro f hf hh
      rw [h5.f] at hh ⊢
      unfold fupd at hh ⊢
      by_cases a : f = L.other
      · simp [a]
      · by_cases b : f = 3
        · simp [b]
        · by_cases c : f = L.next
          · rw [if_neg a, if_neg b, if_pos c] at hh
            cases hh
          · rw [if_neg a, if_neg b, if_neg c] at hh ⊢
            exact h.tidy f hf hh
  · refine .inr (.inl ⟨h1, ⟨h5, fun htd keep => ?_⟩, ?_⟩)
    · have e3 : 3 - (3 - L.file) = L.file := by omega
      rcases h6 with ⟨_, h6⟩ | ⟨_, h6⟩
      · have a1 := h6 L.file (by omega)
        have a2 := h6 (3 - L.file) (by omega)
        have hF := h.found
        have hG : Found r.2.1 L.file L.gen L.image L.recs :=
          ⟨hF.one, by rw [a1]; exact hF.has, by rw [a1]; exact hF.b, by rw [a1]; exact hF.fr, by rw [a1]; exact hF.safe, hF.good, hF.ilen, hF.gen, by rw [a2]; exact hF.oth, by rw [a2]; exact hF.osafe, htd⟩
        exact ⟨_, _, .inl (hG.restart keep)⟩
      · have a1 : r.2.1.f (3 - L.file) = freshFile (L.gen + 1) im := by rw [h6 _ (by omega), hnx, fupd_same]
        have a2 : r.2.1.f L.file = D.f L.file := by rw [h6 _ (by omega), hnx, fupd_other (by omega)]
        have hgo : genOf (D.f L.file).b = L.gen := genOf_log h.gen.2 h.found.fr
        have hG : Found r.2.1 (3 - L.file) (L.gen + 1) im [] := by
          refine ⟨by omega, by rw [a1]; rfl, ⟨[], by rw [a1, logF_one, List.append_nil]; rfl⟩, ?_, by rw [a1]; rfl, (fun x hx => by cases hx), h2, by omega, by rw [e3, a2, hgo]; omega, by rw [e3, a2]; exact h.safe, htd⟩
          rw [a1]
          show frames (frameOf (headF (L.gen + 1) im)) = _
          rw [← logF_one]
          exact logF_frames h2 (fun x hx => by cases hx)
        exact ⟨_, _, .inr (hG.restart keep)⟩
    · rcases h6 with ⟨h6, _⟩ | ⟨h6, _⟩ <;> rw [h6] <;> rfl
  · rw [h1]
    exact .inr (.inr ⟨.inl rfl, rfl⟩)
  · rw [h1]
    exact .inr (.inr ⟨.inr rfl, rfl⟩)
end Go.Proofs.YtfoapnclfipkiaaDoor

namespace Go.Proofs.YtfoapnclfipkiaaDoor
open Go.RowKit Go.WideShapes
set_option maxRecDepth 100000

theorem cells_op : Tryd.prog.cellsOf 36 = 11 := by kernel_rfl

/-- An Op's cells. -/
structure OpOf (w : World) (cs : List Value) (k N : Int) (a : Option Addr) (xs : List UInt8) (cap : Nat) (k0 k1 k2 k3 k4 k5 k6 k7 : Int) : Prop where
  cells : cs = [.int .u8 k, .int .i64 N, .slice a xs.length cap, .int .i64 k0, .int .i64 k1, .int .i64 k2, .int .i64 k3, .int .i64 k4, .int .i64 k5, .int .i64 k6, .int .i64 k7]
  kind : 0 ≤ k ∧ k < 256
  n64 : I64 N
  fit : xs.length ≤ cap ∧ cap ≤ maxLen
  bytes : IsBytes w a xs
  nil : a = none → cap = 0
  keep : I64 k0 ∧ I64 k1 ∧ I64 k2 ∧ I64 k3 ∧ I64 k4 ∧ I64 k5 ∧ I64 k6 ∧ I64 k7

theorem rd_op {w : World} {cs : List Value} (h : Rd Tryd.prog w 36 cs) :
    ∃ k N a xs cap k0 k1 k2 k3 k4 k5 k6 k7, OpOf w cs k N a xs cap k0 k1 k2 k3 k4 k5 k6 k7 := by
  obtain ⟨hl, _⟩ := h.struct Tryd.underlying36
  rw [cells_op] at hl
  match cs, hl with
  | [c0, c1, c3, c4, c5, c6, c7, c8, c9, c10, c11], _ =>
    have f0 : Rd Tryd.prog w 5 [c0] := h.field Tryd.underlying36 0 rfl rfl rfl cells_u8
    have f1 : Rd Tryd.prog w 3 [c1] := h.field Tryd.underlying36 1 rfl rfl rfl cells_int
    have f3 : Rd Tryd.prog w 22 [c3] := h.field Tryd.underlying36 2 rfl rfl rfl cells_bytes
    have f4 : Rd Tryd.prog w 34 [c4, c5, c6, c7, c8, c9, c10, c11] := h.field Tryd.underlying36 3 rfl rfl rfl cells_keep
    obtain ⟨k, e0, h0⟩ := f0.int Tryd.underlying5
    obtain ⟨N, e1, h1⟩ := f1.int Tryd.underlying3
    obtain ⟨a, cap, xs, e3, h3, h4, h5, h6⟩ := f3.bytes Tryd.underlying22 Tryd.underlying5 cells_u8
    obtain ⟨k0, k1, k2, k3, k4, k5, k6, k7, rfl, rfl, rfl, rfl, rfl, rfl, rfl, rfl, hk⟩ := rd_ints8 f4
    obtain rfl : c0 = .int .u8 k := by injection e0
    obtain rfl : c1 = .int .i64 N := by injection e1
    obtain rfl : c3 = .slice a xs.length cap := by injection e3
    exact ⟨k, N, a, xs, cap, k0, k1, k2, k3, k4, k5, k6, k7, rfl, wf_u8 h0, wf_i64 h1, ⟨h3, h4⟩, h5, h6, hk⟩

/-- An Op. -/
structure Ov where
  k : Int
  N : Int
  ys : List UInt8
  k0 : Int
  k1 : Int
  k2 : Int
  k3 : Int
  k4 : Int
  k5 : Int
  k6 : Int
  k7 : Int
def Ov.arr (x : Ov) (a : Option Addr) (c : Nat) : Array Value := #[.int .u8 x.k, .int .i64 x.N, .slice a x.ys.length c, .int .i64 x.k0, .int .i64 x.k1, .int .i64 x.k2, .int .i64 x.k3, .int .i64 x.k4, .int .i64 x.k5, .int .i64 x.k6, .int .i64 x.k7]
structure OpAt (w : World) (b o : Nat) (x : Ov) (a : Option Addr) (c : Nat) : Prop where
  cells : ∀ j v, (x.arr a c)[j]? = some v → w.cell? ⟨b, o + j, none⟩ = some v
  act : OpOf w (x.arr a c).toList x.k x.N a x.ys c x.k0 x.k1 x.k2 x.k3 x.k4 x.k5 x.k6 x.k7
def Ops (w : World) (a : Option Addr) (xs : List Ov) : Prop :=
  xs = [] ∨ ∃ b off, a = some ⟨b, off, none⟩ ∧ b < w.heap.size ∧ ∀ i (h : i < xs.length), ∃ ad c, OpAt w b (off + i * 11) xs[i] ad c

theorem info_op11 : (Tryd.prog.info? 36).map (·.size) = some 11 := by kernel_rfl
theorem info_keep8' : (Tryd.prog.info? 34).map (·.size) = some 8 := by kernel_rfl

theorem ops_of {w : World} {a : Option Addr} {n c : Nat} (h : Rd Tryd.prog w 23 [.slice a n c]) : ∃ xs : List Ov, xs.length = n ∧ Ops w a xs ∧ n ≤ maxLen := by
  obtain ⟨a', n', c', e, hn, hc, hr, _⟩ := h.slice_at Tryd.underlying23 cells_op (by decide)
  injection e with e _
  injection e with e1 e2 e3
  subst e1 e2 e3
  have key : ∀ i, i < n → ∃ x : Ov, ∃ b off, a = some ⟨b, off, none⟩ ∧ b < w.heap.size ∧ ∃ ad cc, OpAt w b (off + i * 11) x ad cc := by
    intro i hi
    rcases hr with h0 | ⟨b, off, rfl, hb, hrow⟩
    · omega
    · obtain ⟨cs, hl, hat, hrd⟩ := hrow i (by omega)
      obtain ⟨k, N, ad, xs, cap, k0, k1, k2, k3, k4, k5, k6, k7, hof⟩ := rd_op hrd
      refine ⟨⟨k, N, xs, k0, k1, k2, k3, k4, k5, k6, k7⟩, b, off, rfl, hb, ad, cap, ?_, ?_⟩
      · intro j v hj
        have hjl : j < 11 := by
          obtain ⟨h1, _⟩ := Array.getElem?_eq_some_iff.1 hj
          exact h1
        rw [hat j hjl, hof.cells]
        rw [← hj, ← Array.getElem?_toList]
        rfl
      · have := hof.cells
        subst this
        exact hof
  refine ⟨(List.range n).map fun i => if h : i < n then Classical.choose (key i h) else ⟨0, 0, [], 0, 0, 0, 0, 0, 0, 0, 0⟩, by simp, ?_, by omega⟩
  by_cases h0 : n = 0
  · exact .inl (by simp [h0])
  · rcases hr with h1 | ⟨b, off, rfl, hb, _⟩
    · omega
    · refine .inr ⟨b, off, rfl, hb, fun i hi => ?_⟩
      simp only [List.length_map, List.length_range] at hi
      simp only [List.getElem_map, List.getElem_range, dif_pos hi]
      obtain ⟨b', off', e, _, h⟩ := Classical.choose_spec (key i hi)
      injection e with e
      injection e with e1 e2
      subst e1 e2
      exact h

theorem Ops.cell {w w' : World} {a : Option Addr} {b o c : Nat} {x : Ov} (h : OpAt w b o x a c) (hb : b < w.heap.size) (hw : Below w.heap.size w w') : ∀ j v, (x.arr a c)[j]? = some v → w'.cell? ⟨b, o + j, none⟩ = some v :=
  fun j v hj => (hw.cell (p := ⟨b, o + j, none⟩) hb).trans (h.cells j v hj)

/-- What few tells. -/
def SomeFew (w : World) (n : Nat) (e : Ending) (w' : World) : Prop := ∃ v : Bool, e = .returned (.bool v) ∧ w = w' ∧ (v = true → n ≤ 40)

set_option maxHeartbeats 1600000 in
theorem few_log (a : Option Addr) (xs : List Ov) (n c : Nat) (w w' : World) (hn : xs.length = n) (hx : Ops w a xs) (hw : Below w.heap.size w w') :
    Calls Tryd.prog 8 #[.slice a n c, .int .i64 40] w' (SomeFew w' n) := by
  have HN := Lib.hid hn
  clear hn
  go_enter Tryd.func8, Tryd.ntmps8
  go_wp2
  go_loop [5, 6, 9] (fun s _ i => ∃ k : Nat, k ≤ n ∧ i = .int .i64 k ∧ (∃ z : Int, s = .int .i64 z) ∧ k ≤ 40) (fun _ _ i => n - (intOf i).toNat)
  case atStart => exact ⟨0, Nat.zero_le _, rfl, ⟨0, rfl⟩, by omega⟩
  case round =>
    obtain ⟨k, hk, rfl, ⟨z, rfl⟩, h40⟩ := hrel
    by_cases hlt : k < n
    · rcases hx with rfl | ⟨b, off, rfl, hb, hi⟩
      · have := HN.out; simp at this; omega
      have hlk : k < xs.length := by rw [HN.out]; exact hlt
      obtain ⟨ad, cc, hit⟩ := hi k hlk
      have x3 : w'.cell? ⟨b, off + k * 11 + 2, none⟩ = some (.slice ad xs[k].ys.length cc) := Ops.cell hit hb hw 2 _ rfl
      have hfit := hit.act.fit
      have hlm : xs[k].ys.length ≤ 2 ^ 63 - 1 := by have := hfit.2; unfold maxLen at this; omega
      clear hi hit
      have hk0 : (0 : Int) ≤ (k : Int) := by omega
      have hkn : (k : Int) < (n : Int) := by omega
      by_cases h41 : k < 40
      · have h41i : ¬ (40 : Int) ≤ (k : Int) := by omega
        go_wp2
        all_goals
          first
            | (go_ret; exact ⟨_, rfl, rfl, fun h => by cases h⟩)
            | (go_round
               case rel => exact ⟨k + 1, by omega, by go_num, ⟨_, rfl⟩, by omega⟩
               case measure => simp [intOf]; omega)
      · have h41i : (40 : Int) ≤ (k : Int) := by omega
        go_wp2
        go_ret
        exact ⟨_, rfl, rfl, fun h => by cases h⟩
    · go_wp2
      go_ret
      exact ⟨_, rfl, rfl, fun _ => by omega⟩
end Go.Proofs.YtfoapnclfipkiaaDoor
