/-
  The In of package codec: what its memory holds, and the contracts of its methods. Conditions: those of each theorem ('InAt': the pointer leads to an In that has rest left).
-/
import Derived.Test.YtmaoimjfkncnpaaLeX
namespace Go.Proofs.Ytmaoimjfkncnpaa
open Go.RowKit
set_option maxRecDepth 100000

/-- What memory holds of an In at block p; S: the blocks that are its own. -/
structure InAt (w : World) (p : Nat) (S : Nat → Prop) (rest : List UInt8) (bad : Bool) : Prop where
  ok : bad = true → rest = []
  own : S p
  lt : ∀ k, S k → k < w.heap.size
  blk : ∃ cur, w.heap[p]? = some (.cells cur 70 (0, 0)) ∧ cur.size = 2
  row : ∃ a c, w.cell? ⟨p, 0, none⟩ = some (.slice a rest.length c) ∧ IsBytes w a rest ∧ rest.length ≤ c ∧ c ≤ maxLen ∧ (a = none → c = 0) ∧ (∀ x, a = some x → S x.block ∧ x.block ≠ p ∧ x.spot = none)
  c1 : w.cell? ⟨p, 1, none⟩ = some (.bool bad)

section
variable {w w' : World} {p : Nat} {S T : Nat → Prop} {rest : List UInt8} {bad : Bool}
theorem InAt.frozen (h : InAt w p S rest bad) (o : Nat) : w.frozen? ⟨p, o, none⟩ = false := by
  obtain ⟨cur, h1, _⟩ := h.blk
  simp [World.frozen?, h1]
theorem InAt.upd (h : InAt w p S rest bad) (hu : Upd T w w') (hd : ∀ k, S k → ¬ T k) : InAt w' p S rest bad := by
  have hp := h.lt p h.own
  have hn := hd p h.own
  have e := fun o => hu.cell (p := ⟨p, o, none⟩) hp hn
  obtain ⟨a, c, h1, h2, h3, h4, h5, h6⟩ := h.row
  refine ⟨h.ok, h.own, fun k hk => Nat.lt_of_lt_of_le (h.lt k hk) hu.size, ?_, ⟨a, c, ?_, ?_, h3, h4, h5, h6⟩, ?_⟩
  · rw [hu.block p hp hn]; exact h.blk
  · rw [e]; exact h1
  · exact h2.upd hu (fun _ x hx => hd _ (h6 x hx).1)
  · rw [e]; exact h.c1
theorem InAt.below (h : InAt w p S rest bad) (hb : Below w.heap.size w w') : InAt w' p S rest bad :=
  h.upd (T := fun _ => False) (Upd.below hb) (fun _ _ x => x)
end

/-- What a call leaves of an In: it has rest left; nothing has turned but its own block, and what is new. -/
def InDone (w : World) (p : Nat) (S : Nat → Prop) (rest : List UInt8) (bad : Bool) (w' : World) : Prop :=
  InAt w' p S rest bad ∧ Upd (fun k => k = p) w w'

/-- Both cells are written: the In has another rest. -/
theorem InAt.set {w w1 : World} {p : Nat} {S : Nat → Prop} {rest rest' : List UInt8} {bad bad' : Bool} (h : InAt w p S rest bad) (hu : Upd (fun k => k = p) w w1)
    (hb : ∃ cur, w1.heap[p]? = some (.cells cur 70 (0, 0)) ∧ cur.size = 2) {a : Option Addr} {c : Nat}
    (h0 : w1.cell? ⟨p, 0, none⟩ = some (.slice a rest'.length c)) (h1 : w1.cell? ⟨p, 1, none⟩ = some (.bool bad')) (hx : IsBytes w a rest') (hc : rest'.length ≤ c) (hm : c ≤ maxLen) (hn : a = none → c = 0)
    (ha : ∀ x, a = some x → S x.block ∧ x.block ≠ p ∧ x.spot = none) (hok : bad' = true → rest' = []) : InDone w p S rest' bad' w1 :=
  ⟨⟨hok, h.own, fun k hk => Nat.lt_of_lt_of_le (h.lt k hk) hu.size, hb, ⟨a, c, h0, hx.upd hu (fun _ x hx => (ha x hx).2.1), hc, hm, hn, ha⟩, h1⟩, hu⟩

set_option maxHeartbeats 400000 in
theorem in_spoil {w : World} {p : Nat} {S : Nat → Prop} {rest : List UInt8} {bad : Bool} (h : InAt w p S rest bad) :
    Calls Try.prog 49 #[.pointer (some ⟨p, 0, none⟩)] w fun e w' => e = .returned (.tuple #[]) ∧ InDone w p S [] true w' := by
  have f0 := h.frozen 0
  have f1 := h.frozen 1
  have c1 := h.c1
  obtain ⟨cur, hc, hs⟩ := h.blk
  have hp := h.lt p h.own
  obtain ⟨a, c, c0, _⟩ := h.row
  have key : InDone w p S [] true ((w.setCell { block := p, off := 0 } (Value.slice none 0 0)).setCell { block := p, off := 1 } (Value.bool true)) :=
    h.set (rest' := []) (a := none) (c := 0) (((Upd.refl (fun k => k = p) _).setCell (p := ⟨p, 0, none⟩) (.inl rfl) _).setCell (p := ⟨p, 1, none⟩) (.inl rfl) _)
      ⟨_, setCell_heap_at (setCell_heap_at hc), by simpa using hs⟩ (by rw [cell_other (by omega)]; exact cell_same c0) (cell_same (by rw [cell_other (by omega)]; exact c1))
      (.inl rfl) (Nat.zero_le _) (Nat.zero_le _) (fun _ => rfl) (fun x hx => by cases hx) (fun _ => rfl)
  clear hc hs
  go_enter Try.func49, Try.ntmps49
  go_wp2
  go_end0
  exact ⟨rfl, key⟩

/-- Can so many bytes be taken? -/
def canTake (rest : List UInt8) (n : Int) : Bool := decide (0 ≤ n) && decide (n ≤ rest.length)
/-- What take answers, and what it leaves. -/
def Taken (w : World) (p : Nat) (S : Nat → Prop) (rest : List UInt8) (bad : Bool) (n : Int) (e : Ending) (w' : World) : Prop :=
  ∃ a m c data rest' bad', e = .returned (.slice a m c) ∧ (canTake rest n = true → (m : Int) = n ∧ data = rest.take m ∧ rest' = rest.drop m ∧ bad' = bad) ∧ (canTake rest n = false → data = [] ∧ rest' = [] ∧ bad' = true) ∧
    data.length = m ∧ IsBytes w' a data ∧ m ≤ c ∧ c ≤ maxLen ∧ (a = none → c = 0) ∧ InDone w p S rest' bad' w'

set_option maxHeartbeats 800000 in
theorem in_take_no {w : World} {p : Nat} {S : Nat → Prop} {rest : List UInt8} {bad : Bool} (h : InAt w p S rest bad) (n : Int) (hn : canTake rest n = false) :
    Calls Try.prog 52 #[.pointer (some ⟨p, 0, none⟩), .int .i64 n] w (Taken w p S rest bad n) := by
  obtain ⟨a, c, c0, hx, hl, hm, hnc, ha⟩ := h.row
  have HC := Lib.hid hn
  have hq : n < 0 ∨ (rest.length : Int) < n := by
    simp [canTake] at hn
    by_cases h0 : n < 0
    · exact .inl h0
    · exact .inr (by have := hn (by omega); omega)
  clear hn
  rcases hq with hq | hq
  · go_enter Try.func52, Try.ntmps52
    go_wp2_with fail
    refine (in_spoil h).mono ?_
    rintro e w1 ⟨rfl, d⟩
    go_wp2
    go_ret
    exact ⟨none, 0, 0, [], [], true, rfl, (fun x => by rw [HC.out] at x; cases x), fun _ => ⟨rfl, rfl, rfl⟩, rfl, .inl rfl, Nat.le_refl _, Nat.zero_le _, fun _ => rfl, d⟩
  · have h0 : 0 ≤ n := by omega
    go_enter Try.func52, Try.ntmps52
    go_wp2_with fail
    refine (in_spoil h).mono ?_
    rintro e w1 ⟨rfl, d⟩
    go_wp2
    go_ret
    exact ⟨none, 0, 0, [], [], true, rfl, (fun x => by rw [HC.out] at x; cases x), fun _ => ⟨rfl, rfl, rfl⟩, rfl, .inl rfl, Nat.le_refl _, Nat.zero_le _, fun _ => rfl, d⟩

set_option maxHeartbeats 800000 in
theorem in_take_yes {w : World} {p : Nat} {S : Nat → Prop} {rest : List UInt8} {bad : Bool} (h : InAt w p S rest bad) (n : Nat) (hn : n ≤ rest.length) :
    Calls Try.prog 52 #[.pointer (some ⟨p, 0, none⟩), .int .i64 n] w (Taken w p S rest bad n) := by
  obtain ⟨a, c, c0, hx, hl, hm, hnc, ha⟩ := h.row
  have f0 := h.frozen 0
  have c1 := h.c1
  have h0 : (0 : Int) ≤ n := by omega
  have h1 : ¬ (rest.length : Int) < n := by omega
  have h2 : (n : Int) ≤ rest.length := by omega
  have h3 : (rest.length : Int) ≤ c := by omega
  have h4 : (n : Int) ≤ c := by omega
  have h5 : n ≤ c := by omega
  have hct : canTake rest n = true := by simp [canTake]; omega
  have HT := Lib.hid hct
  have HA := Lib.hid h
  have hnr : n = rest.length → c = n → (rest.drop n).length = rest.length - n := by intros; simp
  have key : ∀ a' : Option Addr, (a' = a ∧ c = n ∨ a' = a.map (fun x => x.add n)) → InDone w p S (rest.drop n) bad (w.setCell ⟨p, 0, none⟩ (.slice a' (rest.length - n) (c - n))) := by
    intro a' ha'
    obtain ⟨cur, hc, hs⟩ := h.blk
    have hlen : (rest.drop n).length = rest.length - n := by simp
    rw [← hlen]
    have hs0 : ∀ x, a = some x → x.spot = none := fun x hx => (ha x hx).2.2
    refine h.set (upd_set _ _) ⟨_, setCell_heap_at hc, by simpa using hs⟩ (cell_same c0) (by rw [cell_other (by omega)]; exact c1) ?_ (by omega) (by omega) ?_ ?_ (fun hb => by rw [h.ok hb]; simp)
    · rcases ha' with ⟨rfl, rfl⟩ | rfl
      · exact .inl (List.length_eq_zero_iff.1 (by omega))
      · rcases hx with rfl | ⟨b, off, rfl, hb, hcs⟩
        · exact .inl (by simp)
        · refine .inr ⟨b, off + n, by simp [Addr.add], hb, fun i hi => ?_⟩
          rw [List.getElem_drop, Nat.add_assoc]
          exact hcs (n + i) (by simp at hi; omega)
    · rcases ha' with ⟨rfl, rfl⟩ | rfl
      · intro hx; simp
      · intro hx
        have : a = none := by cases a <;> simp_all
        have := hnc this; omega
    · rcases ha' with ⟨rfl, rfl⟩ | rfl
      · exact ha
      · intro x hx
        cases a with
        | none => cases hx
        | some y =>
          obtain ⟨g1, g2, g3⟩ := ha y rfl
          simp only [Option.map_some, Option.some.injEq] at hx
          subst hx
          obtain ⟨yb, yo, ys⟩ := y
          simp only at g3
          subst g3
          have e : (⟨yb, yo, none⟩ : Addr).add n = ⟨yb, yo + n, none⟩ := by unfold Addr.add; split <;> simp_all
          rw [e]
          exact ⟨g1, g2, rfl⟩
  have KEY := Lib.hid key
  clear hct h hnr key ha
  go_enter Try.func52, Try.ntmps52
  go_wp2
  all_goals
    go_ret
    refine ⟨a, n, _, rest.take n, rest.drop n, bad, rfl, fun _ => ⟨rfl, rfl, rfl, rfl⟩, (fun x => by rw [HT.out] at x; cases x), by simp; omega, ?_, by omega, by omega, (fun x => by have := hnc x; omega), ?_⟩
    · refine IsBytes.upd ?_ (upd_set (p := p) 0 _) ?_
      · rcases hx with rfl | ⟨b, off, rfl, hb, hcs⟩
        · exact .inl (by simp)
        · refine .inr ⟨b, off, rfl, hb, fun i hi => ?_⟩
          rw [List.getElem_take]
          exact hcs i (by simp at hi; omega)
      · intro _ x hx
        exact ((HA.out.row).elim fun a2 h => h.elim fun c2 h => by
          have e := h.1.symm.trans c0
          simp only [Option.some.injEq, Value.slice.injEq] at e
          exact (h.2.2.2.2.2 x (e.1.trans hx)).2.1)
    · first
        | (have e : c - n = 0 := by omega
           have := KEY.out a (.inl ⟨rfl, by omega⟩)
           rw [e] at this
           exact this)
        | exact KEY.out _ (.inr rfl)

set_option maxHeartbeats 800000 in
theorem in_take {w : World} {p : Nat} {S : Nat → Prop} {rest : List UInt8} {bad : Bool} (h : InAt w p S rest bad) (n : Int) :
    Calls Try.prog 52 #[.pointer (some ⟨p, 0, none⟩), .int .i64 n] w (Taken w p S rest bad n) := by
  by_cases hc : canTake rest n = true
  · simp [canTake] at hc
    obtain ⟨m, rfl⟩ := Int.eq_ofNat_of_zero_le hc.1
    exact in_take_yes h m (by omega)
  · exact in_take_no h n (by simpa using hc)

/-- What an In has behind so many bytes taken: the bytes, the rest, whether it is bad. -/
def took (rest : List UInt8) (bad : Bool) (n : Int) : List UInt8 × List UInt8 × Bool :=
  if canTake rest n then (rest.take n.toNat, rest.drop n.toNat, bad) else ([], [], true)
theorem Taken.as_took {w : World} {p : Nat} {S : Nat → Prop} {rest : List UInt8} {bad : Bool} {n : Int} {e : Ending} {w' : World} (h : Taken w p S rest bad n e w') :
    ∃ a m c, e = .returned (.slice a m c) ∧ (took rest bad n).1.length = m ∧ IsBytes w' a (took rest bad n).1 ∧ m ≤ c ∧ c ≤ maxLen ∧ (a = none → c = 0) ∧ InDone w p S (took rest bad n).2.1 (took rest bad n).2.2 w' := by
  obtain ⟨a, m, c, data, rest', bad', rfl, h1, h2, h3, h4, h5, h6, h7, h8⟩ := h
  refine ⟨a, m, c, rfl, ?_⟩
  by_cases hc : canTake rest n = true
  · obtain ⟨g1, rfl, rfl, rfl⟩ := h1 hc
    have e : n.toNat = m := by omega
    simp only [took, hc, if_true, e]
    exact ⟨h3, h4, h5, h6, h7, h8⟩
  · have hc : canTake rest n = false := by simpa using hc
    obtain ⟨rfl, rfl, rfl⟩ := h2 hc
    simp only [took, hc]
    exact ⟨h3, h4, h5, h6, h7, h8⟩

theorem took_len (rest : List UInt8) (bad : Bool) (n : Int) : (took rest bad n).1.length ≤ n.toNat := by
  unfold took; split <;> simp; omega

set_option maxHeartbeats 800000 in
theorem in_number {w : World} {p : Nat} {S : Nat → Prop} {rest : List UInt8} {bad : Bool} (h : InAt w p S rest bad) (n : Int) (hn : n ≤ 8) :
    Calls Try.prog 48 #[.pointer (some ⟨p, 0, none⟩), .int .i64 n] w fun e w' => e = .returned (.int .u64 (numLe (took rest bad n).1 : Nat)) ∧ InDone w p S (took rest bad n).2.1 (took rest bad n).2.2 w' := by
  have hl : (took rest bad n).1.length ≤ 8 := by have := took_len rest bad n; omega
  go_enter Try.func48, Try.ntmps48
  go_wp2_with fail
  refine (in_take h n).mono ?_
  rintro e w1 hT
  obtain ⟨a, m, c, rfl, hm, hx, hc1, hc2, hnc, d⟩ := hT.as_took
  clear hT
  generalize g1 : (took rest bad n).1 = data at *
  generalize g2 : (took rest bad n).2.1 = rest' at *
  generalize g3 : (took rest bad n).2.2 = bad' at *
  have G1 := Lib.hid g1
  have G2 := Lib.hid g2
  have G3 := Lib.hid g3
  clear g1 g2 g3
  have HM := Lib.hid hm
  have hm8 : m ≤ 8 := by omega
  clear hm
  go_wp2
  go_loop [5, 6, 7, 12] (fun v _ _ i => ∃ k : Nat, k ≤ m ∧ i = .int .i64 k ∧ v = .int .u64 (numLe (data.take k) : Nat)) (fun _ _ _ i => m - (intOf i).toNat)
  case atStart => exact ⟨0, by omega, rfl, rfl⟩
  case round =>
    obtain ⟨k, hk, rfl, rfl⟩ := hrel
    by_cases hlt : k < m
    · rcases hx with rfl | ⟨b, off, rfl, hb, hcs⟩
      · have := HM.out; simp at this; omega
      have hlk : k < data.length := by rw [HM.out]; exact hlt
      have hck := hcs k hlk
      clear hcs
      have hk0 : (0 : Int) ≤ (k : Int) := by omega
      have hkm : (k : Int) < (m : Int) := by omega
      have hnk : numLe (data.take k) < 256 ^ k := by have := numLe_lt (data.take k); rwa [List.length_take, Nat.min_eq_left (by omega)] at this
      have hor := Lib.hid (or_round data[k] hnk (by omega))
      have hsn : numLe (data.take (k + 1)) = numLe (data.take k) + 256 ^ k * data[k].toNat := by
        rw [List.take_succ_eq_append_getElem hlk, numLe_snoc, List.length_take, Nat.min_eq_left (by omega)]
      have HSN := Lib.hid hsn
      clear hnk hsn
      go_wp2
      go_round
      case rel => exact ⟨k + 1, by omega, by go_num, by rw [hor.out, HSN.out]⟩
      case measure => simp [intOf]; omega
    · obtain rfl : k = m := by omega
      go_wp2
      go_ret
      have e : data.take k = data := by rw [← HM.out, List.take_length]
      rw [e, G1.out, G2.out, G3.out]
      exact ⟨rfl, d⟩

theorem num_i64 (rest : List UInt8) (bad : Bool) (n : Int) (hn : n ≤ 7) : wrap64 ((numLe (took rest bad n).1 : Nat) : Int) = (numLe (took rest bad n).1 : Nat) := by
  apply wrap_i64
  have h1 := took_len rest bad n
  have h2 := numLe_lt (took rest bad n).1
  have h3 : 256 ^ (took rest bad n).1.length ≤ 256 ^ 7 := Nat.pow_le_pow_right (by decide) (by omega)
  have h4 : (256 : Nat) ^ 7 < 2 ^ 63 := by decide
  omega

set_option maxHeartbeats 400000 in
theorem in_u8 {w : World} {p : Nat} {S : Nat → Prop} {rest : List UInt8} {bad : Bool} (h : InAt w p S rest bad) :
    Calls Try.prog 35 #[.pointer (some ⟨p, 0, none⟩)] w fun e w' => e = .returned (.int .i64 (numLe (took rest bad 1).1 : Nat)) ∧ InDone w p S (took rest bad 1).2.1 (took rest bad 1).2.2 w' := by
  have hw := Lib.hid (num_i64 rest bad 1 (by decide))
  go_enter Try.func35, Try.ntmps35
  go_wp2_with fail
  refine (in_number h 1 (by decide)).mono ?_
  rintro e w1 ⟨rfl, d⟩
  go_wp2
  rw [hw.out]
  go_ret
  exact ⟨rfl, d⟩

set_option maxHeartbeats 400000 in
theorem in_u16 {w : World} {p : Nat} {S : Nat → Prop} {rest : List UInt8} {bad : Bool} (h : InAt w p S rest bad) :
    Calls Try.prog 43 #[.pointer (some ⟨p, 0, none⟩)] w fun e w' => e = .returned (.int .i64 (numLe (took rest bad 2).1 : Nat)) ∧ InDone w p S (took rest bad 2).2.1 (took rest bad 2).2.2 w' := by
  have hw := Lib.hid (num_i64 rest bad 2 (by decide))
  go_enter Try.func43, Try.ntmps43
  go_wp2_with fail
  refine (in_number h 2 (by decide)).mono ?_
  rintro e w1 ⟨rfl, d⟩
  go_wp2
  rw [hw.out]
  go_ret
  exact ⟨rfl, d⟩

set_option maxHeartbeats 400000 in
theorem in_u32 {w : World} {p : Nat} {S : Nat → Prop} {rest : List UInt8} {bad : Bool} (h : InAt w p S rest bad) :
    Calls Try.prog 45 #[.pointer (some ⟨p, 0, none⟩)] w fun e w' => e = .returned (.int .i64 (numLe (took rest bad 4).1 : Nat)) ∧ InDone w p S (took rest bad 4).2.1 (took rest bad 4).2.2 w' := by
  have hw := Lib.hid (num_i64 rest bad 4 (by decide))
  go_enter Try.func45, Try.ntmps45
  go_wp2_with fail
  refine (in_number h 4 (by decide)).mono ?_
  rintro e w1 ⟨rfl, d⟩
  go_wp2
  rw [hw.out]
  go_ret
  exact ⟨rfl, d⟩

set_option maxHeartbeats 400000 in
theorem in_i64 {w : World} {p : Nat} {S : Nat → Prop} {rest : List UInt8} {bad : Bool} (h : InAt w p S rest bad) :
    Calls Try.prog 36 #[.pointer (some ⟨p, 0, none⟩)] w fun e w' => e = .returned (.int .i64 (wrap64 (numLe (took rest bad 8).1 : Nat))) ∧ InDone w p S (took rest bad 8).2.1 (took rest bad 8).2.2 w' := by
  go_enter Try.func36, Try.ntmps36
  go_wp2_with fail
  refine (in_number h 8 (by decide)).mono ?_
  rintro e w1 ⟨rfl, d⟩
  go_wp2
  go_ret
  exact ⟨rfl, d⟩

theorem InDone.trans {w w1 w2 : World} {p : Nat} {S : Nat → Prop} {r1 r2 : List UInt8} {b1 b2 : Bool} (d1 : InDone w p S r1 b1 w1) (d2 : InDone w1 p S r2 b2 w2) : InDone w p S r2 b2 w2 :=
  ⟨d2.1, d1.2.trans d2.2 (fun _ _ x => x)⟩

/-- What an In has behind a flag: the flag, the rest, whether it is bad. -/
def flagged (rest : List UInt8) (bad : Bool) : Bool × List UInt8 × Bool :=
  if 1 < numLe (took rest bad 1).1 then (false, [], true) else (decide (numLe (took rest bad 1).1 = 1), (took rest bad 1).2.1, (took rest bad 1).2.2)
set_option maxHeartbeats 400000 in
theorem in_flag {w : World} {p : Nat} {S : Nat → Prop} {rest : List UInt8} {bad : Bool} (h : InAt w p S rest bad) :
    Calls Try.prog 44 #[.pointer (some ⟨p, 0, none⟩)] w fun e w' => e = .returned (.bool (flagged rest bad).1) ∧ InDone w p S (flagged rest bad).2.1 (flagged rest bad).2.2 w' := by
  by_cases hq : 1 < numLe (took rest bad 1).1
  · have e : flagged rest bad = (false, [], true) := by simp only [flagged, hq, if_true]
    rw [e]
    clear e
    go_enter Try.func44, Try.ntmps44
    go_wp2_with fail
    refine (in_u8 h).mono ?_
    rintro e w1 ⟨rfl, d⟩
    have h1 : (1 : Int) < (numLe (took rest bad 1).1 : Nat) := by omega
    have h2 : (((numLe (took rest bad 1).1 : Nat) : Int) == 1) = false := by simp; omega
    clear hq
    go_wp2_with fail
    refine (in_spoil d.1).mono ?_
    rintro e w2 ⟨rfl, d2⟩
    go_wp2
    go_ret
    exact ⟨rfl, d.trans d2⟩
  · have e : flagged rest bad = (decide (numLe (took rest bad 1).1 = 1), (took rest bad 1).2.1, (took rest bad 1).2.2) := by simp only [flagged, hq, if_false]
    rw [e]
    clear e
    go_enter Try.func44, Try.ntmps44
    go_wp2_with fail
    refine (in_u8 h).mono ?_
    rintro e w1 ⟨rfl, d⟩
    have h1 : ¬ (1 : Int) < (numLe (took rest bad 1).1 : Nat) := by omega
    have hb : (((numLe (took rest bad 1).1 : Nat) : Int) == 1) = decide (numLe (took rest bad 1).1 = 1) := by
      rw [Bool.eq_iff_iff]; simp; omega
    have HB := Lib.hid hb
    clear hq hb
    go_wp2
    go_ret
    exact ⟨congrArg (fun b => Ending.returned (Value.bool b)) HB.out, d⟩

theorem took_nat (rest : List UInt8) (bad : Bool) (n : Int) : took rest bad n = if canTake rest n then (rest.take n.toNat, rest.drop n.toNat, bad) else ([], [], true) := rfl


/-- What an In has behind bytes and their number. -/
def bytesOf (rest : List UInt8) (bad : Bool) : List UInt8 × List UInt8 × Bool :=
  took (took rest bad 2).2.1 (took rest bad 2).2.2 (numLe (took rest bad 2).1 : Nat)
theorem took_rest_len (rest : List UInt8) (bad : Bool) (n : Int) : (took rest bad n).2.1.length ≤ rest.length := by
  unfold took; split <;> simp

/-- What an In has behind a number that may not be more than n. -/
def mostOf (rest : List UInt8) (bad : Bool) (n : Int) : Nat × List UInt8 × Bool :=
  if n < (numLe (took rest bad 2).1 : Nat) then (0, [], true) else (numLe (took rest bad 2).1, (took rest bad 2).2.1, (took rest bad 2).2.2)

set_option maxHeartbeats 400000 in
theorem in_done {w : World} {p : Nat} {S : Nat → Prop} {rest : List UInt8} {bad : Bool} (h : InAt w p S rest bad) :
    Calls Try.prog 30 #[.pointer (some ⟨p, 0, none⟩)] w fun e w' => e = .returned (.bool (!bad && decide (rest.length = 0))) ∧ w = w' := by
  have c1 := h.c1
  obtain ⟨a, c, c0, _⟩ := h.row
  cases bad with
  | true =>
    go_enter Try.func30, Try.ntmps30
    go_wp2
    go_ret
    exact ⟨rfl, rfl⟩
  | false =>
    by_cases hr : rest.length = 0
    · have hb : (((rest.length : Nat) : Int) == 0) = true := by simp [hr]
      have e : decide (rest.length = 0) = true := by simpa using hr
      rw [e]
      clear hr e
      go_enter Try.func30, Try.ntmps30
      go_wp2
      go_ret
      exact ⟨rfl, rfl⟩
    · have hb : (((rest.length : Nat) : Int) == 0) = false := by simpa using hr
      have e : decide (rest.length = 0) = false := by simpa using hr
      rw [e]
      clear hr e
      go_enter Try.func30, Try.ntmps30
      go_wp2
      go_ret
      exact ⟨rfl, rfl⟩

set_option maxHeartbeats 800000 in
/-- A new In has all of the bytes, in blocks that are new. -/
theorem in_new (ad : Option Addr) (xs : List UInt8) (n c : Nat) (w : World) (hn : xs.length = n) (hx : IsBytes w ad xs) (hnc : ad = none → c = 0) (hb : n ≤ 140737488355328) :
    Calls Try.prog 27 #[.slice ad n c] w fun e w' => ∃ p S, e = .returned (.pointer (some ⟨p, 0, none⟩)) ∧ InAt w' p S xs false ∧ Below w.heap.size w w' ∧ ∀ k, S k → w.heap.size ≤ k := by
  go_enter Try.func27, Try.ntmps27
  go_wp2_with fail
  refine (clone_bytes ad xs n c w hn hx hnc hb).mono ?_
  rintro e w1 ⟨⟨a', c', rfl, hr⟩, b1⟩
  go_wp2
  go_ret
  subst hn
  obtain ⟨g1, _, g3, g4, g5⟩ := bytes_of_row hr
  refine ⟨w1.heap.size, More (fun _ => False) w (w1.alloc (.cells #[.slice a' xs.length c', .bool false] 70)), rfl, ?_, b1.trans ((Below.refl _ w1).alloc b1.size _), fun k hk => hk.elim (fun x => x.elim) (fun x => x.1)⟩
  have hsz : (w1.alloc (.cells #[.slice a' xs.length c', .bool false] 70)).heap.size = w1.heap.size + 1 := by simp
  have hbs := b1.size
  refine ⟨(fun x => by cases x), .inr ⟨b1.size, by omega⟩, fun k hk => hk.elim (fun x => x.elim) (fun x => x.2), ⟨_, heap_alloc_new w1 _, rfl⟩, ⟨a', c', by simp, g1.upd (S := fun _ => False) ((Upd.refl _ _).alloc _) (fun _ _ _ h => h), g3, g4, g5, fun x hx => ?_⟩, by simp⟩
  subst hx
  rcases hr.2 with ⟨hv, _⟩ | ⟨g, cap, cur, hv, hbg, hh, _⟩
  · cases hv
  · injection hv with e1 e2 e3
    injection e1 with e1
    subst e1
    have hlt := (Array.getElem?_eq_some_iff.1 hh).1
    exact ⟨.inr ⟨hbg, Nat.lt_of_lt_of_le hlt (by simp)⟩, (by show g ≠ w1.heap.size; omega), rfl⟩
end Go.Proofs.Ytmaoimjfkncnpaa
