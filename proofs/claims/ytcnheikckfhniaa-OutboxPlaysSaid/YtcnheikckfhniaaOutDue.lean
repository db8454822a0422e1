/-
  Package outbox: what is due of it; a message that is there: looked up, struck; isOver. Conditions: those of each theorem.
-/
import Derived.Test.YtcnheikckfhniaaOutAll
import Derived.Test.YtcnheikckfhniaaTqDue
namespace Go.Proofs.Ytcnheikckfhniaa
open Go.RowKit
set_option maxRecDepth 100000

theorem sorted_of {xs : List Tm} (h : ND xs) : ∃ ws, Srt ws ∧ ws.Perm xs := by
  have hp : (xs.mergeSort fun a b => !tlt b a).Perm xs := List.mergeSort_perm xs _
  refine ⟨xs.mergeSort fun a b => !tlt b a, ?_, hp⟩
  have h1 : (xs.mergeSort fun a b => !tlt b a).Pairwise (fun a b => (!tlt b a) = true) := List.pairwise_mergeSort (fun a b c => by
      simp only [Bool.not_eq_true', tge_iff]
      omega) (fun a b => by
      cases h1 : tlt b a
      · simp
      · simp [tge_of_lt h1]) xs
  have h2 : ND (xs.mergeSort fun a b => !tlt b a) := h.perm hp.symm
  refine (h1.and h2).imp ?_
  rintro a b ⟨q1, q2⟩
  have q1 : tlt b a = false := by simpa using q1
  rw [tge_iff] at q1
  rw [tlt_iff]
  omega


def dueB (now : Int) (m : Msg) : Bool := decide (m.due ≤ now)
def overB (m : Msg) : Bool := decide (m.kind = 1) && decide (5 ≤ m.tries)
theorem nd_tm {xs : List Msg} (h : NDK xs) : ND (xs.map tmOf) := List.pairwise_map.2 h
/-- The first k, of those sorted by day, are those of up to a day. -/
theorem take_due {ws : List Tm} (hs : Srt ws) {k : Nat} {now : Int} (hk : k ≤ ws.length) (h1 : ∀ i, i < k → (tget ws i).1 ≤ now) (h2 : k < ws.length → now < (tget ws k).1) : ws.filter (fun t => decide (t.1 ≤ now)) = ws.take k ∧ ws.filter (fun t => !decide (t.1 ≤ now)) = ws.drop k := by
  have ha : ∀ t ∈ ws.take k, t.1 ≤ now := fun t ht => by
    obtain ⟨i, hi, rfl⟩ := mem_tget.1 ht
    rw [List.length_take] at hi
    rw [tget_take i (by omega)]
    exact h1 i (by omega)
  have hb : ∀ t ∈ ws.drop k, now < t.1 := fun t ht => by
    have hkl : k < ws.length := by
      rcases Nat.lt_or_ge k ws.length with h | h
      · exact h
      · rw [List.drop_of_length_le h] at ht; cases ht
    have h7 : Srt (ws.drop k) := List.Pairwise.drop hs
    rw [drop_at hkl] at h7 ht
    have h8 := h2 hkl
    rcases List.mem_cons.1 ht with rfl | ht
    · exact h8
    · have := (List.pairwise_cons.1 h7).1 t ht
      rw [tlt_iff] at this
      omega
  constructor
  · conv => lhs; rw [← List.take_append_drop k ws]
    rw [List.filter_append, List.filter_eq_self.2 (fun t ht => by simpa using ha t ht), List.filter_eq_nil_iff.2 (fun t ht => by have := hb t ht; simp; omega), List.append_nil]
  · conv => lhs; rw [← List.take_append_drop k ws]
    rw [List.filter_append, List.filter_eq_nil_iff.2 (fun t ht => by simpa using ha t ht), List.filter_eq_self.2 (fun t ht => by have := hb t ht; simp; omega), List.nil_append]
theorem map_tget (ws : List Tm) {k : Nat} (hk : k ≤ ws.length) : (List.range k).map (fun i => (tget ws i).2) = (ws.take k).map (·.2) := by
  apply List.ext_getElem
  · simp; omega
  · intro i h1 h2
    have hi : i < k := by simpa using h1
    simp only [List.getElem_map, List.getElem_range, List.getElem_take]
    rw [tget_eq (by omega)]
/-- What Due tells of an outbox; its timers are those that are left. -/
def DueOf (w : World) (p : Nat) (S : Nat → Prop) (last : Int) (xs : List Msg) (now : Int) (e : Ending) (w' : World) : Prop :=
  ∃ (a : Option Addr) (c : Nat) (f : Nat → Int), e = .returned (.slice a (xs.filter (dueB now)).length c) ∧ IntRow w' a (xs.filter (dueB now)).length f ∧ (∀ b o, a = some ⟨b, o, none⟩ → w.heap.size ≤ b ∧ ∀ j, w'.frozen? ⟨b, j, none⟩ = false) ∧
    ((xs.filter (dueB now)).map (·.key)).Perm ((List.range (xs.filter (dueB now)).length).map f) ∧ OutSt w' p S last xs ((xs.filter (fun m => !dueB now m)).map tmOf) ∧ Upd S w w' ∧ w'.cell? ⟨p, 1, none⟩ = w.cell? ⟨p, 1, none⟩
theorem out_due {w : World} {p : Nat} {S : Nat → Prop} {last : Int} {xs : List Msg} (h : OutAt w p S last xs) (now : Int) : Calls Try.prog 25 #[.pointer (some ⟨p, 2, none⟩), .int .i64 now] w (DueOf w p S last xs now) := by
  have hpl := h.lt
  obtain ⟨T, ys, hTS, hT, hyp, h4⟩ := h.st
  obtain ⟨ws, hws, hwp⟩ := sorted_of ((nd_tm h.nd).perm hyp.symm)
  refine (tim_due hT hws hwp now).mono ?_
  rintro e w' ⟨k, a, c, hk, rfl, r1, r2, r3, r4, ⟨zs, z1, z2⟩, u⟩
  obtain ⟨t1, t2⟩ := take_due hws hk r3 r4
  have hp2 : ws.Perm (xs.map tmOf) := hwp.trans hyp
  have q1 : (ws.take k).Perm ((xs.filter (dueB now)).map tmOf) := by
    rw [← t1]
    have := hp2.filter (fun t : Tm => decide (t.1 ≤ now))
    rw [List.filter_map] at this
    exact this
  have q2 : (ws.drop k).Perm ((xs.filter (fun m => !dueB now m)).map tmOf) := by
    rw [← t2]
    have := hp2.filter (fun t : Tm => !decide (t.1 ≤ now))
    rw [List.filter_map] at this
    exact this
  have hl : k = (xs.filter (dueB now)).length := by
    have := q1.length_eq
    rw [List.length_take, List.length_map] at this
    omega
  have c : ∀ j, j ≠ 2 → j ≠ 3 → w'.cell? ⟨p, j, none⟩ = w.cell? ⟨p, j, none⟩ := fun j h1 h2 => u.rest hpl j h1 h2
  refine ⟨a, _, fun i => (tget ws i).2, by rw [← hl], by rw [← hl]; exact r1, r2, ?_, ⟨h.nd, h.few, h.lst, h.keys, (c 0 (by omega) (by omega)).trans h.c0, fun j => (u.fz hpl j).trans (h.fz j), T, zs, hTS, z1, z2.trans q2, ?_⟩, u.toUpd.mono (fun k _ x => hTS k x), c 1 (by omega) (by omega)⟩
  · rw [← hl, map_tget ws hk]
    have := (q1.map (fun t : Tm => t.2)).symm
    rw [List.map_map] at this
    exact this
  · exact h4.imp (fun q => ⟨q.1, (c 1 (by omega) (by omega)).trans q.2⟩) (fun ⟨b, b1, b2, b3, b4⟩ => ⟨b, b1, b2, (c 1 (by omega) (by omega)).trans b3, b4.upd u.toUpd b2⟩)

/-- A message that is there: looked up; struck from the map. -/
theorem out_there {w : World} {p : Nat} {S : Nat → Prop} {last : Int} {xs : List Msg} {ts : List Tm} (h : OutSt w p S last xs ts) {m : Msg} (hm : m ∈ xs) : ∃ b, w.cell? ⟨p, 1, none⟩ = some (.map (some b)) ∧ b ≠ p ∧
    ((Instr.lookup 53 (.map (some b)) (.int .i64 m.key) false).run Try.prog w = .ok (.agg #[.int .i64 m.key, .int .i64 m.kind, .int .i64 m.rma, .int .i64 m.value, .int .i64 m.tries, .int .i64 m.due]) w) ∧
    ∃ w2, (Builtin.delete_ #[53, 3] 0 #[.map (some b), .int .i64 m.key]).run Try.prog w = .ok (.tuple #[]) w2 ∧ OutSt w2 p S last (wo xs m.key) ts ∧ Upd S w w2 ∧ Upd (fun k => k = b) w w2 := by
  have hw := key_w64 (h.keys m hm) h.lst
  have hpl := h.lt
  obtain ⟨T, ys, hTS, hT, hyp, h4⟩ := h.st
  rcases h4 with ⟨e, q⟩ | ⟨b, q1, q2, q3, q4⟩
  · subst e; cases hm
  · have hbp : b ≠ p := fun e => q2 (e ▸ hT.1)
    have hv := q4.val hw false
    have e : got xs m.key = m := by unfold got; rw [look_mem h.nd hm]; rfl
    rw [e] at hv
    obtain ⟨w2, hr, m2, t2, _⟩ := q4.del h.nd hw 0
    have u2 : Upd (fun k => k = b) w w2 := turned_upd t2
    refine ⟨b, q3, hbp, hv, w2, hr, ⟨h.nd.less _, ?_, h.lst, fun x hx => h.keys x (wo_mem.1 hx).1, (u2.cell (p := ⟨p, 0, none⟩) hpl (fun e => hbp e.symm)).trans h.c0, fun j => (u2.frozen (p := ⟨p, j, none⟩) hpl (fun e => hbp e.symm)).trans (h.fz j), T, ys, hTS, hT.upd u2 (fun k hk e => q2 (e ▸ hk)), hyp, .inr ⟨b, q1, q2, (u2.cell (p := ⟨p, 1, none⟩) hpl (fun e => hbp e.symm)).trans q3, m2⟩⟩, u2.mono (fun _ _ e => e ▸ q1), u2⟩
    have := wo_length h.nd m.key
    have := h.few
    omega

theorem out_over (m : Msg) (w : World) : Calls Try.prog 27 #[.agg #[.int .i64 m.key, .int .i64 m.kind, .int .i64 m.rma, .int .i64 m.value, .int .i64 m.tries, .int .i64 m.due]] w fun e w' => e = .returned (.bool (overB m)) ∧ Below w.heap.size w w' := by
  obtain ⟨mk, mi, mr, mv, mt, mu⟩ := m
  unfold overB
  dsimp only
  by_cases h1 : mi = 1
  · subst h1
    rw [decide_eq_true rfl, Bool.true_and]
    go_enter Try.func27, Try.ntmps27
    go_wp2
    go_ret
    exact ⟨by simp, upd_box _⟩
  · have hne : (mi == 1) = false := by simpa using h1
    rw [decide_eq_false h1, Bool.false_and]
    go_enter Try.func27, Try.ntmps27
    go_wp2
    go_ret
    exact ⟨rfl, upd_box _⟩
end Go.Proofs.Ytcnheikckfhniaa
