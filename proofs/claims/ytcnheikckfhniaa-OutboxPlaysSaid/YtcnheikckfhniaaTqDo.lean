/-
  Package timer: Set, Stop. Conditions: those of each theorem.
-/
import Derived.Test.YtcnheikckfhniaaTqSet
namespace Go.Proofs.Ytcnheikckfhniaa
open Go.RowKit
open Go.WideElems (set_self)
set_option maxRecDepth 100000

theorem TimAt.setDay {w : World} {p o g m c : Nat} {xs : List Tm} (h : TimAt w p o g m c xs) {i : Nat} (hi : i < xs.length) (d : Int) : TimAt (w.setCell ⟨g, i * 2, none⟩ (.int .i64 d)) p o g m c (xs.set i (d, (tget xs i).2)) := by
  have hu : Upd (fun k => k = g) w (w.setCell ⟨g, i * 2, none⟩ (.int .i64 d)) := upd_set _ _
  have r := (h.row.stored (i * 2) (.int .i64 d)).1
  have e : (tcells xs).set (i * 2) (.int .i64 d) = tcells (xs.set i (d, (tget xs i).2)) := by
    rw [tcells_set xs i _ hi]
    have := (tcells_get xs i hi).2
    refine (set_self _ _ _ ?_).symm
    rw [List.getElem?_set_ne (by omega)]
    exact this
  rw [e] at r
  have hl : (xs.set i (d, (tget xs i).2)).length = xs.length := List.length_set
  obtain ⟨ix, hm, hix⟩ := h.mp
  have hw : ∀ x ∈ xs.set i (d, (tget xs i).2), W64 x.2 := fun x hx => by
    rcases List.mem_or_eq_of_mem_set hx with hx | rfl
    · exact h.w64 x hx
    · exact h.num hi
  exact ⟨⟨Nat.lt_of_lt_of_le h.lt hu.size, by rw [hl]; exact (hu.cell (p := ⟨p, o, none⟩) h.lt h.pg).trans h.c0, (hu.cell (p := ⟨p, o + 1, none⟩) h.lt h.pg).trans h.c1, fun j => (hu.frozen (p := ⟨p, j, none⟩) h.lt h.pg).trans (h.fz j),
    by rw [hl]; exact r, h.pg, hw, by rw [hl]; exact h.few⟩, ix, by rw [hl]; exact hm.upd hu (fun e => h.gm.1 e.symm), hix.setDay hi d⟩

/-- A number is there, at a place, or isn't. -/
theorem there_or {xs : List Tm} (a : Int) : (∃ i, i < xs.length ∧ (tget xs i).2 = a) ∨ ∀ x ∈ xs, x.2 ≠ a := by
  by_cases h : ∃ x ∈ xs, x.2 = a
  · obtain ⟨x, hx, e⟩ := h
    obtain ⟨i, hi, rfl⟩ := mem_tget.1 hx
    exact .inl ⟨i, hi, e⟩
  · exact .inr fun x hx e => h ⟨x, hx, e⟩

def SetTo (w : World) (p o : Nat) (S : Nat → Prop) (xs : List Tm) (a d : Int) (e : Ending) (w' : World) : Prop :=
  e = .returned (.tuple #[]) ∧ ∃ ys, TimSt w' p o (More S w w') ys ∧ ys.Perm (without xs a ++ [(d, a)]) ∧ UpdC p o S w w'

set_option maxHeartbeats 2000000 in
theorem tim_set {w : World} {p o : Nat} {S : Nat → Prop} {xs : List Tm} (h : TimSt w p o S xs) (a d : Int) (ha : W64 a) (hfew : xs.length < 1000) :
    Calls Try.prog 42 #[.pointer (some ⟨p, o, none⟩), .int .i64 a, .int .i64 d] w (SetTo w p o S xs a d) := by
  have hnd := h.nd
  have hS := h.1
  rcases there_or (xs := xs) a with ⟨i, hi, ei⟩ | hno
  · obtain ⟨g, m, c, hg, hm, hat⟩ := h.made (fun e => by rw [e] at hi; exact absurd hi (Nat.not_lt_zero _))
    obtain ⟨ix, hmp, hix⟩ := hat.mp
    have hr := hmp.look (hat.num hi) (hix.at' i hi)
    have h0 := hat.c0
    have h1 := hat.c1
    obtain ⟨x0, x1⟩ := hat.cells hi
    have hfz : w.frozen? ⟨g, i * 2, none⟩ = false := hat.row.frozenAt _
    have hD : DownAt (xs.set i (d, (tget xs i).2)) xs.length i i := DownAt.start h.2.2.1 (fun k _ k2 => by rw [tget_set hi, if_neg k2]) hi
    have HFX : Aside _ := h_fix (hat.setDay hi d) (n := xs.length) (by simp) hi hD
    have hi' : (i : Int) < (xs.length : Int) := by omega
    have HP : Aside _ := set_perm_tm hi hnd d
    have HU : Aside (UpdC p o S w (w.setCell ⟨g, i * 2, none⟩ (.int .i64 d)) ∧ ∀ k, Blk p g m k → S k) := ⟨((upd_set (i * 2) (.int .i64 d)).part hat.pg).mono (fun _ _ e => e ▸ hg), fun k hk => by rcases hk with e | e | e <;> rw [e] <;> assumption⟩
    rw [ei] at hr HP HFX x1
    clear h hat hmp hix hD
    go_enter Try.func42, Try.ntmps42
    go_wp2_with fail
    refine Calls.mono HFX.out ?_
    rintro e w2 ⟨rfl, ys, h2, p2, t2, u2⟩
    have HF : Aside (∃ ys, TimSt w2 p o (More S w w2) ys ∧ ys.Perm (without xs a ++ [(d, a)]) ∧ UpdC p o S w w2) :=
      ⟨ys, ⟨.inl hS, h2.lt, t2, .inr ⟨g, m, c, .inl hg, .inl hm, h2⟩⟩, p2.trans HP.out, HU.out.1.trans u2 (fun k _ hk => HU.out.2 k hk)⟩
    clear h2 p2 t2 u2 HFX HP HU
    go_wp2
    go_end0
    exact ⟨rfl, HF.out⟩
  · obtain ⟨mo, h1, hr⟩ := h.miss ha hno
    have hw := without_none hno
    unfold SetTo
    rw [hw]
    have HPU : Aside (Calls Try.prog 60 #[.iface 78 (.pointer (some ⟨p, o, none⟩)), .iface 80 (.agg #[.int .i64 d, .int .i64 a])] w fun e w' => e = .returned (.tuple #[]) ∧ ∃ ys, TimSt w' p o (More S w w') ys ∧ ys.Perm (xs ++ [(d, a)]) ∧ UpdC p o S w w') := by
      obtain ⟨-, hpl, hh, h4⟩ := h
      rcases h4 with ⟨e0, a0, a1, a2⟩ | ⟨g, m, c, hg, hm, hat⟩
      · subst e0
        refine (h_push_new hpl a0 a1 a2 (d, a) ha).mono fun e w' ⟨he, g', m', c', ys, t1, t2, t3, t4, t5, t6⟩ => ⟨he, ys, ⟨.inl hS, t1.lt, t3, .inr ⟨g', m', c', .inr ⟨t5, t1.glt⟩, .inr ⟨t6, t1.mlt⟩, t1⟩⟩, t2, t4.mono (fun k _ e => e ▸ hS)⟩
      · refine (h_push hat hh (d, a) ha (fun i hi => hno _ (mem_tget.2 ⟨i, hi, rfl⟩)) hfew).mono fun e w' ⟨he, g', c', ys, t1, t2, t3, t4, t5⟩ => ⟨he, ys, ⟨.inl hS, t1.lt, t3, .inr ⟨g', m, c', ?_, .inl hm, t1⟩⟩, t2, t4.mono (fun k _ hk => by rcases hk with e | e | e <;> rw [e] <;> assumption)⟩
        rcases t5 with e | e
        · exact .inl (e ▸ hg)
        · exact .inr ⟨e, t1.glt⟩
    clear h hno hnd hw
    go_enter Try.func42, Try.ntmps42
    go_wp2_with fail
    refine Calls.mono HPU.out ?_
    rintro e w2 ⟨rfl, h2⟩
    have HF : Aside _ := h2
    clear h2 HPU
    go_wp2
    refine bodyPost_ret (results_none rfl _ _ _) rfl ?_
    exact ⟨rfl, HF.out⟩
theorem tim_set_nil (a d : Int) (w : World) : Calls Try.prog 42 #[.pointer none, .int .i64 a, .int .i64 d] w fun e w' => e = .returned (.tuple #[]) ∧ w = w' := by
  go_enter Try.func42, Try.ntmps42
  go_wp2
  refine bodyPost_ret (results_none rfl _ _ _) rfl ?_
  exact ⟨rfl, rfl⟩

set_option maxHeartbeats 2000000 in
theorem tim_stop {w : World} {p o : Nat} {S : Nat → Prop} {xs : List Tm} (h : TimSt w p o S xs) (a : Int) (ha : W64 a) :
    Calls Try.prog 24 #[.pointer (some ⟨p, o, none⟩), .int .i64 a] w fun e w' => e = .returned (.bool (decide ((without xs a).length < xs.length))) ∧ ∃ ys, TimSt w' p o S ys ∧ ys.Perm (without xs a) ∧ UpdC p o S w w' := by
  have hnd := h.nd
  have hS := h.1
  rcases there_or (xs := xs) a with ⟨i, hi, ei⟩ | hno
  · obtain ⟨g, m, c, hg, hm, hat⟩ := h.made (fun e => by rw [e] at hi; exact absurd hi (Nat.not_lt_zero _))
    obtain ⟨n, hn⟩ : ∃ n, xs.length = n + 1 := ⟨xs.length - 1, by omega⟩
    obtain ⟨ix, hmp, hix⟩ := hat.mp
    have hr := hmp.look (hat.num hi) (hix.at' i hi)
    have h1 := hat.c1
    have HRM : Aside _ := h_remove hat hn (i := i) (by omega) (hn ▸ h.2.2.1)
    have HND : Aside (ND xs) := hnd
    have HU : Aside (∀ k, Blk p g m k → S k) := fun k hk => by rcases hk with e | e | e <;> rw [e] <;> assumption
    rw [ei] at hr
    clear h hat hmp hix hnd
    go_enter Try.func24, Try.ntmps24
    go_wp2_with fail
    refine Calls.mono HRM.out ?_
    rintro e w2 ⟨⟨v, rfl⟩, ys, h2, p2, t2, u2⟩
    have HF : Aside (true = decide ((without xs a).length < xs.length) ∧ ∃ ys, TimSt w2 p o S ys ∧ ys.Perm (without xs a) ∧ UpdC p o S w w2) := by
      have q := stop_perm p2 HND.out
      rw [ei] at q
      refine ⟨?_, ys, ⟨hS, h2.lt, t2, .inr ⟨g, m, c, hg, hm, h2⟩⟩, q, u2.mono (fun k _ hk => HU.out k hk)⟩
      have l1 := p2.length_eq
      have l2 := q.length_eq
      rw [List.length_append, List.length_singleton] at l1
      symm
      rw [decide_eq_true_eq]
      omega
    clear h2 p2 t2 u2 HRM HU HND
    go_wp2
    go_ret
    exact ⟨by rw [← HF.out.1]; rfl, HF.out.2⟩
  · obtain ⟨mo, h1, hr⟩ := h.miss ha hno
    have hw := without_none hno
    rw [hw, decide_eq_false (Nat.lt_irrefl _)]
    have HF : Aside (∃ ys, TimSt w p o S ys ∧ ys.Perm xs ∧ UpdC p o S w w) := ⟨xs, h, List.Perm.refl _, UpdC.refl _ _ _ _⟩
    clear h hno hw hnd
    go_enter Try.func24, Try.ntmps24
    go_wp2
    go_ret
    exact ⟨rfl, HF.out⟩
theorem tim_stop_nil (a : Int) (w : World) : Calls Try.prog 24 #[.pointer none, .int .i64 a] w fun e w' => e = .returned (.bool false) ∧ w = w' := by
  go_enter Try.func24, Try.ntmps24
  go_wp2
  go_ret
  exact ⟨rfl, rfl⟩
end Go.Proofs.Ytcnheikckfhniaa
