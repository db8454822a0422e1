/-
  Right tables of the same bytes are the same. Plain. Conditions: those of each theorem.
-/
import Derived.Test.YtaogiocjgafohaaTableBytes
namespace Go.Proofs.Ytaogiocjgafohaa
open Go.RowKit
set_option maxRecDepth 100000

theorem le_inj {v u : Int} (h0 : 0 ≤ v ∧ v ≤ 60000) (h1 : 0 ≤ u ∧ u ≤ 60000) (h : le v 2 = le u 2) : v = u := by
  obtain ⟨n, rfl⟩ := Int.eq_ofNat_of_zero_le h0.1
  obtain ⟨m, rfl⟩ := Int.eq_ofNat_of_zero_le h1.1
  have e1 := numLe_le n 2
  have e2 := numLe_le m 2
  rw [h, e2] at e1
  omega
theorem u8of_inj {v u : Int} (h0 : 0 ≤ v ∧ v < 256) (h1 : 0 ≤ u ∧ u < 256) (h : u8of v = u8of u) : v = u := by
  have e := (u8of_val h0.1 h0.2).trans (by rw [h])
  rw [← u8of_val h1.1 h1.2] at e
  injection e
theorem flags_inj {p q : Pol} (h : p.flags = q.flags) : p.fin = q.fin ∧ p.exc = q.exc ∧ p.cre = q.cre := by
  unfold Pol.flags at h
  revert h
  cases p.fin <;> cases p.exc <;> cases p.cre <;> cases q.fin <;> cases q.exc <;> cases q.cre <;> decide
theorem fees_inj {p q : Pol} (hp : RightP p) (hq : RightP q) : ∀ k, k ≤ 4 → feeBytes p k = feeBytes q k → ∀ i, i < k → p.fee i = q.fee i
  | 0, _, _, i, hi => by omega
  | k + 1, hk, h, i, hi => by
    obtain ⟨h1, h2⟩ := List.append_inj h (by rw [feeBytes_length, feeBytes_length])
    by_cases e : i = k
    · subst e
      exact le_inj ⟨(hp.fee i (by omega)).1, by have := (hp.fee i (by omega)).2; omega⟩ ⟨(hq.fee i (by omega)).1, by have := (hq.fee i (by omega)).2; omega⟩ h2
    · exact fees_inj hp hq k (by omega) h1 i (by omega)
theorem grades_inj {p q : Pol} (hp : RightP p) (hq : RightP q) : ∀ k, k ≤ 4 → gradeBytes p k = gradeBytes q k → ∀ i, i < k → p.share i = q.share i ∧ p.dest i = q.dest i
  | 0, _, _, i, hi => by omega
  | k + 1, hk, h, i, hi => by
    obtain ⟨h1, h2⟩ := List.append_inj h (by rw [gradeBytes_length, gradeBytes_length])
    by_cases e : i = k
    · subst e
      obtain ⟨h3, h4⟩ := List.append_inj h2 (by rw [le_length, le_length])
      refine ⟨le_inj ⟨(hp.share i (by omega)).1, by have := (hp.share i (by omega)).2; omega⟩ ⟨(hq.share i (by omega)).1, by have := (hq.share i (by omega)).2; omega⟩ h3, ?_⟩
      injection h4 with h4 _
      exact u8of_inj ⟨(hp.dest i (by omega)).1, by have := (hp.dest i (by omega)).2; omega⟩ ⟨(hq.dest i (by omega)).1, by have := (hq.dest i (by omega)).2; omega⟩ h4
    · exact grades_inj hp hq k (by omega) h1 i (by omega)
theorem pol_inj {p q : Pol} (hp : RightP p) (hq : RightP q) (h : polBytes p = polBytes q) : p.arr = q.arr := by
  obtain ⟨h1, h2⟩ := List.append_inj h (by rw [le_length, le_length])
  obtain ⟨h3, h4⟩ := List.append_inj h2 rfl
  obtain ⟨h5, h6⟩ := List.append_inj h4 (by rw [feeBytes_length, feeBytes_length])
  have e1 := le_inj ⟨hp.win.1, by have := hp.win.2; omega⟩ ⟨hq.win.1, by have := hq.win.2; omega⟩ h1
  injection h3 with h3 _
  have s1 := p.flags_small
  have s2 := q.flags_small
  obtain ⟨e2, e3, e4⟩ := flags_inj (u8of_inj ⟨s1.1, by omega⟩ ⟨s2.1, by omega⟩ h3)
  have f := fees_inj hp hq 4 (Nat.le_refl _) h5
  have g := grades_inj hp hq 4 (Nat.le_refl _) h6
  unfold Pol.arr
  rw [e1, e2, e3, e4, f 0 (by decide), f 1 (by decide), f 2 (by decide), f 3 (by decide), (g 0 (by decide)).1, (g 0 (by decide)).2, (g 1 (by decide)).1, (g 1 (by decide)).2, (g 2 (by decide)).1, (g 2 (by decide)).2, (g 3 (by decide)).1, (g 3 (by decide)).2]
theorem polsBytes_inj : ∀ {ps qs : List Pol}, (∀ p ∈ ps, RightP p) → (∀ p ∈ qs, RightP p) → ps.length = qs.length → polsBytes ps = polsBytes qs → ps.map Pol.arr = qs.map Pol.arr
  | [], [], _, _, _, _ => rfl
  | p :: ps, q :: qs, hp, hq, hl, h => by
    obtain ⟨h1, h2⟩ := List.append_inj (show polBytes p ++ polsBytes ps = polBytes q ++ polsBytes qs from h) (by rw [polBytes_length, polBytes_length])
    rw [List.map_cons, List.map_cons, pol_inj (hp p (List.mem_cons_self ..)) (hq q (List.mem_cons_self ..)) h1,
      polsBytes_inj (fun p h => hp p (List.mem_cons_of_mem _ h)) (fun p h => hq p (List.mem_cons_of_mem _ h)) (by simpa using hl) h2]
theorem rightT_facts {ps : List Pol} (h : rightT ps = true) : ps.length ≤ 16 ∧ ∀ p ∈ ps, RightP p := by
  unfold rightT at h
  rw [Bool.and_eq_true, List.all_eq_true] at h
  exact ⟨of_decide_eq_true h.1, fun p hp => rightP_facts (h.2 p hp)⟩
theorem tableBytes_length (ps : List Pol) : (tableBytes ps).length = 2 + 23 * ps.length := by
  unfold tableBytes
  rw [List.length_append, le_length, polsBytes_length]
/-- Right tables of the same bytes are the same, cell by cell. -/
theorem table_inj {ps qs : List Pol} (hp : rightT ps = true) (hq : rightT qs = true) (h : tableBytes ps = tableBytes qs) : ps.length = qs.length ∧ ps.map Pol.arr = qs.map Pol.arr := by
  have hl : ps.length = qs.length := by
    have := congrArg List.length h
    rw [tableBytes_length, tableBytes_length] at this
    omega
  obtain ⟨_, h2⟩ := List.append_inj (show le ps.length 2 ++ polsBytes ps = le qs.length 2 ++ polsBytes qs from h) (by rw [le_length, le_length])
  exact ⟨hl, polsBytes_inj (rightT_facts hp).2 (rightT_facts hq).2 hl h2⟩
end Go.Proofs.Ytaogiocjgafohaa
