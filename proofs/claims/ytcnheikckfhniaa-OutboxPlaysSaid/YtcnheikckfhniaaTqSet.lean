/-
  Package container/heap over package timer's queue: Remove, Fix; package timer: Set, Stop. Conditions: those of each theorem.
-/
import Derived.Test.YtcnheikckfhniaaTqHeap
import Derived.Test.YtcnheikckfhniaaTqSt
namespace Go.Proofs.Ytcnheikckfhniaa
open Go.RowKit
set_option maxRecDepth 100000

set_option maxHeartbeats 2000000 in
theorem h_remove {w : World} {p o g m c : Nat} {xs : List Tm} (h : TimAt w p o g m c xs) {n i : Nat} (hn : xs.length = n + 1) (hi : i ≤ n) (hh : HeapTo xs (n + 1)) :
    Calls Try.prog 34 #[.iface 78 (.pointer (some ⟨p, o, none⟩)), .int .i64 i] w fun e w' => (∃ v, e = .returned v) ∧ ∃ ys, TimAt w' p o g m c ys ∧ (ys ++ [tget xs i]).Perm xs ∧ HeapTo ys ys.length ∧ UpdC p o (Blk p g m) w w' := by
  have HL : Aside _ := q_len h
  rw [hn] at HL
  have hfew := h.few
  have hms := m_swap p o
  have hml := m_len p o
  have hmp := m_pop p o
  by_cases hin : i = n
  · subst hin
    have HPP : Aside _ := q_pop h (n := i) hn
    have HF : Aside (∀ w4, TimAt w4 p o g m c (xs.take i) → UpdC p o (fun k => k = p ∨ k = m) w w4 → ∃ ys, TimAt w4 p o g m c ys ∧ (ys ++ [tget xs i]).Perm xs ∧ HeapTo ys ys.length ∧ UpdC p o (Blk p g m) w w4) := by
      intro w4 h4 u4
      refine ⟨_, h4, ?_, ?_, upd_pm u4⟩
      · rw [take_last hn]
      · rw [show (xs.take i).length = i by rw [List.length_take]; omega]
        exact (hh.less (Nat.le_succ i)).congr (fun k hk => tget_take k hk)
    clear h hh
    go_enter Try.func34, Try.ntmps34
    go_wp2_with fail
    refine Calls.mono HL.out ?_
    rintro e w1 ⟨rfl, rfl⟩
    go_wp2_with fail
    refine Calls.mono HPP.out ?_
    rintro e w4 ⟨⟨v, rfl⟩, h4, u4⟩
    have HG : Aside _ := HF.out w4 h4 u4
    clear h4 u4 HF
    go_wp2
    go_ret
    exact ⟨⟨_, rfl⟩, HG.out⟩
  · have HS : Aside _ := q_swap h (i := i) (j := n) (by omega) (by omega)
    have HD : Aside (DownAt (tswp xs i n) n i i) := DownAt.start (hh.less (Nat.le_succ n)) (fun k k1 k2 => by rw [tget_swp (by omega) (by omega), if_neg (by omega), if_neg k2]) (by omega)
    have hne : ((n : Int) == (i : Int)) = false := by simp; omega
    clear h hh
    go_enter Try.func34, Try.ntmps34
    go_wp2_with fail
    refine Calls.mono HL.out ?_
    rintro e w1 ⟨rfl, rfl⟩
    go_wp2_with fail
    refine Calls.mono HS.out ?_
    rintro e w2 ⟨rfl, h2, u2⟩
    have HDN : Aside _ := h_down h2 (n := n) (i0 := i) (by rw [tswp_length]; omega) (by omega) HD.out
    have U2 : Aside _ := u2
    clear h2 u2 HL HS HD
    go_wp2_with fail
    refine Calls.mono HDN.out ?_
    rintro e w3 ⟨b, ys, rfl, h3, p3, s3, t3, f3, u3⟩
    have hl : ys.length = n + 1 := by rw [p3.length_eq, tswp_length]; exact hn
    have e1 : tget ys n = tget xs i := by rw [s3 n (Nat.le_refl _), tget_swp (by omega) (by omega), if_pos rfl]
    have HF : Aside (∀ w4 w5 zs, TimAt w5 p o g m c (zs.take n) → zs.Perm ys → tget zs n = tget ys n → HeapTo zs n → UpdC p o (Blk p g m) w3 w4 → UpdC p o (fun k => k = p ∨ k = m) w4 w5 → ∃ ys, TimAt w5 p o g m c ys ∧ (ys ++ [tget xs i]).Perm xs ∧ HeapTo ys ys.length ∧ UpdC p o (Blk p g m) w w5) := by
      intro w4 w5 zs h5 pz ez hz u4 u5
      have hlz : zs.length = n + 1 := by rw [pz.length_eq]; exact hl
      refine ⟨_, h5, ?_, ?_, (((upd_gm U2.out h3.pg h3.gm.2).trans (upd_gm u3 h3.pg h3.gm.2) (fun _ _ x => x)).trans u4 (fun _ _ x => x)).trans (upd_pm u5) (fun _ _ x => x)⟩
      · rw [← e1, ← ez, take_last hlz]
        exact pz.trans (p3.trans (tswp_perm (by omega) (by omega)))
      · rw [show (zs.take n).length = n by rw [List.length_take]; omega]
        exact hz.congr (fun k hk => tget_take k hk)
    cases b
    · have HUP : Aside _ := h_up h3 (n := n) (j := i) (by omega) (by omega) (f3 rfl)
      clear h3 p3 s3 t3 f3 u3 U2 HDN e1
      go_wp2_with fail
      refine Calls.mono HUP.out ?_
      rintro e w4 ⟨rfl, zs, h4, p4, s4, t4, u4⟩
      have HPP : Aside _ := q_pop h4 (n := n) (by rw [p4.length_eq]; exact hl)
      have HF2 : Aside _ := fun w5 (h5 : TimAt w5 p o g m c (zs.take n)) u5 => HF.out w4 w5 zs h5 p4 (s4 n (Nat.le_refl _)) t4 (upd_gm u4 h4.pg h4.gm.2) u5
      clear h4 p4 s4 t4 u4 HF HUP
      go_wp2_with fail
      refine Calls.mono HPP.out ?_
      rintro e w5 ⟨⟨v, rfl⟩, h5, u5⟩
      have HG : Aside _ := HF2.out w5 h5 u5
      clear h5 u5 HF2
      go_wp2
      go_ret
      exact ⟨⟨_, rfl⟩, HG.out⟩
    · have HPP : Aside _ := q_pop h3 (n := n) hl
      have HF2 : Aside _ := fun w5 (h5 : TimAt w5 p o g m c (ys.take n)) u5 => HF.out w3 w5 ys h5 (List.Perm.refl _) rfl (t3 rfl) (UpdC.refl _ _ _ _) u5
      clear h3 p3 s3 t3 f3 u3 U2 HDN e1 HF
      go_wp2_with fail
      refine Calls.mono HPP.out ?_
      rintro e w5 ⟨⟨v, rfl⟩, h5, u5⟩
      have HG : Aside _ := HF2.out w5 h5 u5
      clear h5 u5 HF2
      go_wp2
      go_ret
      exact ⟨⟨_, rfl⟩, HG.out⟩

set_option maxHeartbeats 2000000 in
theorem h_fix {w : World} {p o g m c : Nat} {xs : List Tm} (h : TimAt w p o g m c xs) {n i : Nat} (hn : xs.length = n) (hi : i < n) (hd : DownAt xs n i i) :
    Calls Try.prog 61 #[.iface 78 (.pointer (some ⟨p, o, none⟩)), .int .i64 i] w fun e w' => e = .returned (.tuple #[]) ∧ ∃ ys, TimAt w' p o g m c ys ∧ ys.Perm xs ∧ HeapTo ys ys.length ∧ UpdC p o (Blk p g m) w w' := by
  have HL : Aside _ := q_len h
  rw [hn] at HL
  have hfew := h.few
  have HDN : Aside _ := h_down h (n := n) (i0 := i) (by omega) (by omega) hd
  have hml := m_len p o
  clear h hd
  go_enter Try.func61, Try.ntmps61
  go_wp2_with fail
  refine Calls.mono HL.out ?_
  rintro e w1 ⟨rfl, rfl⟩
  go_wp2_with fail
  refine Calls.mono HDN.out ?_
  rintro e w3 ⟨b, ys, rfl, h3, p3, s3, t3, f3, u3⟩
  have hl : ys.length = n := by rw [p3.length_eq]; exact hn
  cases b
  · have HUP : Aside _ := h_up h3 (n := n) (j := i) (by omega) (by omega) (f3 rfl)
    have U3 : Aside _ := u3
    have P3 : Aside _ := p3
    clear h3 p3 s3 t3 f3 u3 HDN HL
    go_wp2_with fail
    refine Calls.mono HUP.out ?_
    rintro e w4 ⟨rfl, zs, h4, p4, s4, t4, u4⟩
    have HF : Aside (∃ ys, TimAt w4 p o g m c ys ∧ ys.Perm xs ∧ HeapTo ys ys.length ∧ UpdC p o (Blk p g m) w w4) := ⟨zs, h4, p4.trans P3.out, by rw [p4.length_eq, hl]; exact t4, (upd_gm U3.out h4.pg h4.gm.2).trans (upd_gm u4 h4.pg h4.gm.2) (fun _ _ x => x)⟩
    clear h4 p4 s4 t4 u4 HUP
    go_wp2
    go_end0
    exact ⟨rfl, HF.out⟩
  · have HF : Aside (∃ ys, TimAt w3 p o g m c ys ∧ ys.Perm xs ∧ HeapTo ys ys.length ∧ UpdC p o (Blk p g m) w w3) := ⟨ys, h3, p3, by rw [hl]; exact t3 rfl, upd_gm u3 h3.pg h3.gm.2⟩
    clear h3 p3 s3 t3 f3 u3 HDN HL
    go_wp2
    go_end0
    exact ⟨rfl, HF.out⟩

/-! ### What is set, and stopped -/
def without (xs : List Tm) (a : Int) : List Tm := xs.filter (fun x => x.2 != a)
theorem without_perm {xs ys : List Tm} (h : xs.Perm ys) (a : Int) : (without xs a).Perm (without ys a) := h.filter _
theorem without_none {xs : List Tm} {a : Int} (h : ∀ x ∈ xs, x.2 ≠ a) : without xs a = xs := by
  unfold without
  rw [List.filter_eq_self]
  intro x hx
  simpa using h x hx
theorem without_split {A B : List Tm} {x : Tm} (h : ND (A ++ x :: B)) : without (A ++ x :: B) x.2 = A ++ B := by
  unfold ND at h
  rw [List.pairwise_append] at h
  obtain ⟨_, h2, h3⟩ := h
  rw [List.pairwise_cons] at h2
  have a1 : without A x.2 = A := without_none (fun y hy => h3 y hy x (List.mem_cons_self ..))
  have a2 : without B x.2 = B := without_none (fun y hy => (h2.1 y hy).symm)
  unfold without at *
  rw [List.filter_append, List.filter_cons, a1, a2]
  simp
theorem split_at {xs : List Tm} {i : Nat} (hi : i < xs.length) : ∃ A B, xs = A ++ tget xs i :: B ∧ A.length = i := by
  refine ⟨xs.take i, xs.drop (i + 1), ?_, by rw [List.length_take]; omega⟩
  rw [tget_eq hi]
  simp
theorem ND.perm {xs ys : List Tm} (h : ND xs) (hp : xs.Perm ys) : ND ys := (hp.pairwise_iff (fun e => Ne.symm e)).1 h
theorem set_perm_tm {xs : List Tm} {i : Nat} (hi : i < xs.length) (hn : ND xs) (d : Int) : (xs.set i (d, (tget xs i).2)).Perm (without xs (tget xs i).2 ++ [(d, (tget xs i).2)]) := by
  obtain ⟨A, B, h1, h2⟩ := split_at hi
  generalize tget xs i = x at *
  subst h1
  rw [without_split hn, ← h2, List.set_append_right _ _ (Nat.le_refl _), Nat.sub_self, List.set_cons_zero]
  exact List.perm_middle.trans (List.perm_append_singleton _ _).symm
theorem stop_perm {xs ys : List Tm} {x : Tm} (hp : (ys ++ [x]).Perm xs) (hn : ND xs) : ys.Perm (without xs x.2) := by
  have h1 := without_split (hn.perm hp.symm)
  rw [List.append_nil] at h1
  have := without_perm hp x.2
  rw [h1] at this
  exact this
theorem without_mem {xs : List Tm} {a : Int} {x : Tm} : x ∈ without xs a ↔ x ∈ xs ∧ x.2 ≠ a := by
  unfold without
  rw [List.mem_filter]
  simp
end Go.Proofs.Ytcnheikckfhniaa
