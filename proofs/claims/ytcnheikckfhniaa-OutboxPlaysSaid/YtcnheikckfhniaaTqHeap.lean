/-
  Package container/heap over package timer's queue: Push, Pop, Remove, Fix. Conditions: those of each theorem.
-/
import Derived.Test.YtcnheikckfhniaaTqUp
import Derived.Test.YtcnheikckfhniaaTqPush
namespace Go.Proofs.Ytcnheikckfhniaa
open Go.RowKit
set_option maxRecDepth 100000

/-- The three blocks of timers. -/
def Blk (p g m : Nat) : Nat → Prop := fun k => k = p ∨ k = g ∨ k = m
theorem upd_gm {w w' : World} {p o g m : Nat} (h : Upd (fun k => k = g ∨ k = m) w w') (h1 : p ≠ g) (h2 : p ≠ m) : UpdC p o (Blk p g m) w w' := (h.part (fun e => e.elim h1 h2)).mono (fun _ _ x => .inr x)
theorem upd_pm {w w' : World} {p o g m : Nat} (h : UpdC p o (fun k => k = p ∨ k = m) w w') : UpdC p o (Blk p g m) w w' := h.mono (fun _ _ x => x.elim .inl (fun x => .inr (.inr x)))

set_option maxHeartbeats 2000000 in
theorem h_push {w : World} {p o g m c : Nat} {xs : List Tm} (h : TimAt w p o g m c xs) (hh : HeapTo xs xs.length) (x : Tm) (hx : W64 x.2) (hno : ∀ i, i < xs.length → (tget xs i).2 ≠ x.2) (hfew : xs.length < 1000) :
    Calls Try.prog 60 #[.iface 78 (.pointer (some ⟨p, o, none⟩)), .iface 80 (.agg #[.int .i64 x.1, .int .i64 x.2])] w fun e w' => e = .returned (.tuple #[]) ∧ ∃ g' c' ys, TimAt w' p o g' m c' ys ∧ ys.Perm (xs ++ [x]) ∧ HeapTo ys ys.length ∧ UpdC p o (Blk p g m) w w' ∧ (g' = g ∨ w.heap.size ≤ g') := by
  have HP : Aside _ := q_push h x hx hno hfew
  have HH : Aside (UpAt (xs ++ [x]) (xs.length + 1) xs.length) := UpAt.pushed hh x
  have hmp := m_push p o
  have hml := m_len p o
  clear h hh hno
  go_enter Try.func60, Try.ntmps60
  go_wp2_with fail
  refine Calls.mono HP.out ?_
  rintro e w1 ⟨rfl, g1, c1, h1, u1, l1⟩
  have HL : Aside _ := q_len h1
  have hl : (xs ++ [x]).length = xs.length + 1 := by rw [List.length_append]; rfl
  rw [hl] at HL
  have HU : Aside _ := h_up h1 (n := xs.length + 1) (j := xs.length) (by omega) (by omega) HH.out
  have U1 : Aside (UpdC p o (Blk p g m) w w1 ∧ (g1 = g ∨ w.heap.size ≤ g1)) := ⟨u1, l1⟩
  clear h1 u1 l1 HP HH
  go_wp2_with fail
  refine Calls.mono HL.out ?_
  rintro e w2 ⟨rfl, rfl⟩
  go_wp2_with fail
  refine Calls.mono HU.out ?_
  rintro e w2 ⟨rfl, ys, h2, p2, s2, t2, u2⟩
  have HF : Aside (∃ g' c' ys, TimAt w2 p o g' m c' ys ∧ ys.Perm (xs ++ [x]) ∧ HeapTo ys ys.length ∧ UpdC p o (Blk p g m) w w2 ∧ (g' = g ∨ w.heap.size ≤ g')) := by
    have e1 := p2.length_eq
    rw [hl] at e1
    refine ⟨g1, c1, ys, h2, p2, by rw [e1]; exact t2, U1.out.1.trans (u2.part (fun e => e.elim h2.pg h2.gm.2)) (fun k hk x => ?_), U1.out.2⟩
    rcases x with e | e
    · rcases U1.out.2 with e2 | e2
      · exact .inr (.inl (e.trans e2))
      · omega
    · exact .inr (.inr e)
  clear h2 p2 s2 t2 u2
  go_wp2
  go_end0
  exact ⟨rfl, HF.out⟩

set_option maxHeartbeats 2000000 in
theorem h_push_new {w : World} {p o : Nat} (hpl : p < w.heap.size) (h0 : w.cell? ⟨p, o, none⟩ = some (.slice none 0 0)) (h1 : w.cell? ⟨p, o + 1, none⟩ = some (.map none)) (hfz : ∀ j, w.frozen? ⟨p, j, none⟩ = false) (x : Tm) (hx : W64 x.2) :
    Calls Try.prog 60 #[.iface 78 (.pointer (some ⟨p, o, none⟩)), .iface 80 (.agg #[.int .i64 x.1, .int .i64 x.2])] w fun e w' => e = .returned (.tuple #[]) ∧ ∃ g' m' c' ys, TimAt w' p o g' m' c' ys ∧ ys.Perm [x] ∧ HeapTo ys ys.length ∧ UpdC p o (fun k => k = p) w w' ∧ w.heap.size ≤ g' ∧ w.heap.size ≤ m' := by
  have HP : Aside _ := q_push_new hpl h0 h1 hfz x hx
  have hmp := m_push p o
  have hml := m_len p o
  clear h0 h1 hfz
  go_enter Try.func60, Try.ntmps60
  go_wp2_with fail
  refine Calls.mono HP.out ?_
  rintro e w1 ⟨rfl, g1, m1, c1, h1, u1, l1, l2⟩
  have HL : Aside _ := q_len h1
  have HU : Aside _ := h_up h1 (n := 1) (j := 0) (by simp) (by omega) ⟨fun k k0 kn _ => by omega, fun x => absurd x (Nat.lt_irrefl 0)⟩
  have U1 : Aside (UpdC p o (fun k => k = p) w w1 ∧ w.heap.size ≤ g1 ∧ w.heap.size ≤ m1) := ⟨u1, l1, l2⟩
  clear h1 u1 l1 l2 HP
  go_wp2_with fail
  refine Calls.mono HL.out ?_
  rintro e w2 ⟨rfl, rfl⟩
  go_wp2_with fail
  refine Calls.mono HU.out ?_
  rintro e w2 ⟨rfl, ys, h2, p2, s2, t2, u2⟩
  have HF : Aside (∃ g' m' c' ys, TimAt w2 p o g' m' c' ys ∧ ys.Perm [x] ∧ HeapTo ys ys.length ∧ UpdC p o (fun k => k = p) w w2 ∧ w.heap.size ≤ g' ∧ w.heap.size ≤ m') := by
    have e1 := p2.length_eq
    refine ⟨g1, m1, c1, ys, h2, p2, by rw [e1]; exact t2, U1.out.1.trans (u2.part (fun e => e.elim h2.pg h2.gm.2)) (fun k hk x => ?_), U1.out.2⟩
    rcases x with e | e
    · have := U1.out.2.1; omega
    · have := U1.out.2.2; omega
  clear h2 p2 s2 t2 u2
  go_wp2
  go_end0
  exact ⟨rfl, HF.out⟩

set_option maxHeartbeats 2000000 in
theorem h_pop {w : World} {p o g m c : Nat} {xs : List Tm} (h : TimAt w p o g m c xs) {n : Nat} (hn : xs.length = n + 1) (hh : HeapTo xs (n + 1)) :
    Calls Try.prog 37 #[.iface 78 (.pointer (some ⟨p, o, none⟩))] w fun e w' => (∃ v, e = .returned v) ∧ ∃ ys, TimAt w' p o g m c ys ∧ (ys ++ [tget xs 0]).Perm xs ∧ HeapTo ys ys.length ∧ UpdC p o (Blk p g m) w w' := by
  have HL : Aside _ := q_len h
  rw [hn] at HL
  have hfew := h.few
  have HS : Aside _ := q_swap h (i := 0) (j := n) (by omega) (by omega)
  have HD : Aside (DownAt (tswp xs 0 n) n 0 0) := DownAt.zero (hh.less (Nat.le_succ n)) (fun k k1 k2 => by rw [tget_swp (by omega) (by omega), if_neg (by omega), if_neg k2])
  have hms := m_swap p o
  have hml := m_len p o
  have hmp := m_pop p o
  clear h hh
  go_enter Try.func37, Try.ntmps37
  go_wp2_with fail
  refine Calls.mono HL.out ?_
  rintro e w1 ⟨rfl, rfl⟩
  go_wp2_with fail
  refine Calls.mono HS.out ?_
  rintro e w2 ⟨rfl, h2, u2⟩
  have HDN : Aside _ := h_down h2 (n := n) (i0 := 0) (by rw [tswp_length]; omega) (Nat.zero_le _) HD.out
  have U2 : Aside _ := u2
  clear h2 u2 HL HS HD
  go_wp2_with fail
  refine Calls.mono HDN.out ?_
  rintro e w3 ⟨b, ys, rfl, h3, p3, s3, t3, f3, u3⟩
  have HPP : Aside _ := q_pop h3 (n := n) (by rw [p3.length_eq, tswp_length]; exact hn)
  have HF : Aside (∀ w4, TimAt w4 p o g m c (ys.take n) → UpdC p o (fun k => k = p ∨ k = m) w3 w4 → ∃ ys, TimAt w4 p o g m c ys ∧ (ys ++ [tget xs 0]).Perm xs ∧ HeapTo ys ys.length ∧ UpdC p o (Blk p g m) w w4) := by
    intro w4 h4 u4
    have hl : ys.length = n + 1 := by rw [p3.length_eq, tswp_length]; exact hn
    have e1 : tget ys n = tget xs 0 := by rw [s3 n (Nat.le_refl _), tget_swp (by omega) (by omega), if_pos rfl]
    have hp : HeapTo ys n := by
      cases b
      · exact HeapTo.of_up0 (f3 rfl)
      · exact t3 rfl
    refine ⟨_, h4, ?_, ?_, ((upd_gm U2.out h3.pg h3.gm.2).trans (upd_gm u3 h3.pg h3.gm.2) (fun _ _ x => x)).trans (upd_pm u4) (fun _ _ x => x)⟩
    · rw [← e1, take_last hl]
      exact p3.trans (tswp_perm (by omega) (by omega))
    · rw [show (ys.take n).length = n by rw [List.length_take]; omega]
      exact hp.congr (fun k hk => tget_take k hk)
  clear h3 p3 s3 t3 f3 u3 U2 HDN
  go_wp2_with fail
  refine Calls.mono HPP.out ?_
  rintro e w4 ⟨⟨v, rfl⟩, h4, u4⟩
  have HG : Aside _ := HF.out w4 h4 u4
  clear h4 u4 HF
  go_wp2
  go_ret
  exact ⟨⟨_, rfl⟩, HG.out⟩
end Go.Proofs.Ytcnheikckfhniaa
