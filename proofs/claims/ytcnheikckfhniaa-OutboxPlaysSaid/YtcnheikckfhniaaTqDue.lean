/-
  Package timer: Due. Conditions: those of each theorem.
-/
import Derived.Test.YtcnheikckfhniaaTqDo
namespace Go.Proofs.Ytcnheikckfhniaa
open Go.RowKit
set_option maxRecDepth 100000

theorem int_info : (Try.prog.info? 3).map (fun i => (i.zero, i.size, i.bytes)) = some (some (.int .i64 0), 1, 8) := by kernel_rfl
def nums (xs : List Tm) : List Value := xs.map fun x => .int .i64 x.2
theorem nums_row {w : World} {base n c : Nat} {e : TypeId} {a : Option Addr} {xs : List Tm} (h : w.ownsRow base e 1 (.slice a n c) n (nums xs)) (hn : xs.length = n) : IntRow w a n (fun i => (tget xs i).2) ∧ ∀ b o, a = some ⟨b, o, none⟩ → base ≤ b ∧ ∀ j, w.frozen? ⟨b, j, none⟩ = false := by
  have hx := fun g (e' : (Value.slice a n c).ownBlock = some g) => own_in h e'
  have hb := fun g (e' : (Value.slice a n c).ownBlock = some g) => own_base h e'
  constructor
  · intro h0
    obtain ⟨g, cap, hv, _, _⟩ := h.form h0
    injection hv with e1 e2 e3
    subst e1 e3
    refine ⟨g, 0, rfl, hx g rfl, fun k hk => ?_⟩
    rw [Nat.zero_add, h.cellAt k (by omega)]
    unfold nums
    show _ = some (Value.int .i64 (tget xs k).2)
    rw [List.getElem?_map, List.getElem?_eq_getElem (by omega), tget_eq (by omega)]
    rfl
  · intro b o e1
    subst e1
    exact ⟨hb b rfl, fun j => by
      rcases h.2 with ⟨h2, _⟩ | ⟨g', cap, cur, h2, h3, h4, h5, h6, h7, h8⟩
      · cases h2
      · injection h2 with e1 e2 e3
        injection e1 with e1
        injection e1 with e1 e4
        subst e1
        simp [World.frozen?, h4]⟩
/-- The one that is due first. -/
theorem first_is {ys zs : List Tm} {x : Tm} (hh : HeapTo ys ys.length) (hs : Srt (x :: zs)) (hp : ys.Perm (x :: zs)) : tget ys 0 = x := by
  have h0 : 0 < ys.length := by rw [hp.length_eq]; simp
  have m1 : tget ys 0 ∈ x :: zs := hp.mem_iff.1 (mem_tget.2 ⟨0, h0, rfl⟩)
  rcases List.mem_cons.1 m1 with e | hm
  · exact e
  · have l1 := (List.pairwise_cons.1 hs).1 _ hm
    obtain ⟨j, hj, e⟩ := mem_tget.1 (hp.mem_iff.2 (List.mem_cons_self (a := x) (l := zs)))
    have l2 := hh.least j hj
    rw [e, l1] at l2
    cases l2
theorem drop_at {ws : List Tm} {k : Nat} (hk : k < ws.length) : ws.drop k = tget ws k :: ws.drop (k + 1) := by
  rw [tget_eq hk]
  exact List.drop_eq_getElem_cons hk
theorem take_at {ws : List Tm} {k : Nat} (hk : k < ws.length) : ws.take (k + 1) = ws.take k ++ [tget ws k] := by
  rw [tget_eq hk]
  exact (List.take_append_getElem hk).symm

set_option maxHeartbeats 4000000 in
theorem tim_due {w : World} {p o : Nat} {S : Nat → Prop} {xs ws : List Tm} (h : TimSt w p o S xs) (hs : Srt ws) (hp : ws.Perm xs) (now : Int) :
    Calls Try.prog 25 #[.pointer (some ⟨p, o, none⟩), .int .i64 now] w fun e w' => ∃ k a c, k ≤ ws.length ∧ e = .returned (.slice a k c) ∧ IntRow w' a k (fun i => (tget ws i).2) ∧ (∀ b o, a = some ⟨b, o, none⟩ → w.heap.size ≤ b ∧ ∀ j, w'.frozen? ⟨b, j, none⟩ = false) ∧ (∀ i, i < k → (tget ws i).1 ≤ now) ∧ (k < ws.length → now < (tget ws k).1) ∧
      (∃ ys, TimSt w' p o S ys ∧ ys.Perm (ws.drop k)) ∧ UpdC p o S w w' := by
  have HS : Aside (Srt ws) := hs
  have hf := h.few
  have hl := hp.length_eq
  have H0 : Aside (TimSt w p o (fun k => S k ∧ k < w.heap.size) xs ∧ xs.Perm (ws.drop 0)) := ⟨h.lower, hp.symm⟩
  have hml := m_len p o
  have hmpop := m_pop p o
  clear h hs hp
  go_enter Try.func25, Try.ntmps25
  go_wp2
  go_loopw [5] (fun s wr => ∃ (k : Nat) (a : Option Addr) (c : Nat) (ys : List Tm), k ≤ ws.length ∧ s = .slice a k c ∧ Aside (wr.ownsRow w.heap.size 3 1 (.slice a k c) k (nums (ws.take k))) ∧ Aside (TimSt wr p o (fun k => S k ∧ k < w.heap.size) ys ∧ ys.Perm (ws.drop k) ∧ (∀ i, i < k → (tget ws i).1 ≤ now) ∧ UpdC p o S w wr)) (fun s _ => match s with | .slice _ n _ => ws.length - n | _ => 0)
  case atStart => exact ⟨0, none, 0, xs, Nat.zero_le _, rfl, World.ownsRow_nil _ _ _ _, H0.out.1, H0.out.2, fun i hi => absurd hi (Nat.not_lt_zero _), UpdC.refl _ _ _ _⟩
  case round =>
    clear H0
    obtain ⟨k, a, c, ys, hk, rfl, HO, HR⟩ := hrel
    have HL : Aside _ := tim_len HR.out.1
    have ly : ys.length = ws.length - k := by rw [HR.out.2.1.length_eq, List.length_drop]
    have LAST : Aside (∀ w2, Below wr.heap.size wr w2 → (k < ws.length → now < (tget ws k).1) → ∃ k' a' c', k' ≤ ws.length ∧ Ending.returned (.slice a k c) = .returned (.slice a' k' c') ∧ IntRow w2 a' k' (fun i => (tget ws i).2) ∧ (∀ b o, a' = some ⟨b, o, none⟩ → w.heap.size ≤ b ∧ ∀ j, w2.frozen? ⟨b, j, none⟩ = false) ∧ (∀ i, i < k' → (tget ws i).1 ≤ now) ∧ (k' < ws.length → now < (tget ws k').1) ∧ (∃ ys, TimSt w2 p o S ys ∧ ys.Perm (ws.drop k')) ∧ UpdC p o S w w2) := by
      intro w2 b2 hnow
      obtain ⟨q1, q2, q3, q4⟩ := HR.out
      obtain ⟨r1, r2⟩ := nums_row HO.out (by rw [List.length_take]; omega)
      refine ⟨k, a, c, hk, rfl, fun h0 => ?_, fun b o e => ⟨(r2 b o e).1, fun j => ?_⟩, q3, hnow, ⟨ys, (q1.below b2).mono (fun k x => x.1), q2⟩, q4.trans (UpdC.below (S := S) b2) (fun _ _ x => x)⟩
      · obtain ⟨b, o, s1, s2, s3⟩ := (r1.below b2) h0
        exact ⟨b, o, s1, s2, fun i hi => by rw [s3 i hi]; show some (Value.int .i64 (tget (ws.take k) i).2) = _; rw [tget_take i hi]⟩
      · subst e
        exact (b2.frozen (p := ⟨b, j, none⟩) (own_in HO.out rfl)).trans ((r2 b o rfl).2 j)
    by_cases hkl : k < ws.length
    · have hpos : (0 : Int) < (ys.length : Int) := by omega
      obtain ⟨g, m, cc, sg, sm, ha⟩ := HR.out.1.made (fun e => by rw [e] at ly; simp at ly; omega)
      have hfst : tget ys 0 = tget ws k := first_is HR.out.1.2.2.1 (by
        have h7 : Srt (ws.drop k) := List.Pairwise.drop HS.out
        rwa [drop_at hkl] at h7) (by
        have := HR.out.2.1
        rwa [drop_at hkl] at this)
      have HF : Aside (∀ w2, Below wr.heap.size wr w2 → Calls Try.prog 36 #[.pointer (some ⟨p, o, none⟩)] w2 fun e w' => e = .returned (.agg #[.int .i64 (tget ws k).1, .int .i64 (tget ws k).2]) ∧ Below wr.heap.size wr w') := fun w2 b2 => by
        rw [← hfst]
        exact (tim_first (ha.below b2) (by omega)).mono fun e w' x => ⟨x.1, b2.trans (x.2.mono b2.size)⟩
      have hfd := fun w => tm_day (tget ws k) w
      have hfn := fun w => tm_num (tget ws k) w
      have HA : Aside (TimAt wr p o g m cc ys) := ha
      have HLY : Hid (ys.length = (ws.length - k - 1) + 1) := by show _ = _; omega
      clear ha
      go_wp2_with fail
      refine Calls.mono HL.out ?_
      rintro e w1 ⟨rfl, rfl⟩
      go_wp2_with fail
      refine Calls.mono (HF.out _ (Below.refl _ _)) ?_
      rintro e w2 ⟨rfl, b2⟩
      have HB2 : Aside _ := b2
      clear b2
      by_cases hnow : (tget ws k).1 ≤ now
      · clear LAST
        go_wp2_with fail
        refine Calls.mono (HF.out _ HB2.out) ?_
        rintro e w3 ⟨rfl, b3⟩
        have HO3 : Aside ((w3.alloc (.cells #[.int .i64 (tget ws k).2] 3)).ownsRow w.heap.size 3 1 (.slice a k c) k (nums (ws.take k))) := ownsRow_alloc (ownsRow_upd (S := fun _ => False) HO.out (Upd.below b3) (fun _ _ x => x)) _
        have hwz : w.heap.size ≤ (w3.alloc (.cells #[.int .i64 (tget ws k).2] 3)).heap.size := by
          have h1 := HR.out.2.2.2.size
          have h2 := b3.size
          simp; omega
        have HB3 : Aside (Below wr.heap.size wr (w3.alloc (.cells #[.int .i64 (tget ws k).2] 3))) := blw_alloc b3 _
        have hx3 : (w3.alloc (.cells #[.int .i64 (tget ws k).2] 3)).cell? ⟨w3.heap.size, 0, none⟩ = some (.int .i64 (tget ws k).2) := (arr_new w3 _ _).cells 0 _ rfl
        have hm1 : k + 1 ≤ maxLen := by unfold maxLen; omega
        have hm2 : (k + 1) * 8 ≤ 140737488355328 := by omega
        clear b3
        go_upto_region 3 with (at_builtin; refine wpList_append_elem rfl _ _ 63 rfl w.heap.size 3 (.int .i64 0) 8 Try.underlying63 int_info rfl (.slice a k c) k _ rfl HO3.out (.int .i64 (tget ws k).2) rfl ⟨w3.heap.size, 0, none⟩ 1 rfl hx3 (k + 1) rfl hm1 hm2 hwz 0 _ (Below.refl _ _) (Nat.zero_le _) ?_; intro a4 c4 w4 ho4 hb4 hu4 hn4)
        have hlo : ∀ q, (Value.slice a k c).ownBlock = some q → w.heap.size ≤ q := fun q hq => own_base HO.out hq
        have H4 : TimAt w4 p o g m cc ys := (HA.out.below HB3.out).upd hu4 (fun e => by have h1 := hlo _ e; have h2 := HR.out.1.1.2; omega) (fun e => by have := hlo _ e; have := sg.2; omega) (fun e => by have := hlo _ e; have := sm.2; omega)
        have HPOP : Aside _ := h_pop H4 HLY.out (HLY.out ▸ HR.out.1.2.2.1)
        have HU4 : Aside (UpdC p o S w w4) := (HR.out.2.2.2.trans (UpdC.below (S := S) HB3.out) (fun _ _ x => x)).trans (hu4.part (fun e => by have h1 := hlo _ e; have h2 := HR.out.1.1.2; omega)) (fun q hq e => by have := hlo q e; omega)
        clear hb4 hu4 hn4 H4 hx3 HB3 HO3 hlo
        go_wp2_with fail
        refine Calls.mono HPOP.out ?_
        rintro e w5 ⟨⟨v, rfl⟩, ys5, h5, p5, t5, u5⟩
        have HN : Aside (Aside (w5.ownsRow w.heap.size 3 1 (.slice a4 (k + 1) c4) (k + 1) (nums (ws.take (k + 1)))) ∧ Aside (TimSt w5 p o (fun k => S k ∧ k < w.heap.size) ys5 ∧ ys5.Perm (ws.drop (k + 1)) ∧ (∀ i, i < k + 1 → (tget ws i).1 ≤ now) ∧ UpdC p o S w w5)) := by
          have hblk : ∀ q, Blk p g m q → S q ∧ q < w.heap.size := fun q hq => by
            rcases hq with e | e | e
            · rw [e]; exact HR.out.1.1
            · rw [e]; exact sg
            · rw [e]; exact sm
          refine ⟨?_, ⟨HR.out.1.1, h5.lt, t5, .inr ⟨g, m, cc, sg, sm, h5⟩⟩, ?_, fun i hi => ?_, HU4.out.trans u5 (fun q _ hq => (hblk q hq).1)⟩
          · show World.ownsRow _ _ _ _ _ _ _
            have e1 : nums (ws.take (k + 1)) = nums (ws.take k) ++ [.int .i64 (tget ws k).2] := by
              rw [take_at hkl]
              simp [nums]
            rw [e1]
            exact ownsRow_upd (S := Blk p g m) ho4.out u5.toUpd (fun q hq hb => by have h1 := own_base ho4.out hq; have h2 := (hblk q hb).2; omega)
          · rw [hfst] at p5
            have q := p5.trans HR.out.2.1
            rw [drop_at hkl] at q
            exact List.Perm.cons_inv ((List.perm_append_singleton _ _).symm.trans q)
          · by_cases e : i = k
            · rw [e]; exact hnow
            · exact HR.out.2.2.1 i (by omega)
        clear h5 p5 t5 u5 ho4 HPOP HU4
        go_wp2
        go_roundw
        case rel => exact ⟨k + 1, a4, c4, ys5, by omega, rfl, HN.out.1, HN.out.2⟩
        case measure => simp; omega
      · have hd : decide ((tget ws k).1 ≤ now) = false := decide_eq_false hnow
        have FIN : Aside _ := LAST.out _ HB2.out (fun _ => by omega)
        clear LAST hnow
        go_wp2
        go_ret
        exact FIN.out
    · have hz : (ys.length : Int) = 0 := by omega
      have FIN : Aside _ := LAST.out _ (Below.refl _ _) (fun x => absurd x hkl)
      clear LAST
      go_wp2_with fail
      refine Calls.mono HL.out ?_
      rintro e w1 ⟨rfl, rfl⟩
      go_wp2
      go_ret
      exact FIN.out
end Go.Proofs.Ytcnheikckfhniaa
