/-
  Package outbox: keep. Conditions: those of each theorem.
-/
import Derived.Test.YtcnheikckfhniaaOut
import Derived.Deep.RegionHeld3
namespace Go.Proofs.Ytcnheikckfhniaa
open Go.RowKit
set_option maxRecDepth 100000

theorem msg_cells (w : World) (m : Msg) : ArrAt (w.alloc (.cells #[.int .i64 m.key, .int .i64 m.kind, .int .i64 m.rma, .int .i64 m.value, .int .i64 m.tries, .int .i64 m.due] 31)) w.heap.size 0 #[.int .i64 m.key, .int .i64 m.kind, .int .i64 m.rma, .int .i64 m.value, .int .i64 m.tries, .int .i64 m.due] := arr_new w _ _
/-- What is kept: whatever it was before. -/
def Kept (w : World) (p : Nat) (S : Nat → Prop) (last : Int) (xs : List Msg) (ts : List Tm) (m : Msg) (w' : World) : Prop :=
  OutSt w' p (More S w w') last (m :: wo xs m.key) (without ts m.key ++ [tmOf m]) ∧ Upd S w w'
theorem kept_of {w w2 w3 w9 : World} {p b : Nat} {S T : Nat → Prop} {last : Int} {xs : List Msg} {ts ys : List Tm} {m : Msg} (h : OutSt w p S last xs ts) (hmk : 1 ≤ m.key ∧ m.key ≤ last) (hfew : xs.length < 900) (hTS : ∀ k, T k → S k) (hyp : ys.Perm ts) (hpl : p < w.heap.size)
    (u2 : Upd S w w2) (hb : More S w w2 b) (hbT : ¬ T b) (k0 : w2.cell? ⟨p, 0, none⟩ = some (.int .i64 last)) (k1 : w2.cell? ⟨p, 1, none⟩ = some (.map (some b))) (kf : ∀ j, w2.frozen? ⟨p, j, none⟩ = false) (hM : MsgMap w2 b (m :: wo xs m.key)) (b3 : Below w2.heap.size w2 w3) {e : Ending} (hset : SetTo w3 p 2 T ys m.key m.due e w9) :
    e = .returned (.tuple #[]) ∧ Kept w p S last xs ts m w9 := by
  obtain ⟨he, zs, z1, z2, z3⟩ := hset
  have hp3 : p < w3.heap.size := Nat.lt_of_lt_of_le hpl (Nat.le_trans u2.size b3.size)
  have hp2 : p < w2.heap.size := Nat.lt_of_lt_of_le hpl u2.size
  have hb2 := hM.lt
  have uT : Upd S w w9 := ((u2.trans (Upd.below b3 (S := S)) (fun _ _ x => x)).trans z3.toUpd (fun k _ x => hTS k x))
  refine ⟨he, ⟨h.nd.put m, ?_, h.lst, ?_, ?_, ?_, More T w3 w9, zs, ?_, z1, ?_, .inr ⟨b, ?_, ?_, ?_, ?_⟩⟩, uT⟩
  · have := wo_length h.nd m.key
    rw [List.length_cons]
    omega
  · intro x hx
    rcases List.mem_cons.1 hx with rfl | hx
    · exact hmk
    · exact h.keys x (wo_mem.1 hx).1
  · exact (z3.rest hp3 0 (by omega) (by omega)).trans ((b3.cell (p := ⟨p, 0, none⟩) hp2).trans k0)
  · exact fun j => (z3.fz hp3 j).trans ((b3.frozen (p := ⟨p, j, none⟩) hp2).trans (kf j))
  · intro k hk
    rcases hk with hk | ⟨q1, q2⟩
    · exact .inl (hTS k hk)
    · exact .inr ⟨Nat.le_trans (Nat.le_trans u2.size b3.size) q1, q2⟩
  · exact z2.trans ((without_perm hyp m.key).append_right _)
  · rcases hb with hb | ⟨q1, q2⟩
    · exact .inl hb
    · exact .inr ⟨q1, Nat.lt_of_lt_of_le q2 (Nat.le_trans b3.size z3.size)⟩
  · rintro (q | ⟨q1, q2⟩)
    · exact hbT q
    · have := b3.size; omega
  · exact (z3.rest hp3 1 (by omega) (by omega)).trans ((b3.cell (p := ⟨p, 1, none⟩) hp2).trans k1)
  · exact (hM.below b3).upd z3.toUpd hbT

set_option maxHeartbeats 4000000 in
theorem keep_made {w : World} {p b : Nat} {S T : Nat → Prop} {last : Int} {xs : List Msg} {ts ys : List Tm} (h : OutSt w p S last xs ts) (m : Msg) (hmk : 1 ≤ m.key ∧ m.key ≤ last) (hfew : xs.length < 900) (htf : ts.length < 1000)
    (hTS : ∀ k, T k → S k) (hT : TimSt w p 2 T ys) (hyp : ys.Perm ts) (hSb : S b) (hTb : ¬ T b) (h1 : w.cell? ⟨p, 1, none⟩ = some (.map (some b))) (hM : MsgMap w b xs) :
    Calls Try.prog 31 #[.pointer (some ⟨p, 0, none⟩), .agg #[.int .i64 m.key, .int .i64 m.kind, .int .i64 m.rma, .int .i64 m.value, .int .i64 m.tries, .int .i64 m.due]] w fun e w' => e = .returned (.tuple #[]) ∧ Kept w p S last xs ts m w' := by
  have H : Aside _ := h
  have hpl := h.lt
  have hmw := key_w64 hmk h.lst
  have hSp := h.own
  have hbl := hM.lt
  have hbp : b ≠ p := fun e => hTb (e ▸ hT.1)
  have qm : ∀ (w : World) (r : Option Nat), (binOp .eql 53 (.map r) (.map none)).run Try.prog w = .ok (.bool r.isNone) w := fun w r => run_eql_map_nil w _ _ _ r Try.underlying53
  have A1 := msg_cells w m
  have B1 : Below w.heap.size w (w.alloc (.cells #[.int .i64 m.key, .int .i64 m.kind, .int .i64 m.rma, .int .i64 m.value, .int .i64 m.tries, .int .i64 m.due] 31)) := upd_box _
  have hT1 : Aside (∀ w3, Below w.heap.size w w3 → TimSt w3 p 2 T ys) := fun w3 hb => hT.below hb
  have hM1 := (hM.below B1)
  have k1 := (B1.cell (p := ⟨p, 1, none⟩) hpl).trans h1
  have k0 := (B1.cell (p := ⟨p, 0, none⟩) hpl).trans h.c0
  have kf : ∀ j, (w.alloc (.cells #[.int .i64 m.key, .int .i64 m.kind, .int .i64 m.rma, .int .i64 m.value, .int .i64 m.tries, .int .i64 m.due] 31)).frozen? ⟨p, j, none⟩ = false := fun j => (B1.frozen (p := ⟨p, j, none⟩) hpl).trans (h.fz j)
  have b0 := A1.cells 0 _ rfl
  have b1 := A1.cells 1 _ rfl
  have b2 := A1.cells 2 _ rfl
  have b3 := A1.cells 3 _ rfl
  have b4 := A1.cells 4 _ rfl
  have b5 := A1.cells 5 _ rfl
  have hB1 : w.heap.size < (w.alloc (.cells #[.int .i64 m.key, .int .i64 m.kind, .int .i64 m.rma, .int .i64 m.value, .int .i64 m.tries, .int .i64 m.due] 31)).heap.size := by simp
  have hmd : MsgMap (w.alloc (.cells #[.int .i64 m.key, .int .i64 m.kind, .int .i64 m.rma, .int .i64 m.value, .int .i64 m.tries, .int .i64 m.due] 31)).drew b xs := hM1.below (Below.refl _ _).drew
  obtain ⟨w2, rU, m2, t2⟩ := hmd.put h.nd (by unfold maxLen; omega) m hmw
  have u2 : Upd (fun k => k = b) (w.alloc (.cells #[.int .i64 m.key, .int .i64 m.kind, .int .i64 m.rma, .int .i64 m.value, .int .i64 m.tries, .int .i64 m.due] 31)) w2 := (Upd.refl _ _).drew.trans (turned_upd t2) (fun _ _ x => x)
  have hp1 : p < (w.alloc (.cells #[.int .i64 m.key, .int .i64 m.kind, .int .i64 m.rma, .int .i64 m.value, .int .i64 m.tries, .int .i64 m.due] 31)).heap.size := by omega
  have hBb : Hid (w.heap.size ≠ b) := Nat.ne_of_gt hbl
  have U2 : Aside (Upd (fun k => k = b) w w2) := (Upd.below B1).trans u2 (fun _ _ x => x)
  have hTB : Aside (∀ w3, Below w2.heap.size w2 w3 → TimSt w3 p 2 T ys) := fun w3 hb3 => (hT.upd U2.out (fun k hk e => hTb (e ▸ hk))).below hb3
  have HS : Aside (∀ w3, Below w2.heap.size w2 w3 → Calls Try.prog 42 #[.pointer (some ⟨p, 2, none⟩), .int .i64 m.key, .int .i64 m.due] w3 (SetTo w3 p 2 T ys m.key m.due)) := fun w3 hb3 => tim_set (hTB.out w3 hb3) m.key m.due hmw (by rw [hyp.length_eq]; exact htf)
  have HF : Aside (∀ w3, Below w2.heap.size w2 w3 → ∀ e w9, SetTo w3 p 2 T ys m.key m.due e w9 → e = .returned (.tuple #[]) ∧ Kept w p S last xs ts m w9) := fun w3 hb3 e w9 hs =>
    kept_of H.out hmk hfew hTS hyp hpl (U2.out.mono (fun _ _ e => e ▸ hSb)) (.inl hSb) hTb ((u2.cell (p := ⟨p, 0, none⟩) hp1 (fun e => hbp e.symm)).trans k0) ((u2.cell (p := ⟨p, 1, none⟩) hp1 (fun e => hbp e.symm)).trans k1) (fun j => (u2.frozen (p := ⟨p, j, none⟩) hp1 (fun e => hbp e.symm)).trans (kf j)) m2 hb3 hs
  have y0 := (u2.cell (p := ⟨w.heap.size, 0, none⟩) hB1 hBb.out).trans b0
  have y5 := (u2.cell (p := ⟨w.heap.size, 5, none⟩) hB1 hBb.out).trans b5
  have hB2 : w.heap.size < w2.heap.size := Nat.lt_of_lt_of_le hB1 u2.size
  clear h A1 hM hM1 hmd m2 t2 u2 h1 hT hT1 U2 hTB k0 kf H B1 hp1
  obtain ⟨mk, mi, mr, mv, mt, mu⟩ := m
  dsimp only at *
  go_enter Try.func31, Try.ntmps31
  go_wp2
  generalize w.alloc (.cells #[.int .i64 mk, .int .i64 mi, .int .i64 mr, .int .i64 mv, .int .i64 mt, .int .i64 mu] 31) = w1 at *
  generalize w.heap.size = B at b0 b1 b2 b3 b4 b5 y0 y5 hB1 hB2 ⊢
  go_upto_region 3 with (fail)
  go_region
  all_goals
    clear b0 b1 b2 b3 b4 b5 k1 rU
    go_wp2_with fail
    go_region_with ((go_at_call 42; with_reducible refine Calls.mono (HS.out _ ?_) ?_; (with_reducible (repeat (first | assumption | refine Below.drew ?_ | exact Below.refl _ _))); intro e w9 hset; obtain ⟨rfl, hk9⟩ := HF.out _ (by with_reducible (repeat (first | assumption | refine Below.drew ?_ | exact Below.refl _ _))) _ _ hset))
    all_goals
      go_end0
      exact ⟨rfl, hk9⟩

set_option maxHeartbeats 4000000 in
theorem keep_new {w : World} {p : Nat} {S T : Nat → Prop} {last : Int} {ts ys : List Tm} (h : OutSt w p S last [] ts) (m : Msg) (hmk : 1 ≤ m.key ∧ m.key ≤ last) (htf : ts.length < 1000)
    (hTS : ∀ k, T k → S k) (hT : TimSt w p 2 T ys) (hTl : ∀ k, T k → k < w.heap.size) (hyp : ys.Perm ts) (h1 : w.cell? ⟨p, 1, none⟩ = some (.map none)) :
    Calls Try.prog 31 #[.pointer (some ⟨p, 0, none⟩), .agg #[.int .i64 m.key, .int .i64 m.kind, .int .i64 m.rma, .int .i64 m.value, .int .i64 m.tries, .int .i64 m.due]] w fun e w' => e = .returned (.tuple #[]) ∧ Kept w p S last [] ts m w' := by
  have H : Aside _ := h
  have hpl := h.lt
  have hmw := key_w64 hmk h.lst
  have hSp := h.own
  have qm : ∀ (w : World) (r : Option Nat), (binOp .eql 53 (.map r) (.map none)).run Try.prog w = .ok (.bool r.isNone) w := fun w r => run_eql_map_nil w _ _ _ r Try.underlying53
  have hmm := @run_makeMap Try.prog
  have f1 := h.fz 1
  have hU0 : Upd (fun k => k = p) w (w.setCell ⟨p, 1, none⟩ (.map (some (w.heap.size + 1)))) := upd_set _ _
  have e0 : (w.setCell ⟨p, 1, none⟩ (.map (some (w.heap.size + 1)))).heap.size = w.heap.size := setCell_size _ _ _
  have hU1 : Upd (fun k => k = p) w (((w.setCell ⟨p, 1, none⟩ (.map (some (w.heap.size + 1)))).alloc (.cells #[.int .i64 m.key, .int .i64 m.kind, .int .i64 m.rma, .int .i64 m.value, .int .i64 m.tries, .int .i64 m.due] 31)).alloc (.map #[] 0)) := (hU0.alloc _).alloc _
  have k0 : (((w.setCell ⟨p, 1, none⟩ (.map (some (w.heap.size + 1)))).alloc (.cells #[.int .i64 m.key, .int .i64 m.kind, .int .i64 m.rma, .int .i64 m.value, .int .i64 m.tries, .int .i64 m.due] 31)).alloc (.map #[] 0)).cell? ⟨p, 0, none⟩ = some (.int .i64 last) := by
    rw [World.cell?_alloc_past _ _ _ (by simp; omega), World.cell?_alloc_past _ _ _ (by simp; omega), cell_other (by omega)]
    exact h.c0
  have k1 : (((w.setCell ⟨p, 1, none⟩ (.map (some (w.heap.size + 1)))).alloc (.cells #[.int .i64 m.key, .int .i64 m.kind, .int .i64 m.rma, .int .i64 m.value, .int .i64 m.tries, .int .i64 m.due] 31)).alloc (.map #[] 0)).cell? ⟨p, 1, none⟩ = some (.map (some (w.heap.size + 1))) := by
    rw [World.cell?_alloc_past _ _ _ (by simp; omega), World.cell?_alloc_past _ _ _ (by simp; omega)]
    exact cell_same h1
  have bt : Below (w.setCell ⟨p, 1, none⟩ (.map (some (w.heap.size + 1)))).heap.size (w.setCell ⟨p, 1, none⟩ (.map (some (w.heap.size + 1)))) (((w.setCell ⟨p, 1, none⟩ (.map (some (w.heap.size + 1)))).alloc (.cells #[.int .i64 m.key, .int .i64 m.kind, .int .i64 m.rma, .int .i64 m.value, .int .i64 m.tries, .int .i64 m.due] 31)).alloc (.map #[] 0)) := blw_alloc (upd_box _) _
  have kf : ∀ j, (((w.setCell ⟨p, 1, none⟩ (.map (some (w.heap.size + 1)))).alloc (.cells #[.int .i64 m.key, .int .i64 m.kind, .int .i64 m.rma, .int .i64 m.value, .int .i64 m.tries, .int .i64 m.due] 31)).alloc (.map #[] 0)).frozen? ⟨p, j, none⟩ = false := fun j => by
    rw [bt.frozen (p := ⟨p, j, none⟩) (by rw [e0]; exact hpl), World.frozen?_setCell]
    exact h.fz j
  have hTT : TimSt (((w.setCell ⟨p, 1, none⟩ (.map (some (w.heap.size + 1)))).alloc (.cells #[.int .i64 m.key, .int .i64 m.kind, .int .i64 m.rma, .int .i64 m.value, .int .i64 m.tries, .int .i64 m.due] 31)).alloc (.map #[] 0)) p 2 T ys := (hT.other (j := 1) (by omega) (by omega) (.map (some (w.heap.size + 1)))).below bt
  have A1 := msg_cells (w.setCell ⟨p, 1, none⟩ (.map (some (w.heap.size + 1)))) m
  rw [e0] at A1
  have A2 := A1.grown (upd_box (.map #[] 0))
  have b0 := A2.cells 0 _ rfl
  have b1 := A2.cells 1 _ rfl
  have b2 := A2.cells 2 _ rfl
  have b3 := A2.cells 3 _ rfl
  have b4 := A2.cells 4 _ rfl
  have b5 := A2.cells 5 _ rfl
  have hM := MsgMap.made ((w.setCell ⟨p, 1, none⟩ (.map (some (w.heap.size + 1)))).alloc (.cells #[.int .i64 m.key, .int .i64 m.kind, .int .i64 m.rma, .int .i64 m.value, .int .i64 m.tries, .int .i64 m.due] 31))
  rw [show ((w.setCell ⟨p, 1, none⟩ (.map (some (w.heap.size + 1)))).alloc (.cells #[.int .i64 m.key, .int .i64 m.kind, .int .i64 m.rma, .int .i64 m.value, .int .i64 m.tries, .int .i64 m.due] 31)).heap.size = w.heap.size + 1 by simp] at hM
  have hB1 : w.heap.size < (((w.setCell ⟨p, 1, none⟩ (.map (some (w.heap.size + 1)))).alloc (.cells #[.int .i64 m.key, .int .i64 m.kind, .int .i64 m.rma, .int .i64 m.value, .int .i64 m.tries, .int .i64 m.due] 31)).alloc (.map #[] 0)).heap.size := by simp; omega
  have hB1s : (((w.setCell ⟨p, 1, none⟩ (.map (some (w.heap.size + 1)))).alloc (.cells #[.int .i64 m.key, .int .i64 m.kind, .int .i64 m.rma, .int .i64 m.value, .int .i64 m.tries, .int .i64 m.due] 31)).alloc (.map #[] 0)).heap.size = w.heap.size + 2 := by simp
  have HMG : Hid (w.heap.size ≤ w.heap.size + 1) := Nat.le_succ _
  have hmd : MsgMap (((w.setCell ⟨p, 1, none⟩ (.map (some (w.heap.size + 1)))).alloc (.cells #[.int .i64 m.key, .int .i64 m.kind, .int .i64 m.rma, .int .i64 m.value, .int .i64 m.tries, .int .i64 m.due] 31)).alloc (.map #[] 0)).drew (w.heap.size + 1) [] := hM.below (Below.refl _ _).drew
  obtain ⟨w2, rU, m2, t2⟩ := hmd.put (xs := []) List.Pairwise.nil (by unfold maxLen; simp) m hmw
  have u2 : Upd (fun k => k = w.heap.size + 1) (((w.setCell ⟨p, 1, none⟩ (.map (some (w.heap.size + 1)))).alloc (.cells #[.int .i64 m.key, .int .i64 m.kind, .int .i64 m.rma, .int .i64 m.value, .int .i64 m.tries, .int .i64 m.due] 31)).alloc (.map #[] 0)) w2 := (Upd.refl _ _).drew.trans (turned_upd t2) (fun _ _ x => x)
  have hp1 : p < (((w.setCell ⟨p, 1, none⟩ (.map (some (w.heap.size + 1)))).alloc (.cells #[.int .i64 m.key, .int .i64 m.kind, .int .i64 m.rma, .int .i64 m.value, .int .i64 m.tries, .int .i64 m.due] 31)).alloc (.map #[] 0)).heap.size := by omega
  have hpb : p ≠ w.heap.size + 1 := by omega
  have U2 : Aside (Upd S w w2) := (hU1.mono (fun _ _ e => e ▸ hSp)).trans u2 (fun k hk e => by omega)
  have hMS : More S w w2 (w.heap.size + 1) := .inr ⟨by omega, by have := u2.size; omega⟩
  have hTb : ¬ T (w.heap.size + 1) := fun x => by have := hTl _ x; omega
  have hTB : Aside (∀ w3, Below w2.heap.size w2 w3 → TimSt w3 p 2 T ys) := fun w3 hb3 => (hTT.upd u2 (fun k hk e => hTb (e ▸ hk))).below hb3
  have HS : Aside (∀ w3, Below w2.heap.size w2 w3 → Calls Try.prog 42 #[.pointer (some ⟨p, 2, none⟩), .int .i64 m.key, .int .i64 m.due] w3 (SetTo w3 p 2 T ys m.key m.due)) := fun w3 hb3 => tim_set (hTB.out w3 hb3) m.key m.due hmw (by rw [hyp.length_eq]; exact htf)
  have HF : Aside (∀ w3, Below w2.heap.size w2 w3 → ∀ e w9, SetTo w3 p 2 T ys m.key m.due e w9 → e = .returned (.tuple #[]) ∧ Kept w p S last [] ts m w9) := fun w3 hb3 e w9 hs =>
    kept_of H.out hmk (by simp) hTS hyp hpl U2.out hMS hTb ((u2.cell (p := ⟨p, 0, none⟩) hp1 hpb).trans k0) ((u2.cell (p := ⟨p, 1, none⟩) hp1 hpb).trans k1) (fun j => (u2.frozen (p := ⟨p, j, none⟩) hp1 hpb).trans (kf j)) m2 hb3 hs
  have hBb : w.heap.size ≠ w.heap.size + 1 := by omega
  have y0 := (u2.cell (p := ⟨w.heap.size, 0, none⟩) hB1 hBb).trans b0
  have y5 := (u2.cell (p := ⟨w.heap.size, 5, none⟩) hB1 hBb).trans b5
  have hB2 : w.heap.size < w2.heap.size := Nat.lt_of_lt_of_le hB1 u2.size
  clear h A1 A2 hM hmd m2 t2 u2 hT U2 hTB k0 kf H hp1 hU0 hU1 e0 bt hTT hMS hTb hpb hBb hB1s
  obtain ⟨mk, mi, mr, mv, mt, mu⟩ := m
  dsimp only at *
  go_enter Try.func31, Try.ntmps31
  go_wp2
  clear h1 f1
  generalize (((w.setCell ⟨p, 1, none⟩ (.map (some (w.heap.size + 1)))).alloc (.cells #[.int .i64 mk, .int .i64 mi, .int .i64 mr, .int .i64 mv, .int .i64 mt, .int .i64 mu] 31)).alloc (.map #[] 0)) = w1 at *
  generalize w.heap.size + 1 = g at *
  generalize w.heap.size = B at b0 b1 b2 b3 b4 b5 y0 y5 hB1 hB2 ⊢
  go_upto_region 3 with (fail)
  go_region
  all_goals
    clear b0 b1 b2 b3 b4 b5 k1 rU
    go_wp2_with fail
    go_region_with ((go_at_call 42; with_reducible refine Calls.mono (HS.out _ ?_) ?_; (with_reducible (repeat (first | assumption | refine Below.drew ?_ | exact Below.refl _ _))); intro e w9 hset; obtain ⟨rfl, hk9⟩ := HF.out _ (by with_reducible (repeat (first | assumption | refine Below.drew ?_ | exact Below.refl _ _))) _ _ hset))
    all_goals
      go_end0
      exact ⟨rfl, hk9⟩

theorem out_keep {w : World} {p : Nat} {S : Nat → Prop} {last : Int} {xs : List Msg} {ts : List Tm} (h : OutSt w p S last xs ts) (m : Msg) (hmk : 1 ≤ m.key ∧ m.key ≤ last) (hfew : xs.length < 900) (htf : ts.length < 1000) :
    Calls Try.prog 31 #[.pointer (some ⟨p, 0, none⟩), .agg #[.int .i64 m.key, .int .i64 m.kind, .int .i64 m.rma, .int .i64 m.value, .int .i64 m.tries, .int .i64 m.due]] w fun e w' => e = .returned (.tuple #[]) ∧ Kept w p S last xs ts m w' := by
  obtain ⟨T, ys, h1, h2, h3, h4⟩ := h.st
  rcases h4 with ⟨e, q⟩ | ⟨b, q1, q2, q3, q4⟩
  · subst e
    exact keep_new h m hmk htf (fun k x => h1 k x.1) h2.lower (fun k x => x.2) h3 q
  · exact keep_made h m hmk hfew htf h1 h2 h3 q1 q2 q3 q4
end Go.Proofs.Ytcnheikckfhniaa
