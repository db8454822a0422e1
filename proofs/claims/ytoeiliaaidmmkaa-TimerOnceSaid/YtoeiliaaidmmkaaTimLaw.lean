/-
  The laws of layer 12, what they share: the arguments, awake, same. Conditions: those of the theorems.
-/
import Derived.Test.YtoeiliaaidmmkaaTimDue
import Derived.Test.YtoeiliaaidmmkaaSelfX
namespace Go.Proofs.Ytoeiliaaidmmkaa
open Go.RowKit
set_option maxRecDepth 100000

/-- An Act of the script. -/
structure Sct where
  k : Int
  A : Int
  B : Int
def Sct.arr (x : Sct) : Array Value := #[.int .u8 x.k, .int .i64 x.A, .int .i64 x.B]
def ActRow (w : World) (a : Option Addr) (n : Nat) (f : Nat → Sct) : Prop := 0 < n → ∃ b o, a = some ⟨b, o, none⟩ ∧ b < w.heap.size ∧ ∀ k, k < n → ArrAt w b (o + k * 3) (f k).arr
theorem ActRow.below {w w' : World} {a : Option Addr} {n : Nat} {f : Nat → Sct} (h : ActRow w a n f) (hb : Below w.heap.size w w') : ActRow w' a n f := fun hn => by
  obtain ⟨b, o, h1, h2, h3⟩ := h hn
  exact ⟨b, o, h1, Nat.lt_of_lt_of_le h2 hb.size, fun k hk => (h3 k hk).grown hb⟩
theorem cells_sct : Try.prog.cellsOf 32 = 3 := by kernel_rfl
theorem cells_sct8 : Try.prog.cellsOf 5 = 1 := by kernel_rfl
theorem cells_sct64 : Try.prog.cellsOf 3 = 1 := by kernel_rfl
theorem rd_sct {w : World} {cs : List Value} (h : Rd Try.prog w 32 cs) : ∃ x : Sct, cs = x.arr.toList ∧ W64 x.A := by
  have hl := (h.struct Try.underlying32).1
  obtain ⟨f, h1, w1⟩ := (h.field Try.underlying32 0 rfl (u := 5) (o := 0) (n := 1) (by kernel_rfl) (by kernel_rfl) cells_sct8).int Try.underlying5
  obtain ⟨t, h2, w2⟩ := (h.field Try.underlying32 1 rfl (u := 3) (o := 1) (n := 1) (by kernel_rfl) (by kernel_rfl) cells_sct64).int Try.underlying3
  obtain ⟨s, h3, w3⟩ := (h.field Try.underlying32 2 rfl (u := 3) (o := 2) (n := 1) (by kernel_rfl) (by kernel_rfl) cells_sct64).int Try.underlying3
  rw [cells_sct] at hl
  match cs, hl with
  | [x, y, z], _ =>
    simp only [List.drop_zero, List.drop_succ_cons, List.take_succ_cons, List.take_zero] at h1 h2 h3
    injection h1 with h1 _
    injection h2 with h2 _
    injection h3 with h3 _
    exact ⟨⟨f, t, s⟩, by rw [h1, h2, h3]; rfl, w2⟩
theorem acts_of {w : World} {a : Option Addr} {n c : Nat} (h : Rd Try.prog w 22 [.slice a n c]) : ∃ f : Nat → Sct, ActRow w a n f ∧ ∀ k, W64 (f k).A := by
  obtain ⟨a', n', c', e, hn, hc, hr, _⟩ := h.slice_at Try.underlying22 cells_sct (by decide)
  injection e with e _
  injection e with e1 e2 e3
  subst e1 e2 e3
  have z64 : W64 0 := by unfold W64; decide
  rcases hr with h0 | ⟨b, off, rfl, hb, hrow⟩
  · exact ⟨fun _ => ⟨0, 0, 0⟩, fun h => by omega, fun _ => z64⟩
  · have key : ∀ i, i < n → ∃ x : Sct, ArrAt w b (off + i * 3) x.arr ∧ W64 x.A := by
      intro i hi
      obtain ⟨cs, hl, hat, hrd⟩ := hrow i (by omega)
      obtain ⟨x, rfl, hx⟩ := rd_sct hrd
      refine ⟨x, ⟨hb, fun j v hj => ?_⟩, hx⟩
      have h3 : j < 3 := (Array.getElem?_eq_some_iff.1 hj).1
      rw [hat j h3, Array.getElem?_toList]
      exact hj
    refine ⟨fun i => if h : i < n then Classical.choose (key i h) else ⟨0, 0, 0⟩, fun _ => ⟨b, off, rfl, hb, fun i hi => ?_⟩, fun i => ?_⟩
    · simp only [dif_pos hi]
      exact (Classical.choose_spec (key i hi)).1
    · by_cases hi : i < n
      · simp only [dif_pos hi]
        exact (Classical.choose_spec (key i hi)).2
      · simp only [dif_neg hi]
        exact z64
/-- What is read of an Act. -/
theorem act_all {w : World} {b o : Nat} {x : Sct} (h : ArrAt w b o x.arr) : w.cell? ⟨b, o, none⟩ = some (.int .u8 x.k) ∧ w.cell? ⟨b, o + 1, none⟩ = some (.int .i64 x.A) ∧ w.cell? ⟨b, o + 2, none⟩ = some (.int .i64 x.B) :=
  ⟨h.cells 0 _ rfl, h.cells 1 _ rfl, h.cells 2 _ rfl⟩

theorem cells_tm : Try.prog.cellsOf 35 = 2 := by kernel_rfl
theorem rd_tm {w : World} {cs : List Value} (h : Rd Try.prog w 35 cs) : ∃ x : Tm, cs = [.int .i64 x.1, .int .i64 x.2] ∧ W64 x.2 := by
  have hl := (h.struct Try.underlying35).1
  obtain ⟨f, h1, w1⟩ := (h.field Try.underlying35 0 rfl (u := 3) (o := 0) (n := 1) (by kernel_rfl) (by kernel_rfl) cells_sct64).int Try.underlying3
  obtain ⟨t, h2, w2⟩ := (h.field Try.underlying35 1 rfl (u := 3) (o := 1) (n := 1) (by kernel_rfl) (by kernel_rfl) cells_sct64).int Try.underlying3
  rw [cells_tm] at hl
  match cs, hl with
  | [x, y], _ =>
    simp only [List.drop_zero, List.drop_succ_cons, List.take_succ_cons, List.take_zero] at h1 h2
    injection h1 with h1 _
    injection h2 with h2 _
    exact ⟨(f, t), by rw [h1, h2], w2⟩
theorem tms_of {w : World} {a : Option Addr} {n c : Nat} (h : Rd Try.prog w 25 [.slice a n c]) : ∃ xs : List Tm, xs.length = n ∧ TRow w a xs ∧ ∀ x ∈ xs, W64 x.2 := by
  obtain ⟨a', n', c', e, hn, hc, hr, _⟩ := h.slice_at Try.underlying25 cells_tm (by decide)
  injection e with e _
  injection e with e1 e2 e3
  subst e1 e2 e3
  rcases hr with h0 | ⟨b, off, rfl, hb, hrow⟩
  · obtain rfl : n = 0 := by omega
    exact ⟨[], rfl, .inl rfl, fun x hx => by cases hx⟩
  · obtain ⟨xs, h1, h2⟩ := list_choice (P := fun i (x : Tm) => (w.cell? ⟨b, off + i * 2, none⟩ = some (.int .i64 x.1) ∧ w.cell? ⟨b, off + i * 2 + 1, none⟩ = some (.int .i64 x.2)) ∧ W64 x.2) n (fun i hi => by
      obtain ⟨cs, hl, hat, hrd⟩ := hrow i (by omega)
      obtain ⟨x, rfl, hx⟩ := rd_tm hrd
      exact ⟨x, ⟨hat 0 (by decide), hat 1 (by decide)⟩, hx⟩)
    refine ⟨xs, h1, .inr ⟨b, off, rfl, hb, fun i hi => ?_⟩, fun x hx => ?_⟩
    · rw [tget_eq hi]
      exact (h2 i hi).1
    · obtain ⟨i, hi, rfl⟩ := List.mem_iff_getElem.1 hx
      exact (h2 i hi).2

theorem tm_self (d : Nat) (x : Tm) (W : World) : (Op.equalIn (d + 2) 35 (.agg #[.int .i64 x.1, .int .i64 x.2]) (.agg #[.int .i64 x.1, .int .i64 x.2])).run Try.prog W = .ok true W := by
  refine struct_self (d := d + 1) Try.underlying35 (by kernel_rfl) (fun f hf => ?_) W
  simp only [Program.fieldsOf, Try.underlying35, List.mem_cons, List.not_mem_nil, or_false] at hf
  rcases hf with rfl | rfl
  · exact piece_int Try.underlying3 (k := .i64) (n := x.1) rfl
  · exact piece_int Try.underlying3 (k := .i64) (n := x.2) rfl

/-- What stays among S. -/
theorem more_up {P : Nat} {w w' : World} (h : P ≤ w.heap.size) : ∀ k, More (fun k => P ≤ k) w w' k → P ≤ k := fun _ hk => hk.elim (fun x => x) (fun x => Nat.le_trans h x.1)
set_option maxHeartbeats 2000000 in
theorem tim_awake (w : World) : Calls Try.prog 7 #[] w fun e w' => e = .returned (.bool true) ∧ Below w.heap.size w w' := by
  have HB1 : Aside (Below w.heap.size w (w.alloc (.cells #[.slice none 0 0, .map none] 30))) := upd_box _
  have H1 := tim_set (TimSt.fresh w (fun k => w.heap.size ≤ k) (Nat.le_refl _)) 5 3 (by unfold W64; decide) (by decide)
  generalize hw1 : w.alloc (.cells #[.slice none 0 0, .map none] 30) = w1 at *
  obtain ⟨P, hP⟩ : ∃ P, P = w.heap.size := ⟨_, rfl⟩
  rw [← hP] at H1 HB1 ⊢
  have HS : Aside (Calls Try.prog 8 #[.pointer (some ⟨P, 0, none⟩), .int .i64 5, .int .i64 3] w1 fun e w' => e = .returned (.tuple #[]) ∧ TimSt w' P (fun k => P ≤ k) [(3, 5)] ∧ Upd (fun k => P ≤ k) w1 w') := by
    refine H1.mono fun e w' ⟨he, ys, h2, p2, u2⟩ => ⟨he, ?_, u2⟩
    have e1 : ys = [(3, 5)] := List.perm_singleton.1 p2
    rw [e1] at h2
    exact h2.mono (more_up (by rw [hP, ← hw1]; simp))
  clear H1
  have HW1 : Hid (w.alloc (.cells #[.slice none 0 0, .map none] 30) = w1 ∧ P = w.heap.size) := ⟨hw1, hP⟩
  go_enter Try.func7, Try.ntmps7
  go_wp2_with fail
  rw [← hP]
  clear hw1 hP
  refine Calls.mono HS.out ?_
  rintro e w2 ⟨rfl, h2, u2⟩
  have hsrt : Srt [((3, 5) : Tm)] := List.pairwise_singleton _ _
  have HL : Aside _ := tim_len h2
  have HD2 : Aside (Calls Try.prog 12 #[.pointer (some ⟨P, 0, none⟩), .int .i64 2] w2 fun e w' => ∃ a c, e = .returned (.slice a 0 c) ∧ TimSt w' P (fun k => P ≤ k) [(3, 5)] ∧ Upd (fun k => P ≤ k) w2 w') := by
    refine (tim_due h2 hsrt (List.Perm.refl _) 2).mono fun e w' ⟨k, a, c, hk, he, _, _, hd, _, ⟨ys, hy, py⟩, hu⟩ => ?_
    have e0 : k = 0 := by
      rcases Nat.eq_zero_or_pos k with e | e
      · exact e
      · exact absurd (hd 0 e) (by decide)
    subst e0
    have e1 : ys = [(3, 5)] := List.perm_singleton.1 py
    rw [e1] at hy
    exact ⟨a, c, he, hy, hu⟩
  have U2 : Aside (Upd (fun k => P ≤ k) w1 w2) := u2
  clear h2 u2 HS
  go_wp2_with fail
  refine Calls.mono HL.out ?_
  rintro e w3 ⟨rfl, rfl⟩
  go_wp2_with fail
  refine Calls.mono HD2.out ?_
  rintro e w3 ⟨a, c, rfl, h3, u3⟩
  have HD3 : Aside (Calls Try.prog 12 #[.pointer (some ⟨P, 0, none⟩), .int .i64 3] w3 fun e w' => ∃ a c, e = .returned (.slice a 1 c) ∧ Upd (fun k => P ≤ k) w3 w') := by
    refine (tim_due h3 hsrt (List.Perm.refl _) 3).mono fun e w' ⟨k, a, c, hk, he, _, _, _, hn, _, hu⟩ => ?_
    have e0 : k = 1 := by
      have h1 : k ≤ 1 := hk
      by_cases e : k = 0
      · subst e
        exact absurd (hn (by decide)) (by decide)
      · omega
    subst e0
    exact ⟨a, c, he, hu⟩
  have U3 : Aside (Upd (fun k => P ≤ k) w1 w3) := U2.out.trans u3 (fun _ _ x => x)
  clear h3 u3 HD2 HL U2
  go_wp2_with fail
  refine Calls.mono HD3.out ?_
  rintro e w4 ⟨a4, c4, rfl, u4⟩
  have HF : Aside (Below P w w4) := by
    have h1 := U3.out.trans u4 (fun _ _ x => x)
    have h2 : Upd (fun k => P ≤ k) w w4 := (Upd.below (by have := HB1.out; rw [HW1.out.2] at this; exact this)).trans h1 (fun _ _ x => x)
    exact h2.toBelow (by rw [HW1.out.2]; exact Nat.le_refl _) (fun k hk => by omega)
  clear u4 U3 HD3
  go_wp2
  go_ret
  exact ⟨rfl, HF.out⟩
end Go.Proofs.Ytoeiliaaidmmkaa
