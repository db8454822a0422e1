/-
  The laws of layer 13, what they share: the arguments, awake, the document's Wait. Conditions: those of the theorems.
-/
import Derived.Test.YtcnheikckfhniaaOutRow
import Derived.Test.YtcnheikckfhniaaOutPut
import Derived.Test.YtcnheikckfhniaaSelfX
namespace Go.Proofs.Ytcnheikckfhniaa
open Go.RowKit
set_option maxRecDepth 100000

/-- An Act of the script. -/
structure OSct where
  k : Int
  A : Int
  B : Int
  V : Int
  D : Int
def OSct.arr (x : OSct) : Array Value := #[.int .u8 x.k, .int .i64 x.A, .int .i64 x.B, .int .i64 x.V, .int .i64 x.D]
def OActRow (w : World) (a : Option Addr) (n : Nat) (f : Nat → OSct) : Prop := 0 < n → ∃ b o, a = some ⟨b, o, none⟩ ∧ b < w.heap.size ∧ ∀ k, k < n → ArrAt w b (o + k * 5) (f k).arr
theorem OActRow.below {w w' : World} {a : Option Addr} {n : Nat} {f : Nat → OSct} (h : OActRow w a n f) (hb : Below w.heap.size w w') : OActRow w' a n f := fun hn => by
  obtain ⟨b, o, h1, h2, h3⟩ := h hn
  exact ⟨b, o, h1, Nat.lt_of_lt_of_le h2 hb.size, fun k hk => (h3 k hk).grown hb⟩
theorem one8 : Try.prog.cellsOf 5 = 1 := by kernel_rfl
theorem one64 : Try.prog.cellsOf 3 = 1 := by kernel_rfl
theorem one64' : Try.prog.cellsOf 2 = 1 := by kernel_rfl
theorem five_act : Try.prog.cellsOf 28 = 5 := by kernel_rfl
theorem rd_act {w : World} {cs : List Value} (h : Rd Try.prog w 28 cs) : ∃ x : OSct, cs = x.arr.toList ∧ W64 x.A := by
  have hl := (h.struct Try.underlying28).1
  obtain ⟨f0, h0, w0⟩ := (h.field Try.underlying28 0 rfl (u := 5) (o := 0) (n := 1) (by kernel_rfl) (by kernel_rfl) one8).int Try.underlying5
  obtain ⟨f1, h1, w1⟩ := (h.field Try.underlying28 1 rfl (u := 3) (o := 1) (n := 1) (by kernel_rfl) (by kernel_rfl) one64).int Try.underlying3
  obtain ⟨f2, h2, w2⟩ := (h.field Try.underlying28 2 rfl (u := 3) (o := 2) (n := 1) (by kernel_rfl) (by kernel_rfl) one64).int Try.underlying3
  obtain ⟨f3, h3, w3⟩ := (h.field Try.underlying28 3 rfl (u := 2) (o := 3) (n := 1) (by kernel_rfl) (by kernel_rfl) one64').int Try.underlying2
  obtain ⟨f4, h4, w4⟩ := (h.field Try.underlying28 4 rfl (u := 3) (o := 4) (n := 1) (by kernel_rfl) (by kernel_rfl) one64).int Try.underlying3
  rw [five_act] at hl
  match cs, hl with
  | [x0, x1, x2, x3, x4], _ =>
    simp only [List.drop_zero, List.drop_succ_cons, List.take_succ_cons, List.take_zero] at h0 h1 h2 h3 h4
    injection h0 with h0 _
    injection h1 with h1 _
    injection h2 with h2 _
    injection h3 with h3 _
    injection h4 with h4 _
    exact ⟨⟨f0, f1, f2, f3, f4⟩, by rw [h0, h1, h2, h3, h4]; rfl, w1⟩
theorem oacts_of {w : World} {a : Option Addr} {n c : Nat} (h : Rd Try.prog w 22 [.slice a n c]) : ∃ f : Nat → OSct, OActRow w a n f ∧ ∀ k, W64 (f k).A := by
  obtain ⟨a', n', c', e, hn, hc, hr, _⟩ := h.slice_at Try.underlying22 five_act (by decide)
  injection e with e _
  injection e with e1 e2 e3
  subst e1 e2 e3
  have z64 : W64 0 := by unfold W64; decide
  rcases hr with h0 | ⟨b, off, rfl, hb, hrow⟩
  · exact ⟨fun _ => ⟨0, 0, 0, 0, 0⟩, fun h => by omega, fun _ => z64⟩
  · have key : ∀ i, i < n → ∃ x : OSct, ArrAt w b (off + i * 5) x.arr ∧ W64 x.A := by
      intro i hi
      obtain ⟨cs, hl, hat, hrd⟩ := hrow i (by omega)
      obtain ⟨x, rfl, hx⟩ := rd_act hrd
      refine ⟨x, ⟨hb, fun j v hj => ?_⟩, hx⟩
      have h3 : j < 5 := (Array.getElem?_eq_some_iff.1 hj).1
      rw [hat j h3, Array.getElem?_toList]
      exact hj
    refine ⟨fun i => if h : i < n then Classical.choose (key i h) else ⟨0, 0, 0, 0, 0⟩, fun _ => ⟨b, off, rfl, hb, fun i hi => ?_⟩, fun i => ?_⟩
    · simp only [dif_pos hi]
      exact (Classical.choose_spec (key i hi)).1
    · by_cases hi : i < n
      · simp only [dif_pos hi]
        exact (Classical.choose_spec (key i hi)).2
      · simp only [dif_neg hi]
        exact z64
theorem six_msg : Try.prog.cellsOf 31 = 6 := by kernel_rfl
theorem rd_msg {w : World} {cs : List Value} (h : Rd Try.prog w 31 cs) : ∃ m : Msg, cs = [.int .i64 m.key, .int .i64 m.kind, .int .i64 m.rma, .int .i64 m.value, .int .i64 m.tries, .int .i64 m.due] ∧ W64 m.key := by
  have hl := (h.struct Try.underlying31).1
  obtain ⟨f0, h0, w0⟩ := (h.field Try.underlying31 0 rfl (u := 3) (o := 0) (n := 1) (by kernel_rfl) (by kernel_rfl) one64).int Try.underlying3
  obtain ⟨f1, h1, w1⟩ := (h.field Try.underlying31 1 rfl (u := 3) (o := 1) (n := 1) (by kernel_rfl) (by kernel_rfl) one64).int Try.underlying3
  obtain ⟨f2, h2, w2⟩ := (h.field Try.underlying31 2 rfl (u := 3) (o := 2) (n := 1) (by kernel_rfl) (by kernel_rfl) one64).int Try.underlying3
  obtain ⟨f3, h3, w3⟩ := (h.field Try.underlying31 3 rfl (u := 2) (o := 3) (n := 1) (by kernel_rfl) (by kernel_rfl) one64').int Try.underlying2
  obtain ⟨f4, h4, w4⟩ := (h.field Try.underlying31 4 rfl (u := 3) (o := 4) (n := 1) (by kernel_rfl) (by kernel_rfl) one64).int Try.underlying3
  obtain ⟨f5, h5, w5⟩ := (h.field Try.underlying31 5 rfl (u := 3) (o := 5) (n := 1) (by kernel_rfl) (by kernel_rfl) one64).int Try.underlying3
  rw [six_msg] at hl
  match cs, hl with
  | [x0, x1, x2, x3, x4, x5], _ =>
    simp only [List.drop_zero, List.drop_succ_cons, List.take_succ_cons, List.take_zero] at h0 h1 h2 h3 h4 h5
    injection h0 with h0 _
    injection h1 with h1 _
    injection h2 with h2 _
    injection h3 with h3 _
    injection h4 with h4 _
    injection h5 with h5 _
    exact ⟨⟨f0, f1, f2, f3, f4, f5⟩, by rw [h0, h1, h2, h3, h4, h5], w0⟩
theorem msgs_of {w : World} {a : Option Addr} {n c : Nat} (h : Rd Try.prog w 36 [.slice a n c]) : ∃ xs : List Msg, xs.length = n ∧ MRow w a xs := by
  obtain ⟨a', n', c', e, hn, hc, hr, _⟩ := h.slice_at Try.underlying36 six_msg (by decide)
  injection e with e _
  injection e with e1 e2 e3
  subst e1 e2 e3
  rcases hr with h0 | ⟨b, off, rfl, hb, hrow⟩
  · obtain rfl : n = 0 := by omega
    exact ⟨[], rfl, .inl rfl⟩
  · obtain ⟨xs, h1, h2⟩ := list_choice (P := fun i (x : Msg) => MsgIn w b (off + i * 6) x) n (fun i hi => by
      obtain ⟨cs, hl, hat, hrd⟩ := hrow i (by omega)
      obtain ⟨x, rfl, hx⟩ := rd_msg hrd
      exact ⟨x, ⟨hat 0 (by decide), hat 1 (by decide), hat 2 (by decide), hat 3 (by decide), hat 4 (by decide), hat 5 (by decide)⟩⟩)
    refine ⟨xs, h1, .inr ⟨b, off, rfl, hb, fun i hi => ?_⟩⟩
    rw [mget_eq hi]
    exact h2 i hi

theorem msg_self (d : Nat) (m : Msg) (W : World) : (Op.equalIn (d + 2) 31 (.agg #[.int .i64 m.key, .int .i64 m.kind, .int .i64 m.rma, .int .i64 m.value, .int .i64 m.tries, .int .i64 m.due]) (.agg #[.int .i64 m.key, .int .i64 m.kind, .int .i64 m.rma, .int .i64 m.value, .int .i64 m.tries, .int .i64 m.due])).run Try.prog W = .ok true W := by
  refine struct_self (d := d + 1) Try.underlying31 (by kernel_rfl) (fun f hf => ?_) W
  simp only [Program.fieldsOf, Try.underlying31, List.mem_cons, List.not_mem_nil, or_false] at hf
  rcases hf with rfl | rfl | rfl | rfl | rfl | rfl
  · exact piece_int Try.underlying3 (k := .i64) (n := m.key) rfl
  · exact piece_int Try.underlying3 (k := .i64) (n := m.kind) rfl
  · exact piece_int Try.underlying3 (k := .i64) (n := m.rma) rfl
  · exact piece_int Try.underlying2 (k := .i64) (n := m.value) rfl
  · exact piece_int Try.underlying3 (k := .i64) (n := m.tries) rfl
  · exact piece_int Try.underlying3 (k := .i64) (n := m.due) rfl
theorem ref_self (d : Nat) (m : Msg) (W : World) : (Op.equalIn (d + 2) 30 (.agg #[.int .i64 m.key, .int .i64 m.kind, .int .i64 m.rma, .int .i64 m.value, .int .i64 m.tries, .int .i64 m.due]) (.agg #[.int .i64 m.key, .int .i64 m.kind, .int .i64 m.rma, .int .i64 m.value, .int .i64 m.tries, .int .i64 m.due])).run Try.prog W = .ok true W := by
  refine struct_self (d := d + 1) Try.underlying30 (by kernel_rfl) (fun f hf => ?_) W
  simp only [Program.fieldsOf, Try.underlying30, List.mem_cons, List.not_mem_nil, or_false] at hf
  rcases hf with rfl | rfl | rfl | rfl | rfl | rfl
  · exact piece_int Try.underlying3 (k := .i64) (n := m.key) rfl
  · exact piece_int Try.underlying3 (k := .i64) (n := m.kind) rfl
  · exact piece_int Try.underlying3 (k := .i64) (n := m.rma) rfl
  · exact piece_int Try.underlying2 (k := .i64) (n := m.value) rfl
  · exact piece_int Try.underlying3 (k := .i64) (n := m.tries) rfl
  · exact piece_int Try.underlying3 (k := .i64) (n := m.due) rfl

def four : Array Value := #[.int .i64 0, .int .i64 1, .int .i64 2, .int .i64 4]
theorem four_at (k : Nat) (hk : k < 4) (v : Value) (hv : four[k]? = some v) (w : World) : (Instr.index 70 (.agg four) (.int .i64 (k : Int))).run Try.prog w = .ok v w :=
  run_index_one (P := Try.prog) w 70 3 4 _ four .i64 k v hk Try.underlying70 Try.underlying3 rfl (by kernel_rfl) hv
theorem ref_wait (t : Int) (w : World) : Calls Try.prog 20 #[.int .i64 t] w fun e w' => e = .returned (.int .i64 (waitOf t)) ∧ w = w' := by
  by_cases h1 : t < 1
  · have e : waitOf t = 0 := if_pos h1
    rw [e]
    clear e
    go_enter Try.func20, Try.ntmps20
    go_wp2
    go_ret
    exact ⟨rfl, rfl⟩
  · by_cases h2 : 3 < t
    · have e : waitOf t = 8 := by unfold waitOf; rw [if_neg h1, if_pos h2]
      rw [e]
      clear e
      go_enter Try.func20, Try.ntmps20
      go_wp2
      go_ret
      exact ⟨rfl, rfl⟩
    · have h3 : t = 1 ∨ t = 2 ∨ t = 3 := by omega
      clear h1 h2
      rcases h3 with rfl | rfl | rfl
      all_goals
        have i1 : ∀ w, (Instr.index 70 (.agg #[.int .i64 0, .int .i64 1, .int .i64 2, .int .i64 4]) (.int .i64 1)).run Try.prog w = .ok (.int .i64 1) w := fun w => four_at 1 (by decide) _ rfl w
        have i2 : ∀ w, (Instr.index 70 (.agg #[.int .i64 0, .int .i64 1, .int .i64 2, .int .i64 4]) (.int .i64 2)).run Try.prog w = .ok (.int .i64 2) w := fun w => four_at 2 (by decide) _ rfl w
        have i3 : ∀ w, (Instr.index 70 (.agg #[.int .i64 0, .int .i64 1, .int .i64 2, .int .i64 4]) (.int .i64 3)).run Try.prog w = .ok (.int .i64 4) w := fun w => four_at 3 (by decide) _ rfl w
        go_enter Try.func20, Try.ntmps20
        go_wp2
        go_ret
        exact ⟨rfl, rfl⟩

theorem msg_key (m : Msg) (w : World) : (Instr.field 31 (.agg #[.int .i64 m.key, .int .i64 m.kind, .int .i64 m.rma, .int .i64 m.value, .int .i64 m.tries, .int .i64 m.due]) 0).run Try.prog w = .ok (.int .i64 m.key) w := by
  exact run_field_one (P := Try.prog) w 31 _ 0 _ _ _ _ Try.underlying31 rfl Try.underlying3 rfl rfl
theorem out_awake (w : World) : Calls Try.prog 8 #[] w fun e w' => e = .returned (.bool true) ∧ Below w.heap.size w w' := by
  have HN : Aside _ := out_new w
  go_enter Try.func8, Try.ntmps8
  go_wp2_with fail
  refine Calls.mono HN.out ?_
  rintro e w1 ⟨rfl, h1, b1, s1⟩
  have HP : Aside _ := out_put h1 2 1 5 0 (by simp) (by omega) (by omega)
  have HB : Aside (Below w.heap.size w w1) := b1
  clear h1 b1 HN
  go_wp2_with fail
  refine Calls.mono HP.out ?_
  rintro e w2 ⟨rfl, h2, u2⟩
  have HF : Aside (Below w.heap.size w w2) := HB.out.trans (u2.toBelow HB.out.size (fun k hk e => by omega))
  have HW : Aside _ := out_wait 3 w2
  have E : fresh 0 2 1 5 0 = ⟨1, 2, 1, 5, 1, 1⟩ := rfl
  rw [E]
  have hk := fun w => msg_key ⟨1, 2, 1, 5, 1, 1⟩ w
  clear h2 u2 HP E
  dsimp only at *
  go_wp2_with fail
  refine Calls.mono HW.out ?_
  rintro e w3 ⟨rfl, rfl⟩
  have E : waitOf 3 = 4 := rfl
  rw [E]
  clear E HW
  go_wp2
  go_ret
  exact ⟨rfl, HF.out⟩
end Go.Proofs.Ytcnheikckfhniaa
