/-
  The laws of layer 14, what they share: a return as an argument. Conditions: those of the theorems.
-/
import Derived.Test.YtkjkamcjbhhefaaDoorRm
namespace Go.Proofs.YtkjkamcjbhhefaaDoor
open Go.RowKit
set_option maxRecDepth 100000

theorem val_struct {P : Program} {w : World} {t : TypeId} {fs : Array Field} {v : Value} {r : Reach} {base : Nat} (hv : Value.okWide P w r base t v) (ht : P.underlying t = some (.struct fs)) : v = .agg v.cells := by
  simp only [Value.okWide, ht] at hv
  obtain ⟨cs, rfl, _⟩ := hv
  rfl
theorem one64 : Tryd.prog.cellsOf 3 = 1 := by kernel_rfl
theorem one64' : Tryd.prog.cellsOf 2 = 1 := by kernel_rfl
theorem oneB : Tryd.prog.cellsOf 4 = 1 := by kernel_rfl
theorem oneS : Tryd.prog.cellsOf 30 = 1 := by kernel_rfl
theorem fourteen : Tryd.prog.cellsOf 34 = 14 := by kernel_rfl
/-- A list of ints as an argument. -/
theorem rd_ints {w : World} {cs : List Value} (h : Rd Tryd.prog w 30 cs) : ∃ a n c xs, cs = [.slice a n c] ∧ LiAt w a n c xs ∧ ∀ x ∈ xs, I64 x := by
  obtain ⟨a, n, c, rfl, h1, h2, h3, h4⟩ := h.slice_at Tryd.underlying30 one64 (by decide)
  rcases h3 with h0 | ⟨b, off, rfl, hb, hi⟩
  · obtain rfl : n = 0 := by omega
    exact ⟨a, 0, c, [], rfl, ⟨rfl, h1, h2, h4, .inl rfl⟩, fun x hx => by simp at hx⟩
  · have key : ∀ i, i < n → ∃ x : Int, w.cell? ⟨b, off + i, none⟩ = some (.int .i64 x) ∧ I64 x := by
      intro i hlt
      obtain ⟨cs', _, h1', h2'⟩ := hi i (by omega)
      obtain ⟨m, rfl, hm⟩ := h2'.int Tryd.underlying3
      have := h1' 0 Nat.one_pos
      simp only [Nat.mul_one, Nat.add_zero, List.getElem?_cons_zero] at this
      exact ⟨m, this, wf_i64 hm⟩
    obtain ⟨xs, hl, hx⟩ := list_choice n key
    refine ⟨_, n, c, xs, rfl, ⟨hl, h1, h2, h4, .inr ⟨b, off, rfl, hb, fun i hi => (hx i hi).1⟩⟩, fun x hx' => ?_⟩
    obtain ⟨i, hi, rfl⟩ := List.getElem_of_mem hx'
    exact (hx i hi).2
/-- Each number is one of 64 bits. -/
structure Fit64 (r : Ret) (us gs : List Int) : Prop where
  num : I64 r.num
  ord : I64 r.ord
  rea : I64 r.rea
  want : I64 r.want
  res : I64 r.res
  st : I64 r.st
  day : I64 r.day
  wor : I64 r.wor
  pai : I64 r.pai
  cre : I64 r.cre
  giv : I64 r.giv
  us : ∀ x ∈ us, I64 x
  gs : ∀ x ∈ gs, I64 x
theorem rd_ret {w : World} {cs : List Value} (h : Rd Tryd.prog w 34 cs) : ∃ (r : Ret) (us gs : List Int), cs = [.int .i64 r.num, .int .i64 r.ord, .int .i64 r.rea, .int .i64 r.want, .int .i64 r.res, .bool r.cred, .int .i64 r.st, .int .i64 r.day, .slice r.uA r.uN r.uC, .slice r.gA r.gN r.gC, .int .i64 r.wor, .int .i64 r.pai, .int .i64 r.cre, .int .i64 r.giv] ∧ RetAt w r us gs ∧ Fit64 r us gs := by
  have hl := (h.struct Tryd.underlying34).1
  obtain ⟨f0, h0, w0⟩ := (h.field Tryd.underlying34 0 rfl (u := 3) (o := 0) (n := 1) (by kernel_rfl) (by kernel_rfl) one64).int Tryd.underlying3
  obtain ⟨f1, h1, w1⟩ := (h.field Tryd.underlying34 1 rfl (u := 3) (o := 1) (n := 1) (by kernel_rfl) (by kernel_rfl) one64).int Tryd.underlying3
  obtain ⟨f2, h2, w2⟩ := (h.field Tryd.underlying34 2 rfl (u := 3) (o := 2) (n := 1) (by kernel_rfl) (by kernel_rfl) one64).int Tryd.underlying3
  obtain ⟨f3, h3, w3⟩ := (h.field Tryd.underlying34 3 rfl (u := 3) (o := 3) (n := 1) (by kernel_rfl) (by kernel_rfl) one64).int Tryd.underlying3
  obtain ⟨f4, h4, w4⟩ := (h.field Tryd.underlying34 4 rfl (u := 3) (o := 4) (n := 1) (by kernel_rfl) (by kernel_rfl) one64).int Tryd.underlying3
  obtain ⟨f5, h5⟩ := (h.field Tryd.underlying34 5 rfl (u := 4) (o := 5) (n := 1) (by kernel_rfl) (by kernel_rfl) oneB).bool Tryd.underlying4
  obtain ⟨f6, h6, w6⟩ := (h.field Tryd.underlying34 6 rfl (u := 3) (o := 6) (n := 1) (by kernel_rfl) (by kernel_rfl) one64).int Tryd.underlying3
  obtain ⟨f7, h7, w7⟩ := (h.field Tryd.underlying34 7 rfl (u := 3) (o := 7) (n := 1) (by kernel_rfl) (by kernel_rfl) one64).int Tryd.underlying3
  obtain ⟨a8, n8, c8, x8, h8, l8, w8⟩ := rd_ints (h.field Tryd.underlying34 8 rfl (u := 30) (o := 8) (n := 1) (by kernel_rfl) (by kernel_rfl) oneS)
  obtain ⟨a9, n9, c9, x9, h9, l9, w9⟩ := rd_ints (h.field Tryd.underlying34 9 rfl (u := 30) (o := 9) (n := 1) (by kernel_rfl) (by kernel_rfl) oneS)
  obtain ⟨f10, h10, w10⟩ := (h.field Tryd.underlying34 10 rfl (u := 2) (o := 10) (n := 1) (by kernel_rfl) (by kernel_rfl) one64').int Tryd.underlying2
  obtain ⟨f11, h11, w11⟩ := (h.field Tryd.underlying34 11 rfl (u := 2) (o := 11) (n := 1) (by kernel_rfl) (by kernel_rfl) one64').int Tryd.underlying2
  obtain ⟨f12, h12, w12⟩ := (h.field Tryd.underlying34 12 rfl (u := 2) (o := 12) (n := 1) (by kernel_rfl) (by kernel_rfl) one64').int Tryd.underlying2
  obtain ⟨f13, h13, w13⟩ := (h.field Tryd.underlying34 13 rfl (u := 2) (o := 13) (n := 1) (by kernel_rfl) (by kernel_rfl) one64').int Tryd.underlying2
  rw [fourteen] at hl
  match cs, hl with
  | [x0, x1, x2, x3, x4, x5, x6, x7, y8, y9, x10, x11, x12, x13], _ =>
    simp only [List.drop_zero, List.drop_succ_cons, List.take_succ_cons, List.take_zero] at h0 h1 h2 h3 h4 h5 h6 h7 h8 h9 h10 h11 h12 h13
    injection h0 with h0 _
    injection h1 with h1 _
    injection h2 with h2 _
    injection h3 with h3 _
    injection h4 with h4 _
    injection h5 with h5 _
    injection h6 with h6 _
    injection h7 with h7 _
    injection h8 with h8 _
    injection h9 with h9 _
    injection h10 with h10 _
    injection h11 with h11 _
    injection h12 with h12 _
    injection h13 with h13 _
    exact ⟨⟨f0, f1, f2, f3, f4, f5, f6, f7, a8, n8, c8, a9, n9, c9, f10, f11, f12, f13⟩, x8, x9, by rw [h0, h1, h2, h3, h4, h5, h6, h7, h8, h9, h10, h11, h12, h13], ⟨l8, l9⟩, ⟨wf_i64 w0, wf_i64 w1, wf_i64 w2, wf_i64 w3, wf_i64 w4, wf_i64 w6, wf_i64 w7, wf_i64 w10, wf_i64 w11, wf_i64 w12, wf_i64 w13, w8, w9⟩⟩
theorem val_ret {w : World} {v : Value} {r : Reach} {base : Nat} (hv : Value.okWide Tryd.prog w r base 34 v) (h : Rd Tryd.prog w 34 v.cells.toList) : ∃ (x : Ret) (us gs : List Int), v = .agg #[.int .i64 x.num, .int .i64 x.ord, .int .i64 x.rea, .int .i64 x.want, .int .i64 x.res, .bool x.cred, .int .i64 x.st, .int .i64 x.day, .slice x.uA x.uN x.uC, .slice x.gA x.gN x.gC, .int .i64 x.wor, .int .i64 x.pai, .int .i64 x.cre, .int .i64 x.giv] ∧ RetAt w x us gs ∧ Fit64 x us gs := by
  have e := val_struct hv Tryd.underlying34
  obtain ⟨x, us, gs, h1, h2, h3⟩ := rd_ret h
  refine ⟨x, us, gs, ?_, h2, h3⟩
  rw [e]
  congr 1
  exact Array.toList_inj.1 h1
end Go.Proofs.YtkjkamcjbhhefaaDoor
