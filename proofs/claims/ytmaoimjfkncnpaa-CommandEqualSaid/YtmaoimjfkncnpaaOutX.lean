/-
  A run of puts on an Out: what it holds in the end, if all fits. Conditions: those of each theorem.
-/
import Derived.Test.YtmaoimjfkncnpaaCodec
namespace Go.Proofs.Ytmaoimjfkncnpaa
open Go.RowKit
set_option maxRecDepth 100000

theorem putN_fits {ys : List UInt8} {v : Int} {n : Nat} (h : fits v n = true) : putN ys false v n = (ys ++ le v n, false) := by
  unfold putN
  rw [if_pos h]
  rfl
/-- From world w on n bytes at most were put; if Q, they are bs, and nothing is bad. -/
def OutRun (w : World) (p : Nat) (S : Nat → Prop) (ys : List UInt8) (Q : Prop) (bs : List UInt8) (n : Nat) (W : World) : Prop :=
  ∃ S' zs bad, OutAt W p S' zs bad ∧ Upd S w W ∧ (∀ k, S' k → S k ∨ w.heap.size ≤ k) ∧ zs.length ≤ ys.length + n ∧ (Q → bad = false ∧ zs = ys ++ bs)
theorem OutRun.start {w : World} {p : Nat} {S : Nat → Prop} {ys : List UInt8} {Q : Prop} (h : OutAt w p S ys false) : OutRun w p S ys Q [] 0 w :=
  ⟨S, ys, false, h, Upd.refl _ _, fun _ hk => .inl hk, Nat.le_refl _, fun _ => ⟨rfl, by rw [List.append_nil]⟩⟩
theorem OutRun.upd {w W : World} {p n : Nat} {S : Nat → Prop} {ys bs : List UInt8} {Q : Prop} (h : OutRun w p S ys Q bs n W) : Upd S w W := by
  obtain ⟨S', zs, bad, _, h, _⟩ := h
  exact h
/-- One put more. -/
theorem OutRun.step {w W W' : World} {p n : Nat} {S : Nat → Prop} {ys bs cs : List UInt8} {Q : Prop} {m : Nat} {S' : Nat → Prop} {zs zs' : List UInt8} {bad bad' : Bool} (h2 : Upd S w W) (h3 : ∀ k, S' k → S k ∨ w.heap.size ≤ k) (h4 : zs.length ≤ ys.length + n) (h5 : Q → bad = false ∧ zs = ys ++ bs)
    (d : OutDone W p S' zs' bad' W') (hl : zs'.length ≤ zs.length + m) (hq : Q → bad = false → bad' = false ∧ zs' = zs ++ cs) : OutRun w p S ys Q (bs ++ cs) (n + m) W' := by
  obtain ⟨S2, d1, d2, d3⟩ := d
  refine ⟨S2, zs', bad', d1, h2.trans d2 (fun k hk hs => (h3 k hs).elim (fun x => x) (fun x => by omega)), fun k hk => ?_, by omega, fun q => ?_⟩
  · rcases d3 k hk with x | x
    · exact h3 k x
    · exact .inr (Nat.le_trans h2.size x)
  · obtain ⟨q1, q2⟩ := h5 q
    obtain ⟨q3, q4⟩ := hq q q1
    exact ⟨q3, by rw [q4, q2, List.append_assoc]⟩
theorem OutRun.conv {w W : World} {p n : Nat} {S : Nat → Prop} {ys bs bs' : List UInt8} {Q : Prop} (h : OutRun w p S ys Q bs n W) (hq : Q → bs = bs') : OutRun w p S ys Q bs' n W := by
  obtain ⟨S', zs, bad, h1, h2, h3, h4, h5⟩ := h
  exact ⟨S', zs, bad, h1, h2, h3, h4, fun q => by rw [← hq q]; exact h5 q⟩
theorem OutRun.more {w W : World} {p n m : Nat} {S : Nat → Prop} {ys bs : List UInt8} {Q : Prop} (h : OutRun w p S ys Q bs n W) (hm : n ≤ m) : OutRun w p S ys Q bs m W := by
  obtain ⟨S', zs, bad, h1, h2, h3, h4, h5⟩ := h
  exact ⟨S', zs, bad, h1, h2, h3, by omega, h5⟩
section
variable {w W : World} {p n : Nat} {S : Nat → Prop} {ys bs : List UInt8} {Q : Prop}
theorem OutRun.u8 (h : OutRun w p S ys Q bs n W) (v : Int) (hv : I64 v) (hb : ys.length + n ≤ 1000000) (hq : Q → fits v 1 = true) :
    Calls Try.prog 33 #[.pointer (some ⟨p, 0, none⟩), .int .i64 v] W fun e w' => e = .returned (.tuple #[]) ∧ OutRun w p S ys Q (bs ++ le v 1) (n + 1) w' := by
  obtain ⟨S', zs, bad, h1, h2, h3, h4, h5⟩ := h
  refine (out_u8 h1 v hv (by omega)).mono ?_
  rintro e w' ⟨rfl, d⟩
  exact ⟨rfl, OutRun.step h2 h3 h4 h5 d (putN_len _ _ _ _) (fun q hb => by subst hb; rw [putN_fits (hq q)]; exact ⟨rfl, rfl⟩)⟩
theorem OutRun.u16 (h : OutRun w p S ys Q bs n W) (v : Int) (hv : I64 v) (hb : ys.length + n ≤ 1000000) (hq : Q → fits v 2 = true) :
    Calls Try.prog 38 #[.pointer (some ⟨p, 0, none⟩), .int .i64 v] W fun e w' => e = .returned (.tuple #[]) ∧ OutRun w p S ys Q (bs ++ le v 2) (n + 2) w' := by
  obtain ⟨S', zs, bad, h1, h2, h3, h4, h5⟩ := h
  refine (out_u16 h1 v hv (by omega)).mono ?_
  rintro e w' ⟨rfl, d⟩
  exact ⟨rfl, OutRun.step h2 h3 h4 h5 d (putN_len _ _ _ _) (fun q hb => by subst hb; rw [putN_fits (hq q)]; exact ⟨rfl, rfl⟩)⟩
theorem OutRun.u32 (h : OutRun w p S ys Q bs n W) (v : Int) (hv : I64 v) (hb : ys.length + n ≤ 1000000) (hq : Q → fits v 4 = true) :
    Calls Try.prog 39 #[.pointer (some ⟨p, 0, none⟩), .int .i64 v] W fun e w' => e = .returned (.tuple #[]) ∧ OutRun w p S ys Q (bs ++ le v 4) (n + 4) w' := by
  obtain ⟨S', zs, bad, h1, h2, h3, h4, h5⟩ := h
  refine (out_u32 h1 v hv (by omega)).mono ?_
  rintro e w' ⟨rfl, d⟩
  exact ⟨rfl, OutRun.step h2 h3 h4 h5 d (putN_len _ _ _ _) (fun q hb => by subst hb; rw [putN_fits (hq q)]; exact ⟨rfl, rfl⟩)⟩
theorem flag_fits (b : Bool) : fits (flagI b) 1 = true := by cases b <;> rfl
theorem OutRun.flag (h : OutRun w p S ys Q bs n W) (v : Bool) (hb : ys.length + n ≤ 1000000) :
    Calls Try.prog 40 #[.pointer (some ⟨p, 0, none⟩), .bool v] W fun e w' => e = .returned (.tuple #[]) ∧ OutRun w p S ys Q (bs ++ le (flagI v) 1) (n + 1) w' := by
  obtain ⟨S', zs, bad, h1, h2, h3, h4, h5⟩ := h
  refine (out_flag h1 v (by omega)).mono ?_
  rintro e w' ⟨rfl, d⟩
  exact ⟨rfl, OutRun.step h2 h3 h4 h5 d (putN_len _ _ _ _) (fun q hb => by subst hb; rw [putN_fits (flag_fits v)]; exact ⟨rfl, rfl⟩)⟩
theorem OutRun.i64 (h : OutRun w p S ys Q bs n W) (v : Int) (hb : ys.length + n ≤ 1000000) :
    Calls Try.prog 34 #[.pointer (some ⟨p, 0, none⟩), .int .i64 v] W fun e w' => e = .returned (.tuple #[]) ∧ OutRun w p S ys Q (bs ++ le (IntKind.u64.wrap v) 8) (n + 8) w' := by
  obtain ⟨S', zs, bad, h1, h2, h3, h4, h5⟩ := h
  refine (out_i64 h1 v (by omega)).mono ?_
  rintro e w' ⟨rfl, d⟩
  refine ⟨rfl, OutRun.step h2 h3 h4 h5 d (by have := addB_len zs bad (le (IntKind.u64.wrap v) 8); rwa [le_length] at this) (fun q hb => by subst hb; exact ⟨rfl, rfl⟩)⟩
end
/-- A list's bytes, each number as so much more. -/
def listB (m : Int) : List Int → List UInt8
  | [] => []
  | x :: xs => le (x + m) 1 ++ listB m xs
theorem listB_append (m : Int) (xs ys : List Int) : listB m (xs ++ ys) = listB m xs ++ listB m ys := by
  induction xs with
  | nil => rfl
  | cons x xs ih => simp only [List.cons_append, listB, ih, List.append_assoc]
theorem listB_take (m : Int) (xs : List Int) (k : Nat) (h : k < xs.length) : listB m (xs.take (k + 1)) = listB m (xs.take k) ++ le (xs[k] + m) 1 := by
  rw [List.take_succ_eq_append_getElem h, listB_append]; simp [listB]
theorem listB_length (m : Int) (xs : List Int) : (listB m xs).length = xs.length := by
  induction xs with
  | nil => rfl
  | cons x xs ih => simp only [listB, List.length_append, le_length, ih, List.length_cons]; omega
end Go.Proofs.Ytmaoimjfkncnpaa
