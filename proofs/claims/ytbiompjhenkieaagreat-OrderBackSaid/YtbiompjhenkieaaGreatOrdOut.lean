/-
  An Out of a call's own, beside boxes of its callees. Conditions: those of each theorem.
-/
import Derived.Test.YtbiompjhenkieaaGreatTabPut
namespace Go.Proofs.YtbiompjhenkieaaGreat
open Go.RowKit
set_option maxRecDepth 100000

structure OB (w0 : World) (p : Nat) (bx : Nat → Prop) (ys : List UInt8) (W : World) : Prop where
  out : ∃ S, OutAt W p S ys false ∧ (∀ k, S k → w0.heap.size ≤ k) ∧ ∀ k, bx k → ¬ S k
  blw : Below w0.heap.size w0 W
  lt : ∀ k, bx k → k < W.heap.size
theorem OB.step {w0 W W' : World} {p : Nat} {bx S : Nat → Prop} {zs : List UInt8} {bad : Bool} (hs : ∀ k, S k → w0.heap.size ≤ k) (hx : ∀ k, bx k → ¬ S k) (hb : Below w0.heap.size w0 W) (hl : ∀ k, bx k → k < W.heap.size) (d : OutDone W p S zs bad W') (hbad : bad = false) :
    OB w0 p bx zs W' ∧ Upd (fun k => ¬ bx k) W W' := by
  subst hbad
  obtain ⟨S', h1, h2, h3⟩ := d
  refine ⟨⟨⟨S', h1, fun k hk => (h3 k hk).elim (hs k) (fun x => Nat.le_trans hb.size x), fun k hk hS => ?_⟩, hb.trans (upd_below h2 hb.size hs), fun k hk => Nat.lt_of_lt_of_le (hl k hk) h2.size⟩, h2.mono (fun k _ hS hk => hx k hk hS)⟩
  rcases h3 k hS with x | x
  · exact hx k hk x
  · have := hl k hk; omega
theorem OB.alloc {w0 W : World} {p : Nat} {bx : Nat → Prop} {ys : List UInt8} (h : OB w0 p bx ys W) (o : Obj) : OB w0 p (fun k => bx k ∨ k = W.heap.size) ys (W.alloc o) := by
  obtain ⟨⟨S, h1, h2, h3⟩, h4, h5⟩ := h
  refine ⟨⟨S, h1.below (upd_box _), h2, fun k hk => ?_⟩, h4.alloc h4.size _, fun k hk => ?_⟩
  · rcases hk with hk | rfl
    · exact h3 k hk
    · exact fun hS => Nat.lt_irrefl _ (h1.lt _ hS)
  · rcases hk with hk | rfl
    · exact Nat.lt_of_lt_of_le (h5 k hk) (by simp)
    · simp
theorem OB.fewer {w0 W : World} {p : Nat} {bx bx' : Nat → Prop} {ys : List UInt8} (h : OB w0 p bx ys W) (hx : ∀ k, bx' k → bx k) : OB w0 p bx' ys W := by
  obtain ⟨⟨S, h1, h2, h3⟩, h4, h5⟩ := h
  exact ⟨⟨S, h1, h2, fun k hk => h3 k (hx k hk)⟩, h4, fun k hk => h5 k (hx k hk)⟩
theorem OB.below {w0 W W' : World} {p : Nat} {bx : Nat → Prop} {ys : List UInt8} (h : OB w0 p bx ys W) (hb : Below W.heap.size W W') : OB w0 p bx ys W' := by
  obtain ⟨⟨S, h1, h2, h3⟩, h4, h5⟩ := h
  exact ⟨⟨S, h1.below hb, h2, h3⟩, h4.trans (hb.mono h4.size), fun k hk => Nat.lt_of_lt_of_le (h5 k hk) hb.size⟩
theorem keep_fewer {bx bx' : Nat → Prop} {W W' : World} (h : Upd (fun k => ¬ bx k) W W') (hx : ∀ k, bx' k → bx k) : Upd (fun k => ¬ bx' k) W W' := h.mono (fun k _ hn hk => hn (hx k hk))
theorem keep_below {bx : Nat → Prop} {W W' : World} (h : Below W.heap.size W W') : Upd (fun k => ¬ bx k) W W' := (Upd.below h (S := fun _ => False)).mono (fun _ _ x => x.elim)
theorem keep_trans {bx : Nat → Prop} {W W1 W2 : World} (h : Upd (fun k => ¬ bx k) W W1) (k : Upd (fun k => ¬ bx k) W1 W2) : Upd (fun k => ¬ bx k) W W2 := h.trans k (fun _ _ x => x)
theorem ArrAt.keep {bx : Nat → Prop} {W W' : World} {b o : Nat} {cs : Array Value} (h : ArrAt W b o cs) (k : Upd (fun k => ¬ bx k) W W') (hb : bx b) : ArrAt W' b o cs := h.upd k (fun x => x hb)
theorem fits_many {v : Int} (h0 : 0 ≤ v) (h1 : v ≤ 4000000000) : fits v 4 = true := by
  unfold fits
  rw [decide_eq_true h0, decide_eq_true (by show v < 4294967296; omega)]
  rfl
theorem fits_w2 {v : Int} (h0 : 0 ≤ v) (h1 : v < 65536) : fits v 2 = true := by
  unfold fits
  rw [decide_eq_true h0, decide_eq_true (by show v < 65536; omega)]
  rfl
theorem putB_fits {ys xs : List UInt8} (h : xs.length ≤ 60000) : putB ys false xs = (ys ++ (le xs.length 2 ++ xs), false) := by
  unfold putB
  rw [putN_fits (fits_two (by omega) (by omega))]
  simp [addB]
section
variable {w0 W : World} {p : Nat} {bx : Nat → Prop} {ys : List UInt8}
theorem OB.u16 (h : OB w0 p bx ys W) (v : Int) (h0 : 0 ≤ v) (h1 : v < 65536) (hb : ys.length ≤ 1000000) :
    Calls Tryz.prog 40 #[.pointer (some ⟨p, 0, none⟩), .int .i64 v] W fun e W' => e = .returned (.tuple #[]) ∧ OB w0 p bx (ys ++ le v 2) W' ∧ Upd (fun k => ¬ bx k) W W' := by
  obtain ⟨⟨S, h2, h3, h4⟩, h5, h6⟩ := h
  refine (out_u16 h2 v ⟨by omega, by omega⟩ hb).mono ?_
  rintro e W' ⟨rfl, d⟩
  rw [putN_fits (fits_w2 h0 h1)] at d
  exact ⟨rfl, OB.step h3 h4 h5 h6 d rfl⟩
theorem OB.u32 (h : OB w0 p bx ys W) (v : Int) (h0 : 0 ≤ v) (h1 : v ≤ 4000000000) (hb : ys.length ≤ 1000000) :
    Calls Tryz.prog 62 #[.pointer (some ⟨p, 0, none⟩), .int .i64 v] W fun e W' => e = .returned (.tuple #[]) ∧ OB w0 p bx (ys ++ le v 4) W' ∧ Upd (fun k => ¬ bx k) W W' := by
  obtain ⟨⟨S, h2, h3, h4⟩, h5, h6⟩ := h
  refine (out_u32 h2 v ⟨by omega, by omega⟩ hb).mono ?_
  rintro e W' ⟨rfl, d⟩
  rw [putN_fits (fits_many h0 h1)] at d
  exact ⟨rfl, OB.step h3 h4 h5 h6 d rfl⟩
theorem OB.u8 (h : OB w0 p bx ys W) (v : Int) (h0 : 0 ≤ v) (h1 : v < 256) (hb : ys.length ≤ 1000000) :
    Calls Tryz.prog 38 #[.pointer (some ⟨p, 0, none⟩), .int .i64 v] W fun e W' => e = .returned (.tuple #[]) ∧ OB w0 p bx (ys ++ [u8of v]) W' ∧ Upd (fun k => ¬ bx k) W W' := by
  obtain ⟨⟨S, h2, h3, h4⟩, h5, h6⟩ := h
  refine (out_u8 h2 v ⟨by omega, by omega⟩ hb).mono ?_
  rintro e W' ⟨rfl, d⟩
  rw [putN_fits (fits_one h0 h1), le_one h0 h1] at d
  exact ⟨rfl, OB.step h3 h4 h5 h6 d rfl⟩
theorem OB.i64 (h : OB w0 p bx ys W) (v : Int) (h0 : 0 ≤ v) (h1 : v ≤ 1073741824) (hb : ys.length ≤ 1000000) :
    Calls Tryz.prog 41 #[.pointer (some ⟨p, 0, none⟩), .int .i64 v] W fun e W' => e = .returned (.tuple #[]) ∧ OB w0 p bx (ys ++ le v 8) W' ∧ Upd (fun k => ¬ bx k) W W' := by
  obtain ⟨⟨S, h2, h3, h4⟩, h5, h6⟩ := h
  refine (out_i64 h2 v hb).mono ?_
  rintro e W' ⟨rfl, d⟩
  have e : IntKind.u64.wrap v = v := by rw [IntKind.wrap_u64]; omega
  rw [e] at d
  exact ⟨rfl, OB.step h3 h4 h5 h6 d rfl⟩
theorem OB.bytes (h : OB w0 p bx ys W) {W1 : World} (hw : Below W.heap.size W W1) (ad : Option Addr) (xs : List UInt8) (n c : Nat) (hn : xs.length = n) (hx : IsBytes W1 ad xs) (hnc : ad = none → c = 0) (hnew : ∀ x, ad = some x → W.heap.size ≤ x.block) (hb : ys.length ≤ 1000000) (hxl : n ≤ 60000) :
    Calls Tryz.prog 37 #[.pointer (some ⟨p, 0, none⟩), .slice ad n c] W1 fun e W' => e = .returned (.tuple #[]) ∧ OB w0 p bx (ys ++ (le xs.length 2 ++ xs)) W' ∧ Upd (fun k => ¬ bx k) W1 W' := by
  subst hn
  obtain ⟨⟨S, h2, h3, h4⟩, h5, h6⟩ := h
  refine (out_bytes (h2.below hw) ad xs c hx hnc (fun _ x hx hS => by have := hnew x hx; have := h2.lt _ hS; omega) hb (by omega)).mono ?_
  rintro e W' ⟨rfl, d⟩
  rw [putB_fits hxl] at d
  exact ⟨rfl, OB.step h3 h4 (h5.trans (hw.mono h5.size)) (fun k hk => Nat.lt_of_lt_of_le (h6 k hk) hw.size) d rfl⟩
theorem OB.endOut (h : OB w0 p bx ys W) (m : Nat) (hm : ys.length = m) (hb : m ≤ 900000) :
    Calls Tryz.prog 16 #[.pointer (some ⟨p, 0, none⟩)] W fun e W' => (∃ a c, e = .returned (.tuple #[.slice a m c, .int .i64 0]) ∧ IsBytes W' a ys ∧ m ≤ c ∧ c ≤ maxLen ∧ (a = none → c = 0)) ∧ Below w0.heap.size w0 W' := by
  obtain ⟨⟨S, h2, h3, h4⟩, h5, h6⟩ := h
  subst hm
  refine (end_in h2 (by omega)).mono ?_
  rintro e W' ⟨⟨a, c, rfl, hr⟩, hb2⟩
  obtain ⟨g1, -, g3, g4, g5⟩ := bytes_of_row hr
  exact ⟨⟨a, c, rfl, g1, g3, g4, g5⟩, h5.trans (hb2.mono h5.size)⟩
end
end Go.Proofs.YtbiompjhenkieaaGreat
