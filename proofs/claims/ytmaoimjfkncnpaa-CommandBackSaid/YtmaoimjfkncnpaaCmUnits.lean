/-
  Package command: readUnits. Conditions: those of each theorem.
-/
import Derived.Test.YtmaoimjfkncnpaaInX
namespace Go.Proofs.Ytmaoimjfkncnpaa
open Go.RowKit
set_option maxRecDepth 100000

def encUnits (xs : List Int) : List UInt8 := le (xs.length : Int) 1 ++ listB 0 xs
def okUnits (xs : List Int) : Prop := fits (xs.length : Int) 1 = true ∧ ∀ x ∈ xs, fits (x + 0) 1 = true
theorem par_units {n : Nat} {rest r1 r2 : List UInt8} {bad b1 b2 : Bool} {xs : List Int} (hn : xs.length = n) (p0 : Par (fun v : Int => le v 1) (fun v => fits v 1 = true) rest bad (n : Int) r1 b1) (p1 : Par (listB 0) (okList 0 n) r1 b1 xs r2 b2) : Par encUnits okUnits rest bad xs r2 b2 := by
  refine ⟨fun h => ?_, fun v t hb ho he => ?_⟩
  · obtain ⟨q1, q2, q3⟩ := p1.fwd h
    obtain ⟨s1, s2, s3⟩ := p0.fwd q1
    exact ⟨s1, ⟨by rw [hn]; exact s2, q2.2⟩, by unfold encUnits; rw [hn, s3, q3, List.append_assoc]⟩
  · unfold encUnits at he
    rw [List.append_assoc] at he
    obtain ⟨s1, s2, s3⟩ := p0.bwd (v.length : Int) _ hb ho.1 he
    exact p1.bwd v t s3 ⟨by omega, ho.2⟩ s2

def UnitsR (w : World) (p : Nat) (S : Nat → Prop) (rest : List UInt8) (bad : Bool) (e : Ending) (w' : World) : Prop :=
  ∃ (g n : Nat) (xs : List Int) (r : List UInt8) (b : Bool), e = .returned (.slice (some ⟨g, 0, none⟩) n n) ∧ NewLi w' w.heap.size (some ⟨g, 0, none⟩) n n xs ∧ InAt w' p S r b ∧ Upd (fun k => k = p) w w' ∧ n < 256 ∧ (∀ x ∈ xs, 0 ≤ x ∧ x < 256) ∧ Par encUnits okUnits rest bad xs r b

set_option maxHeartbeats 4000000 in
theorem cm_units {w : World} {p : Nat} {S : Nat → Prop} {rest : List UInt8} {bad : Bool} (h : InAt w p S rest bad) :
    Calls Try.prog 42 #[.pointer (some ⟨p, 0, none⟩)] w (UnitsR w p S rest bad) := by
  have hpl := h.lt p h.own
  have HS : Hid (∀ k, S k → k < w.heap.size) := h.lt
  have HC : Aside _ := in_u8p h
  have HPL := Lib.hid hpl
  clear h hpl
  go_enter Try.func42, Try.ntmps42
  go_wp2_with fail
  refine Calls.mono HC.out ?_
  rintro e w1 ⟨v, r1, b1, rfl, i1, u1, ⟨hv0, hv1⟩, q1⟩
  obtain ⟨n, rfl⟩ := Int.eq_ofNat_of_zero_le hv0
  have hn : n < 256 := by omega
  have hmk := fun W : World => make_rows (P := Try.prog) W 22 3 #[.int .i64 0] (.int .i64 0) 1 8 n Try.underlying22 info_int rfl (by decide) (by omega) (by omega)
  have hmb : -1 ≤ -(n : Int) ∨ True := .inr trivial
  have HU1 : Aside (Upd (fun k => k = p) w w1) := u1
  have HP0 := Lib.hid q1
  obtain ⟨cur, c1, c2⟩ := row_made w1 n
  have HST : Aside (Filling w1 p S 0 n r1 b1 w1.heap.size 0 [] r1 b1 (w1.alloc (.cells (reps [Value.int .i64 0] [Value.int .i64 0] 0 n).toArray 3))) :=
    ⟨i1.below (upd_box _), (Upd.refl _ w1).alloc _, par_nil 0 r1 b1, rfl, fun x hx => by simp at hx, cur, c1, c2, fun i hi => by simp at hi⟩
  clear HC i1 u1 q1 c1 c2 hv1 hmb
  go_upto_region 3 with (fail)
  obtain ⟨g, hg⟩ : ∃ g, g = w1.heap.size := ⟨_, rfl⟩
  rw [← hg] at HST ⊢
  have HGP : Hid (w1.heap.size ≤ g ∧ g ≠ p ∧ ¬ S g ∧ w.heap.size ≤ w1.heap.size) := ⟨by omega, by have := HPL.out; have := HU1.out.size; omega, (fun e => by have := HS.out g e; have := HU1.out.size; omega), HU1.out.size⟩
  clear hg hmk
  generalize w1.alloc (.cells (reps [Value.int .i64 0] [Value.int .i64 0] 0 n).toArray 3) = W at *
  go_loopw [4, 10] (fun _ i wr => ∃ (k : Nat) (xs : List Int) (r : List UInt8) (b : Bool), k ≤ n ∧ i = .int .i64 k ∧ Aside (Filling w1 p S 0 n r1 b1 g k xs r b wr) ∧ Hid (∀ x ∈ xs, 0 ≤ x)) (fun _ i _ => n - (intOf i).toNat)
  case atStart => exact ⟨0, [], r1, b1, Nat.zero_le _, rfl, HST.out, fun x hx => by simp at hx⟩
  case round =>
    clear HST
    obtain ⟨k, xs, r, b, hk, rfl, HF, HZ⟩ := hrel
    by_cases hlt : k < n
    · have hkn : (k : Int) < (n : Int) := by omega
      have hk0 : (0 : Int) ≤ (k : Int) := by omega
      have HC : Aside _ := in_u8p HF.out.inn
      go_wp2_with fail
      refine Calls.mono HC.out ?_
      rintro e w2 ⟨v, r2, b2, rfl, i1, u1, ⟨hv0, hv1⟩, p1⟩
      obtain ⟨y, hy, hyf, hgl⟩ : ∃ y, w2.cell? ⟨g, k, none⟩ = some y ∧ w2.frozen? ⟨g, k, none⟩ = false ∧ g < w2.heap.size := by
        obtain ⟨cur, d1, d2, -⟩ := HF.out.row
        have hgw : g < wr.heap.size := (Array.getElem?_eq_some_iff.1 d1).1
        have d3 := (u1.block g hgw HGP.out.2.1).trans d1
        refine ⟨cur[k]'(by omega), ?_, by simp [World.frozen?, d3], Nat.lt_of_lt_of_le hgw u1.size⟩
        rw [cell_of_row w2 g k cur _ _ d3]
        simp [d2, hlt]
      have HN : Aside (Filling w1 p S 0 n r1 b1 g (k + 1) (xs ++ [v - 0]) r2 b2 (w2.setCell ⟨g, k, none⟩ (.int .i64 (v - 0)))) := HF.out.next (.inl rfl) hlt HGP.out.1 HGP.out.2.1 HGP.out.2.2.1 i1 u1 ⟨hv0, hv1⟩ p1
      rw [Int.sub_zero] at HN
      have HNZ : Hid (∀ x ∈ xs ++ [v], 0 ≤ x) := fun x hx => by
        rcases List.mem_append.1 hx with hx | hx
        · exact HZ.out x hx
        · rw [List.mem_singleton.1 hx]; exact hv0
      clear HC HF HZ i1 u1 p1
      go_wp2
      go_roundw
      case rel => exact ⟨k + 1, xs ++ [v], r2, b2, by omega, by go_num, HN.out, HNZ.out⟩
      case measure => simp [intOf]; omega
    · obtain rfl : n = k := by omega
      have HP : Aside (Par encUnits okUnits rest bad xs r b) := par_units HF.out.len HP0.out HF.out.par
      go_wp2
      go_ret
      obtain ⟨cur, d1, d2, d3⟩ := HF.out.row
      exact ⟨g, n, xs, r, b, rfl, ⟨HF.out.len, Nat.le_refl _, by unfold maxLen; omega, (fun x => by cases x), fun _ => ⟨g, cur, rfl, Nat.le_trans HGP.out.2.2.2 HGP.out.1, d1, d3⟩⟩, HF.out.inn, HU1.out.trans HF.out.upd (fun _ _ x => x), hn, (fun x hx => ⟨HZ.out x hx, (HF.out.bnd x hx).2⟩), HP.out⟩
end Go.Proofs.Ytmaoimjfkncnpaa
