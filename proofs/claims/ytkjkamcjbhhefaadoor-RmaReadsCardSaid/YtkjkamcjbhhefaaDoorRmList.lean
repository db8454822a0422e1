/-
  Package rma: list. Conditions: those of each theorem.
-/
import Derived.Test.YtkjkamcjbhhefaaDoorRmPar
import Derived.Deep.RegionHeld3
namespace Go.Proofs.YtkjkamcjbhhefaaDoor
open Go.RowKit
set_option maxRecDepth 100000

theorem in_u8p {w : World} {p : Nat} {S : Nat → Prop} {rest : List UInt8} {bad : Bool} (h : InAt w p S rest bad) :
    Calls Tryd.prog 52 #[.pointer (some ⟨p, 0, none⟩)] w fun e w' => ∃ (v : Int) (r : List UInt8) (b : Bool), e = .returned (.int .i64 v) ∧ InAt w' p S r b ∧ Upd (fun k => k = p) w w' ∧ (0 ≤ v ∧ v < 256) ∧ Par (fun v : Int => le v 1) (fun v => fits v 1 = true) rest bad v r b :=
  (in_u8 h).mono fun _ _ ⟨he, d⟩ => ⟨_, _, _, he, d.1, d.2, by
    have h1 := took_len rest bad 1
    have h2 := numLe_lt (took rest bad 1).1
    have h3 : 256 ^ (took rest bad 1).1.length ≤ 256 ^ 1 := Nat.pow_le_pow_right (by decide) h1
    omega, par_num rest bad 1⟩
/-- A row of ints that is being filled. -/
theorem row_made (w : World) (n : Nat) : ∃ cur : Array Value, (w.alloc (.cells (reps [Value.int .i64 0] [Value.int .i64 0] 0 n).toArray 3)).heap[w.heap.size]? = some (.cells cur 3 (0, 0)) ∧ cur.size = n := by
  refine ⟨_, heap_alloc_new w _, ?_⟩
  have := reps_length (x := [Value.int .i64 0]) (z := [Value.int .i64 0]) (sz := 1) (k := 0) (N := n) rfl rfl (Nat.zero_le _)
  simpa using this
theorem info_int : (Tryd.prog.info? 3).map (fun i => (i.zero, i.size, i.bytes)) = some (some (.int .i64 0), 1, 8) := by kernel_rfl

def ListR (w : World) (p : Nat) (S : Nat → Prop) (m : Int) (n : Nat) (rest : List UInt8) (bad : Bool) (e : Ending) (w' : World) : Prop :=
  ∃ (g : Nat) (xs : List Int) (r : List UInt8) (b : Bool), e = .returned (.slice (some ⟨g, 0, none⟩) n n) ∧ NewLi w' w.heap.size (some ⟨g, 0, none⟩) n n xs ∧ InAt w' p S r b ∧ Upd (fun k => k = p) w w' ∧ (∀ x ∈ xs, -1 ≤ x ∧ x < 256) ∧ Par (listB m) (okList m n) rest bad xs r b
/-- What a round keeps. -/
structure Filling (w : World) (p : Nat) (S : Nat → Prop) (m : Int) (n : Nat) (rest : List UInt8) (bad : Bool) (g : Nat) (k : Nat) (xs : List Int) (r : List UInt8) (b : Bool) (W : World) : Prop where
  inn : InAt W p S r b
  upd : Upd (fun q => q = p) w W
  par : Par (listB m) (okList m k) rest bad xs r b
  len : xs.length = k
  bnd : ∀ x ∈ xs, -1 ≤ x ∧ x < 256
  row : ∃ cur : Array Value, W.heap[g]? = some (.cells cur 3 (0, 0)) ∧ cur.size = n ∧ ∀ i (h : i < xs.length), cur[i]? = some (.int .i64 xs[i])
theorem Filling.next {w W W1 : World} {p : Nat} {S : Nat → Prop} {m : Int} {n : Nat} {rest : List UInt8} {bad : Bool} {g k : Nat} {xs : List Int} {r r1 : List UInt8} {b b1 : Bool} {v : Int} (h : Filling w p S m n rest bad g k xs r b W) (hm : m = 0 ∨ m = 1) (hk : k < n) (hg : w.heap.size ≤ g) (hgp : g ≠ p) (hgS : ¬ S g)
    (i1 : InAt W1 p S r1 b1) (u1 : Upd (fun q => q = p) W W1) (hv : 0 ≤ v ∧ v < 256) (p1 : Par (fun v : Int => le v 1) (fun v => fits v 1 = true) r b v r1 b1) : Filling w p S m n rest bad g (k + 1) (xs ++ [v - m]) r1 b1 (W1.setCell ⟨g, k, none⟩ (.int .i64 (v - m))) := by
  obtain ⟨cur, c1, c2, c3⟩ := h.row
  have hgl : g < W.heap.size := (Array.getElem?_eq_some_iff.1 c1).1
  have hcur1 : W1.heap[g]? = some (.cells cur 3 (0, 0)) := (u1.block g hgl hgp).trans c1
  refine ⟨i1.upd (upd_set (p := g) k _) (fun q hq e => hgS (e ▸ hq)), (h.upd.trans u1 (fun _ _ x => x)).setCell (.inr hg) _, par_snoc h.par p1, by rw [List.length_append, h.len]; rfl, fun x hx => ?_, _, setCell_heap_at hcur1, by simpa using c2, fun i hi => ?_⟩
  · rcases List.mem_append.1 hx with hx | hx
    · exact h.bnd x hx
    · rw [List.mem_singleton.1 hx]; omega
  · rw [Array.getElem?_setIfInBounds]
    by_cases e : k = i
    · subst e
      rw [if_pos rfl, if_pos (by rw [c2]; exact hk), List.getElem_append_right (by rw [h.len]; exact Nat.le_refl _)]
      simp [h.len]
    · have hi' : i < xs.length := by rw [List.length_append, h.len] at hi; rw [h.len]; simp at hi; omega
      rw [if_neg e, List.getElem_append_left hi']
      exact c3 i hi'

set_option maxHeartbeats 4000000 in
theorem rma_list {w : World} {p : Nat} {S : Nat → Prop} {rest : List UInt8} {bad : Bool} (h : InAt w p S rest bad) (m : Int) (n : Nat) (hm : m = 0 ∨ m = 1) (hn : n ≤ 1000) :
    Calls Tryd.prog 57 #[.pointer (some ⟨p, 0, none⟩), .int .i64 n, .int .i64 m] w (ListR w p S m n rest bad) := by
  have hn0 : (0 : Int) ≤ (n : Int) := by omega
  have hpl := h.lt p h.own
  have hmk := fun W : World => make_rows (P := Tryd.prog) W 30 3 #[.int .i64 0] (.int .i64 0) 1 8 n Tryd.underlying30 info_int rfl (by decide) (by omega) (by omega)
  have hmb : -1 ≤ -m ∧ -m ≤ 0 := by omega
  have HM := Lib.hid hm
  have HS : Hid (∀ k, S k → k < w.heap.size) := h.lt
  obtain ⟨cur, c1, c2⟩ := row_made w n
  have HST : Aside (Filling w p S m n rest bad w.heap.size 0 [] rest bad (w.alloc (.cells (reps [Value.int .i64 0] [Value.int .i64 0] 0 n).toArray 3))) :=
    ⟨h.below (upd_box _), (Upd.refl _ w).alloc _, par_nil m rest bad, rfl, fun x hx => by simp at hx, cur, c1, c2, fun i hi => by simp at hi⟩
  clear h hm c1 c2
  go_enter Tryd.func57, Tryd.ntmps57
  go_upto_region 3 with (fail)
  have hm01 : 0 ≤ m ∧ m ≤ 1 := by rcases HM.out with e | e <;> omega
  obtain ⟨hm0, hm1⟩ := hm01
  obtain ⟨g, hg⟩ : ∃ g, g = w.heap.size := ⟨_, rfl⟩
  rw [← hg] at HST ⊢
  have HGP : Hid (w.heap.size ≤ g ∧ g ≠ p ∧ ¬ S g) := ⟨by omega, by omega, fun e => by have := HS.out g e; omega⟩
  clear hg hmk hmb hpl
  generalize w.alloc (.cells (reps [Value.int .i64 0] [Value.int .i64 0] 0 n).toArray 3) = W at *
  go_loopw [8, 13] (fun _ i wr => ∃ (k : Nat) (xs : List Int) (r : List UInt8) (b : Bool), k ≤ n ∧ i = .int .i64 k ∧ Aside (Filling w p S m n rest bad g k xs r b wr)) (fun _ i _ => n - (intOf i).toNat)
  case atStart => exact ⟨0, [], rest, bad, Nat.zero_le _, rfl, HST.out⟩
  case round =>
    clear HST
    obtain ⟨k, xs, r, b, hk, rfl, HF⟩ := hrel
    by_cases hlt : k < n
    · have hkn : (k : Int) < (n : Int) := by omega
      have hk0 : (0 : Int) ≤ (k : Int) := by omega
      have HC : Aside _ := in_u8p HF.out.inn
      go_wp2_with fail
      refine Calls.mono HC.out ?_
      rintro e w2 ⟨v, r1, b1, rfl, i1, u1, ⟨hv0, hv1⟩, p1⟩
      obtain ⟨y, hy, hyf, hgl⟩ : ∃ y, w2.cell? ⟨g, k, none⟩ = some y ∧ w2.frozen? ⟨g, k, none⟩ = false ∧ g < w2.heap.size := by
        obtain ⟨cur, d1, d2, -⟩ := HF.out.row
        have hgw : g < wr.heap.size := (Array.getElem?_eq_some_iff.1 d1).1
        have d3 := (u1.block g hgw HGP.out.2.1).trans d1
        refine ⟨cur[k]'(by omega), ?_, by simp [World.frozen?, d3], Nat.lt_of_lt_of_le hgw u1.size⟩
        rw [cell_of_row w2 g k cur _ _ d3]
        simp [d2, hlt]
      have HN : Aside (Filling w p S m n rest bad g (k + 1) (xs ++ [v - m]) r1 b1 (w2.setCell ⟨g, k, none⟩ (.int .i64 (v - m)))) := HF.out.next HM.out hlt HGP.out.1 HGP.out.2.1 HGP.out.2.2 i1 u1 ⟨hv0, hv1⟩ p1
      clear HC HF i1 u1 p1
      go_wp2
      go_roundw
      case rel => exact ⟨k + 1, xs ++ [v - m], r1, b1, by omega, by go_num, HN.out⟩
      case measure => simp [intOf]; omega
    · obtain rfl : n = k := by omega
      go_wp2
      go_ret
      obtain ⟨cur, d1, d2, d3⟩ := HF.out.row
      exact ⟨g, xs, r, b, rfl, ⟨HF.out.len, Nat.le_refl _, by unfold maxLen; omega, (fun x => by cases x), fun _ => ⟨g, cur, rfl, HGP.out.1, d1, d3⟩⟩, HF.out.inn, HF.out.upd, HF.out.bnd, HF.out.par⟩
end Go.Proofs.YtkjkamcjbhhefaaDoor
