/-
  What is read of an In, as Par says it: U8, U16, U32, I64, Flag; a row of ints that is being filled. Conditions: those of each theorem.
-/
import Derived.Test.YtmaoimjfkncnpaaParX
import Derived.Test.YtmaoimjfkncnpaaRmLi
namespace Go.Proofs.Ytmaoimjfkncnpaa
open Go.RowKit
set_option maxRecDepth 100000

theorem in_u8p {w : World} {p : Nat} {S : Nat → Prop} {rest : List UInt8} {bad : Bool} (h : InAt w p S rest bad) :
    Calls Try.prog 35 #[.pointer (some ⟨p, 0, none⟩)] w fun e w' => ∃ (v : Int) (r : List UInt8) (b : Bool), e = .returned (.int .i64 v) ∧ InAt w' p S r b ∧ Upd (fun k => k = p) w w' ∧ (0 ≤ v ∧ v < 256) ∧ Par (fun v : Int => le v 1) (fun v => fits v 1 = true) rest bad v r b :=
  (in_u8 h).mono fun _ _ ⟨he, d⟩ => ⟨_, _, _, he, d.1, d.2, by
    have h1 := took_len rest bad 1
    have h2 := numLe_lt (took rest bad 1).1
    have h3 : 256 ^ (took rest bad 1).1.length ≤ 256 ^ 1 := Nat.pow_le_pow_right (by decide) h1
    omega, par_num rest bad 1⟩
/-- A row of ints that is being filled. -/
theorem row_made (w : World) (n : Nat) : ∃ cur : Array Value, (w.alloc (.cells (reps [Value.int .i64 0] [Value.int .i64 0] 0 n).toArray 3)).heap[w.heap.size]? = some (.cells cur 3 (0, 0)) ∧ cur.size = n := by
  refine ⟨_, heap_alloc_new w _, ?_⟩
  have := reps_length (x := [Value.int .i64 0]) (z := [Value.int .i64 0]) (sz := 1) (k := 0) (N := n) rfl rfl (Nat.zero_le _)
  simpa using this
theorem info_int : (Try.prog.info? 3).map (fun i => (i.zero, i.size, i.bytes)) = some (some (.int .i64 0), 1, 8) := by kernel_rfl

/-- What a round keeps. -/
structure Filling (w : World) (p : Nat) (S : Nat → Prop) (m : Int) (n : Nat) (rest : List UInt8) (bad : Bool) (g : Nat) (k : Nat) (xs : List Int) (r : List UInt8) (b : Bool) (W : World) : Prop where
  inn : InAt W p S r b
  upd : Upd (fun q => q = p) w W
  par : Par (listB m) (okList m k) rest bad xs r b
  len : xs.length = k
  bnd : ∀ x ∈ xs, -1 ≤ x ∧ x < 256
  row : ∃ cur : Array Value, W.heap[g]? = some (.cells cur 3 (0, 0)) ∧ cur.size = n ∧ ∀ i (h : i < xs.length), cur[i]? = some (.int .i64 xs[i])
theorem Filling.next {w W W1 : World} {p : Nat} {S : Nat → Prop} {m : Int} {n : Nat} {rest : List UInt8} {bad : Bool} {g k : Nat} {xs : List Int} {r r1 : List UInt8} {b b1 : Bool} {v : Int} (h : Filling w p S m n rest bad g k xs r b W) (hm : m = 0 ∨ m = 1) (hk : k < n) (hg : w.heap.size ≤ g) (hgp : g ≠ p) (hgS : ¬ S g)
    (i1 : InAt W1 p S r1 b1) (u1 : Upd (fun q => q = p) W W1) (hv : 0 ≤ v ∧ v < 256) (p1 : Par (fun v : Int => le v 1) (fun v => fits v 1 = true) r b v r1 b1) : Filling w p S m n rest bad g (k + 1) (xs ++ [v - m]) r1 b1 (W1.setCell ⟨g, k, none⟩ (.int .i64 (v - m))) := by
  obtain ⟨cur, c1, c2, c3⟩ := h.row
  have hgl : g < W.heap.size := (Array.getElem?_eq_some_iff.1 c1).1
  have hcur1 : W1.heap[g]? = some (.cells cur 3 (0, 0)) := (u1.block g hgl hgp).trans c1
  refine ⟨i1.upd (upd_set (p := g) k _) (fun q hq e => hgS (e ▸ hq)), (h.upd.trans u1 (fun _ _ x => x)).setCell (.inr hg) _, par_snoc h.par p1, by rw [List.length_append, h.len]; rfl, fun x hx => ?_, _, setCell_heap_at hcur1, by simpa using c2, fun i hi => ?_⟩
  · rcases List.mem_append.1 hx with hx | hx
    · exact h.bnd x hx
    · rw [List.mem_singleton.1 hx]; omega
  · rw [Array.getElem?_setIfInBounds]
    by_cases e : k = i
    · subst e
      rw [if_pos rfl, if_pos (by rw [c2]; exact hk), List.getElem_append_right (by rw [h.len]; exact Nat.le_refl _)]
      simp [h.len]
    · have hi' : i < xs.length := by rw [List.length_append, h.len] at hi; rw [h.len]; simp at hi; omega
      rw [if_neg e, List.getElem_append_left hi']
      exact c3 i hi'

theorem took_small (rest : List UInt8) (bad : Bool) (n : Nat) : 0 ≤ ((numLe (took rest bad n).1 : Nat) : Int) ∧ ((numLe (took rest bad n).1 : Nat) : Int) < 256 ^ n := by
  have h1 := took_len rest bad n
  have h2 := numLe_lt (took rest bad n).1
  have h3 : 256 ^ (took rest bad n).1.length ≤ 256 ^ n := Nat.pow_le_pow_right (by decide) (by simpa using h1)
  have e : (256 : Int) ^ n = ((256 ^ n : Nat) : Int) := by push_cast; rfl
  rw [e]
  omega
section
variable {w : World} {p : Nat} {S : Nat → Prop} {rest : List UInt8} {bad : Bool}
theorem in_u16p (h : InAt w p S rest bad) :
    Calls Try.prog 43 #[.pointer (some ⟨p, 0, none⟩)] w fun e w' => ∃ (v : Int) (r : List UInt8) (b : Bool), e = .returned (.int .i64 v) ∧ InAt w' p S r b ∧ Upd (fun k => k = p) w w' ∧ (0 ≤ v ∧ v < 65536) ∧ Par (fun v : Int => le v 2) (fun v => fits v 2 = true) rest bad v r b :=
  (in_u16 h).mono fun _ _ ⟨he, d⟩ => ⟨_, _, _, he, d.1, d.2, took_small rest bad 2, par_num rest bad 2⟩
theorem in_u32p (h : InAt w p S rest bad) :
    Calls Try.prog 45 #[.pointer (some ⟨p, 0, none⟩)] w fun e w' => ∃ (v : Int) (r : List UInt8) (b : Bool), e = .returned (.int .i64 v) ∧ InAt w' p S r b ∧ Upd (fun k => k = p) w w' ∧ (0 ≤ v ∧ v < 4294967296) ∧ Par (fun v : Int => le v 4) (fun v => fits v 4 = true) rest bad v r b :=
  (in_u32 h).mono fun _ _ ⟨he, d⟩ => ⟨_, _, _, he, d.1, d.2, took_small rest bad 4, par_num rest bad 4⟩
theorem in_flagp (h : InAt w p S rest bad) :
    Calls Try.prog 44 #[.pointer (some ⟨p, 0, none⟩)] w fun e w' => ∃ (v : Bool) (r : List UInt8) (b : Bool), e = .returned (.bool v) ∧ InAt w' p S r b ∧ Upd (fun k => k = p) w w' ∧ True ∧ Par (fun v : Bool => le (flagI v) 1) (fun _ => True) rest bad v r b :=
  (in_flag h).mono fun _ _ ⟨he, d⟩ => ⟨_, _, _, he, d.1, d.2, trivial, par_flag rest bad⟩
theorem in_i64p (h : InAt w p S rest bad) :
    Calls Try.prog 36 #[.pointer (some ⟨p, 0, none⟩)] w fun e w' => ∃ (v : Int) (r : List UInt8) (b : Bool), e = .returned (.int .i64 v) ∧ InAt w' p S r b ∧ Upd (fun k => k = p) w w' ∧ I64 v ∧ Par (fun v : Int => le (IntKind.u64.wrap v) 8) I64 rest bad v r b :=
  (in_i64 h).mono fun _ _ ⟨he, d⟩ => ⟨_, _, _, he, d.1, d.2, by unfold I64 wrap64; omega, par_i64 rest bad⟩
end
end Go.Proofs.Ytmaoimjfkncnpaa
