/-
  The law TimerOnce of layer 12: what is told, what is left (plain), and timers beside a row of numbers of the law's own. Conditions: those of each theorem.
-/
import Derived.Test.YtoeiliaaidmmkaaTimSides
namespace Go.Proofs.Ytoeiliaaidmmkaa
open Go.RowKit
set_option maxRecDepth 100000

/-- The last day among the first k that is set for a number. -/
def lastTo (xs : List Tm) : Nat → Int → Option Int
  | 0, _ => none
  | k + 1, q => if (tget xs k).2 = q then some (tget xs k).1 else lastTo xs k q
theorem lastTo_succ (xs : List Tm) (k : Nat) (q : Int) : lastTo xs (k + 1) q = if (tget xs k).2 = q then some (tget xs k).1 else lastTo xs k q := rfl
theorem lastTo_some {xs : List Tm} {n i : Nat} (h : i < n) : ∃ d, lastTo xs n (tget xs i).2 = some d := by
  induction n with
  | zero => exact absurd h (Nat.not_lt_zero _)
  | succ n ih =>
    rw [lastTo_succ]
    by_cases e : (tget xs n).2 = (tget xs i).2
    · exact ⟨_, if_pos e⟩
    · rw [if_neg e]
      refine ih ?_
      by_cases e2 : i = n
      · exact absurd (by rw [e2]) e
      · omega
def HasAll (xs : List Tm) (k : Nat) (ys : List Tm) : Prop := ∀ d q, (d, q) ∈ ys ↔ lastTo xs k q = some d
theorem has_zero (xs : List Tm) : HasAll xs 0 [] := fun d q => ⟨fun h => (by cases h), fun h => (by cases h)⟩
theorem has_step {xs ys zs : List Tm} {k : Nat} (h : HasAll xs k ys) (hp : zs.Perm (without ys (tget xs k).2 ++ [((tget xs k).1, (tget xs k).2)])) : HasAll xs (k + 1) zs := by
  intro d q
  rw [hp.mem_iff, List.mem_append, without_mem, List.mem_singleton, h d q, lastTo_succ]
  by_cases e : (tget xs k).2 = q
  · rw [if_pos e]
    constructor
    · rintro (⟨_, h2⟩ | h2)
      · exact absurd e.symm h2
      · rw [(Prod.mk.inj h2).1]
    · intro h2
      injection h2 with h2
      exact .inr (by rw [h2, e])
  · rw [if_neg e]
    constructor
    · rintro (⟨h1, _⟩ | h2)
      · exact h1
      · exact absurd (Prod.mk.inj h2).2.symm e
    · intro h1
      exact .inl ⟨h1, fun x => e x.symm⟩

structure Tolds (Y ts ys : List Tm) (now : Int) (k : Nat) : Prop where
  perm : (ts ++ ys).Perm Y
  past : ∀ x ∈ ts, x.1 ≤ now
  left : 0 < k → ∀ x ∈ ys, now < x.1
  none : k = 0 → ts = []
theorem Tolds.step {Y ts ys ws zs : List Tm} {now now' : Int} {k kk : Nat} (h : Tolds Y ts ys now k) (hn : now ≤ now') (hw : Srt ws) (hp : ws.Perm ys) (h1 : ∀ i, i < kk → (tget ws i).1 ≤ now') (h2 : kk < ws.length → now' < (tget ws kk).1) (hz : zs.Perm (ws.drop kk)) :
    Tolds Y (ts ++ ws.take kk) zs now' (k + 1) := by
  refine ⟨?_, ?_, ?_, fun e => by cases e⟩
  · refine (List.Perm.append_left _ hz).trans ?_
    rw [List.append_assoc, List.take_append_drop]
    exact (List.Perm.append_left ts hp).trans h.perm
  · intro x hx
    rcases List.mem_append.1 hx with hx | hx
    · have := h.past x hx; omega
    · obtain ⟨i, hi, rfl⟩ := mem_tget.1 hx
      rw [List.length_take] at hi
      rw [tget_take i (by omega)]
      exact h1 i (by omega)
  · intro _ x hx
    have hx := hz.mem_iff.1 hx
    by_cases hlt : kk < ws.length
    · have h7 : Srt (ws.drop kk) := List.Pairwise.drop hw
      have h8 := h2 hlt
      rw [drop_at hlt] at h7 hx
      rcases List.mem_cons.1 hx with rfl | hm
      · exact h8
      · have := (List.pairwise_cons.1 h7).1 _ hm
        rw [tlt_iff] at this
        omega
    · rw [List.drop_of_length_le (by omega)] at hx
      cases hx
theorem nd_perm {xs ys : List Tm} (h : ND xs) (hp : xs.Perm ys) : ND ys := (hp.pairwise_iff (fun x => Ne.symm x)).1 h
theorem told_new {Y ts ws : List Tm} {i j : Nat} (hp : (ts ++ ws).Perm Y) (hnd : ND Y) (hj : j < ws.length) (hi : i < (ts ++ ws.take j).length) : (tget (ts ++ ws.take j) i).2 ≠ (tget ws j).2 := by
  have h := nd_perm hnd hp.symm
  have e : ts ++ ws = (ts ++ ws.take j) ++ ws.drop j := by rw [List.append_assoc, List.take_append_drop]
  unfold ND at h
  rw [e, List.pairwise_append] at h
  refine h.2.2 _ (mem_tget.2 ⟨i, hi, rfl⟩) _ ?_
  rw [drop_at hj]
  exact List.mem_cons_self
theorem told_end {Y ts ys : List Tm} {now d q : Int} {r : Nat} (h : Tolds Y ts ys now r) (hnd : ND Y) (hx : (d, q) ∈ Y) :
    ((∃ x ∈ ts, x.2 = q) ∧ (∀ x ∈ ys, x.2 ≠ q) ∧ 0 < r ∧ d ≤ now) ∨ ((∀ x ∈ ts, x.2 ≠ q) ∧ (d, q) ∈ ys ∧ ¬ (0 < r ∧ d ≤ now)) := by
  have h1 := nd_perm hnd h.perm.symm
  unfold ND at h1
  rw [List.pairwise_append] at h1
  rcases List.mem_append.1 (h.perm.mem_iff.2 hx) with hm | hm
  · refine .inl ⟨⟨_, hm, rfl⟩, fun x hy e => h1.2.2 _ hm x hy e.symm, ?_, h.past _ hm⟩
    by_cases e : r = 0
    · rw [h.none e] at hm; cases hm
    · omega
  · refine .inr ⟨fun x ht e => h1.2.2 x ht _ hm e, hm, fun ⟨a, b⟩ => ?_⟩
    have := h.left a _ hm
    dsimp only at this
    omega

structure OnceSt (B H : Nat) (w1 W : World) (a : Option Addr) (c m : Nat) (ts ys : List Tm) : Prop where
  st : TimSt W B (fun q => B ≤ q ∧ q < H) ys
  below : Below B w1 W
  hb : B ≤ w1.heap.size
  hh : H ≤ W.heap.size
  own : W.ownsRow H 3 1 (.slice a m c) m (nums ts)
  len : ts.length = m
section
variable {B H : Nat} {w1 W W' : World} {a : Option Addr} {c m : Nat} {ts ys : List Tm}
theorem OnceSt.bw (h : OnceSt B H w1 W a c m ts ys) : B ≤ W.heap.size := Nat.le_trans h.hb h.below.size
theorem OnceSt.after (h : OnceSt B H w1 W a c m ts ys) (hb : Below W.heap.size W W') : OnceSt B H w1 W' a c m ts ys :=
  ⟨h.st.below hb, h.below.trans (hb.mono h.bw), h.hb, Nat.le_trans h.hh hb.size, ownsRow_upd (S := fun _ => False) h.own (Upd.below hb) (fun _ _ x => x), h.len⟩
theorem OnceSt.row (h : OnceSt B H w1 W a c m ts ys) : IntRow W a m (fun i => (tget ts i).2) := (nums_row h.own h.len).1
theorem once_due (h : OnceSt B H w1 W a c m ts ys) {ws : List Tm} (hs : Srt ws) (hp : ws.Perm ys) (now : Int) : Calls Try.prog 12 #[.pointer (some ⟨B, 0, none⟩), .int .i64 now] W fun e W' => ∃ k a' c', k ≤ ws.length ∧ e = .returned (.slice a' k c') ∧ IntRow W' a' k (fun i => (tget ws i).2) ∧ (∀ b o, a' = some ⟨b, o, none⟩ → W.heap.size ≤ b) ∧ (∀ i, i < k → (tget ws i).1 ≤ now) ∧ (k < ws.length → now < (tget ws k).1) ∧ W.heap.size ≤ W'.heap.size ∧ ∃ zs, OnceSt B H w1 W' a c m ts zs ∧ zs.Perm (ws.drop k) :=
  (tim_due h.st hs hp now).mono fun _ _ ⟨k, a', c', hk, he, hr, hb, h1, h2, ⟨zs, hz, pz⟩, hu⟩ => ⟨k, a', c', hk, he, hr, hb, h1, h2, hu.size, zs,
    ⟨hz, h.below.trans (hu.toBelow h.bw (fun k hk e => by have := e.1; omega)), h.hb, Nat.le_trans h.hh hu.size, ownsRow_upd h.own hu (fun g hg e => by have := own_base h.own hg; omega), h.len⟩, pz⟩
theorem OnceSt.push (h : OnceSt B H w1 W a c m ts ys) (hbh : B ≤ H) {a4 : Option Addr} {c4 m4 : Nat} (x : Tm) (v : Int) (hv : v = x.2) (hu : Upd (fun g => (Value.slice a m c).ownBlock = some g) W W') (ho : W'.ownsRow H 3 1 (.slice a4 m4 c4) m4 (nums ts ++ [.int .i64 v])) (hm : m + 1 = m4) : OnceSt B H w1 W' a4 c4 m4 (ts ++ [x]) ys := by
  have hlo : ∀ g, (Value.slice a m c).ownBlock = some g → H ≤ g := fun g hg => own_base h.own hg
  refine ⟨h.st.upd hu (fun k hk e => by have := hlo k e; omega), h.below.trans (hu.toBelow h.bw (fun k hk e => by have := hlo k e; omega)), h.hb, Nat.le_trans h.hh hu.size, ?_, by rw [List.length_append, h.len]; exact hm⟩
  have e : nums (ts ++ [x]) = nums ts ++ [.int .i64 v] := by rw [hv]; simp [nums]
  rw [e]
  exact ho
theorem once_begin (h : Beside B B w1 W ys) (hB : B ≤ H) (hH : H = W.heap.size) : OnceSt B H w1 W none 0 0 [] ys := by
  subst hH
  exact ⟨h.st.lower, h.below, h.le, Nat.le_refl _, World.ownsRow_nil _ _ _ _, rfl⟩
theorem IntRow.apart {b : Option Addr} {n : Nat} {f : Nat → Int} {S : Nat → Prop} (h : IntRow W b n f) (hu : Upd S W W') (hn : ∀ q o, b = some ⟨q, o, none⟩ → ¬ S q) : IntRow W' b n f := fun h0 => by
  obtain ⟨q, o, e, hl, hc⟩ := h h0
  exact ⟨q, o, e, Nat.lt_of_lt_of_le hl hu.size, fun k hk => (hu.cell (p := ⟨q, o + k, none⟩) hl (hn q o e)).trans (hc k hk)⟩
end
theorem byte_at {w : World} {a : Option Addr} {bs : List UInt8} {k : Nat} (h : IsBytes w a bs) (hk : k < bs.length) : ∃ b o, a = some ⟨b, o, none⟩ ∧ ∃ v : Int, 0 ≤ v ∧ v < 256 ∧ w.cell? ⟨b, o + k, none⟩ = some (.int .u8 v) := by
  rcases h with rfl | ⟨b, o, e, _, hc⟩
  · exact absurd hk (Nat.not_lt_zero _)
  · have := bs[k].toNat_lt
    exact ⟨b, o, e, (bs[k].toNat : Int), by omega, by omega, hc k hk⟩
end Go.Proofs.Ytoeiliaaidmmkaa
