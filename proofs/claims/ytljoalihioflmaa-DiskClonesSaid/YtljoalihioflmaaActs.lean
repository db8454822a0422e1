/-
  A list of Acts: what memory holds of it; Few. Conditions: those of each theorem.
-/
import Derived.Test.YtljoalihioflmaaSame
import Derived.Test.YtljoalihioflmaaRefAll
import Derived.Test.YtljoalihioflmaaRefH
import Derived.Test.YtljoalihioflmaaDo
import Derived.Test.YtljoalihioflmaaAwake
import Derived.Test.YtljoalihioflmaaAct
namespace Go.Proofs.Ytljoalihioflmaa
open Go.RowKit
set_option maxRecDepth 100000

/-- An Act. -/
structure Av where
  k : Int
  A : Int
  B : Int
  ys : List UInt8
  k0 : Int
  k1 : Int
  k2 : Int
  k3 : Int
  k4 : Int
  k5 : Int
  k6 : Int
  k7 : Int
def Av.arr (x : Av) (a : Option Addr) (c : Nat) : Array Value := #[.int .u8 x.k, .int .i64 x.A, .int .i64 x.B, .slice a x.ys.length c, .int .i64 x.k0, .int .i64 x.k1, .int .i64 x.k2, .int .i64 x.k3, .int .i64 x.k4, .int .i64 x.k5, .int .i64 x.k6, .int .i64 x.k7]
structure ActAt (w : World) (b o : Nat) (x : Av) (a : Option Addr) (c : Nat) : Prop where
  cells : ∀ j v, (x.arr a c)[j]? = some v → w.cell? ⟨b, o + j, none⟩ = some v
  act : ActOf w (x.arr a c).toList x.k x.A x.B a x.ys c x.k0 x.k1 x.k2 x.k3 x.k4 x.k5 x.k6 x.k7
def Acts (w : World) (a : Option Addr) (xs : List Av) : Prop :=
  xs = [] ∨ ∃ b off, a = some ⟨b, off, none⟩ ∧ b < w.heap.size ∧ ∀ i (h : i < xs.length), ∃ ad c, ActAt w b (off + i * 12) xs[i] ad c

theorem cells_act12 : Try.prog.cellsOf 34 = 12 := by kernel_rfl
theorem info_act12 : (Try.prog.info? 34).map (·.size) = some 12 := by kernel_rfl
theorem info_keep8 : (Try.prog.info? 32).map (·.size) = some 8 := by kernel_rfl

theorem acts_of {w : World} {a : Option Addr} {n c : Nat} (h : Rd Try.prog w 22 [.slice a n c]) : ∃ xs : List Av, xs.length = n ∧ Acts w a xs ∧ n ≤ maxLen := by
  obtain ⟨a', n', c', e, hn, hc, hr, _⟩ := h.slice_at Try.underlying22 cells_act12 (by decide)
  injection e with e _
  injection e with e1 e2 e3
  subst e1 e2 e3
  have key : ∀ i, i < n → ∃ x : Av, ∃ b off, a = some ⟨b, off, none⟩ ∧ b < w.heap.size ∧ ∃ ad cc, ActAt w b (off + i * 12) x ad cc := by
    intro i hi
    rcases hr with h0 | ⟨b, off, rfl, hb, hrow⟩
    · omega
    · obtain ⟨cs, hl, hat, hrd⟩ := hrow i (by omega)
      obtain ⟨k, A, B, ad, xs, cap, k0, k1, k2, k3, k4, k5, k6, k7, hof⟩ := rd_act hrd
      refine ⟨⟨k, A, B, xs, k0, k1, k2, k3, k4, k5, k6, k7⟩, b, off, rfl, hb, ad, cap, ?_, ?_⟩
      · intro j v hj
        have hjl : j < 12 := by
          obtain ⟨h1, _⟩ := Array.getElem?_eq_some_iff.1 hj
          exact h1
        rw [hat j hjl, hof.cells]
        rw [← hj, ← Array.getElem?_toList]
        rfl
      · have := hof.cells
        subst this
        exact hof
  refine ⟨(List.range n).map fun i => if h : i < n then Classical.choose (key i h) else ⟨0, 0, 0, [], 0, 0, 0, 0, 0, 0, 0, 0⟩, by simp, ?_, by omega⟩
  by_cases h0 : n = 0
  · exact .inl (by simp [h0])
  · rcases hr with h1 | ⟨b, off, rfl, hb, _⟩
    · omega
    · refine .inr ⟨b, off, rfl, hb, fun i hi => ?_⟩
      simp only [List.length_map, List.length_range] at hi
      simp only [List.getElem_map, List.getElem_range, dif_pos hi]
      obtain ⟨b', off', e, _, h⟩ := Classical.choose_spec (key i hi)
      injection e with e
      injection e with e1 e2
      subst e1 e2
      exact h

theorem Acts.cell {w w' : World} {a : Option Addr} {b o c : Nat} {x : Av} (h : ActAt w b o x a c) (hb : b < w.heap.size) (hw : Below w.heap.size w w') : ∀ j v, (x.arr a c)[j]? = some v → w'.cell? ⟨b, o + j, none⟩ = some v :=
  fun j v hj => (hw.cell (p := ⟨b, o + j, none⟩) hb).trans (h.cells j v hj)

def SomeB (w : World) (e : Ending) (w' : World) : Prop := ∃ v : Bool, e = .returned (.bool v) ∧ w = w'

set_option maxHeartbeats 1600000 in
theorem few_some (a : Option Addr) (xs : List Av) (n c : Nat) (most : Int) (w w' : World) (hn : xs.length = n) (hx : Acts w a xs) (hm : n ≤ maxLen) (hw : Below w.heap.size w w') :
    Calls Try.prog 12 #[.slice a n c, .int .i64 most] w' (SomeB w') := by
  unfold maxLen at hm
  have HN := Lib.hid hn
  clear hn
  go_enter Try.func12, Try.ntmps12
  go_wp2
  go_loop [5, 6, 9] (fun s _ i => ∃ k : Nat, k ≤ n ∧ i = .int .i64 k ∧ ∃ z : Int, s = .int .i64 z) (fun _ _ i => n - (intOf i).toNat)
  case atStart => exact ⟨0, Nat.zero_le _, rfl, 0, rfl⟩
  case round =>
    obtain ⟨k, hk, rfl, z, rfl⟩ := hrel
    by_cases hlt : k < n
    · rcases hx with rfl | ⟨b, off, rfl, hb, hi⟩
      · have := HN.out; simp at this; omega
      have hlk : k < xs.length := by rw [HN.out]; exact hlt
      obtain ⟨ad, cc, hit⟩ := hi k hlk
      have x3 : w'.cell? ⟨b, off + k * 12 + 3, none⟩ = some (.slice ad xs[k].ys.length cc) := Acts.cell hit hb hw 3 _ rfl
      have hfit := hit.act.fit
      have hlm : xs[k].ys.length ≤ 2 ^ 63 - 1 := by have := hfit.2; unfold maxLen at this; omega
      clear hi hit
      have hk0 : (0 : Int) ≤ (k : Int) := by omega
      have hkn : (k : Int) < (n : Int) := by omega
      go_wp2
      all_goals
        first
          | (go_ret; exact ⟨_, rfl, rfl⟩)
          | (go_round
             case rel => exact ⟨k + 1, by omega, by go_num, _, rfl⟩
             case measure => simp [intOf]; omega)
    · go_wp2
      go_ret
      exact ⟨_, rfl, rfl⟩
end Go.Proofs.Ytljoalihioflmaa
