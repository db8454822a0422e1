/-
  The code's Whole. Conditions: those of each theorem ('HalvesAt': memory holds the table).
-/
import Derived.Test.YtdbngmnpfcdhdaaDoorEach
namespace Go.Proofs.YtdbngmnpfcdhdaaDoor
open Go.RowKit Go.Shelf
set_option maxRecDepth 100000
attribute [local go_sem] Oper.semAt_some

/-- Between two rounds of Whole: the box holds the place behind what has come. -/
def WholeAt (L : List (List UInt8)) (bx D l : Nat) (r : Loop) (i : Nat) (S : Nat → Prop) (W : World) : Prop :=
  S = (fun k => k = bx ∨ k = D ∨ k = l) ∧ Boxed W bx 3 (.int .i64 (endOf 0 (L.take i) : Nat)) ∧ W.heap[D]? = some (.deferred (some [])) ∧ W.heap[l]? = some (.loop r)
theorem WholeAt.caller (L : List (List UInt8)) (bx D l : Nat) (r : Loop) : Caller (WholeAt L bx D l r) := by
  constructor
  · rintro i S W ⟨rfl, h1, h2, h3⟩ k (rfl | rfl | rfl)
    · exact h1.lt
    · exact heap_lt h2
    · exact heap_lt h3
  · rintro i S W W' ⟨rfl, h1, h2, h3⟩ hu
    exact ⟨rfl, heap_upd h1 hu (fun h => h (.inl rfl)), heap_upd h2 hu (fun h => h (.inr (.inl rfl))), heap_upd h3 hu (fun h => h (.inr (.inr rfl)))⟩
/-- How a round is left. -/
def RoundOut (J Jx : Nat → (Nat → Prop) → World → Prop) (i : Nat) (S : Nat → Prop) (W : World) (e : Ending) (W' : World) : Prop :=
  (e = .returned (.bool true) ∧ ∃ S', J (i + 1) S' W' ∧ Grows S W S' W') ∨ (e = .returned (.bool false) ∧ ∃ S', Jx i S' W' ∧ Grows S W S' W')
theorem boxed_set {S : Nat → Prop} {W : World} {B : Nat} {t : TypeId} {v : Value} (h : Boxed W B t v) (u : Value) (hs : S B) : Boxed (W.setCell ⟨B, 0, none⟩ u) B t u ∧ Upd S W (W.setCell ⟨B, 0, none⟩ u) :=
  ⟨h.set u, (Upd.refl _ _).setCell (p := ⟨B, 0, none⟩) (.inl hs) u⟩

set_option maxHeartbeats 4000000 in
theorem code_whole (n : Nat) (a : Option Addr) (xs : List UInt8) (m c : Nat) (w : World) (hH : HalvesAt w) (hn : xs.length = m) (hx : IsBytes w a xs) (hnc : a = none → c = 0) (hc : m ≤ c) (hcm : c ≤ maxLen) :
    CallsIn Fence.wide n Tryd.prog 17 #[.slice a m c] w fun e w' => e = .returned (.int .i64 (endOf 0 (frames xs) : Nat)) ∧ Below w.heap.size w w' := by
  refine callsIn_of_wp_marks Tryd.func17 rfl trivial ?_ rfl
  simp only [Tryd.ntmps17, List.size_toArray, List.length_cons, List.length_nil, Nat.reduceAdd, Nat.reduceSub, Array.replicate_succ, Array.replicate_zero, List.push_toArray, List.append_toArray, List.nil_append, List.cons_append]
  gi_wp2_with fail
  refine ⟨trivial, fun h => by simp [Fence.wide] at h, ?_⟩
  refine (callsIn_wide.2 (each_new a m c _)).mono ?_
  rintro e w1 ⟨rfl, rfl⟩
  have A0 : Below w.heap.size w (w.alloc (.cells #[.int .i64 0] 3)) := upd_box _
  have hb0 : Boxed (w.alloc (.cells #[.int .i64 0] 3)) w.heap.size 3 (.int .i64 0) := Boxed.new w _ _
  have hz0 : (w.alloc (.cells #[.int .i64 0] 3)).heap.size = w.heap.size + 1 := by simp
  gi_wp2_with fail
  generalize w.alloc (.cells #[.int .i64 0] 3) = w0 at *
  obtain ⟨w1, hw1⟩ : ∃ w1, w0.alloc (.cells #[.slice a m c] 22) = w1 := ⟨_, rfl⟩
  have hz1 : w1.heap.size = w.heap.size + 2 := by rw [← hw1]; simp; omega
  have B1 : Below w.heap.size w w1 := by rw [← hw1]; exact A0.trans ((upd_box _).mono A0.size)
  have hbx1 : Boxed w1 w.heap.size 3 (.int .i64 0) := by rw [← hw1]; exact hb0.alloc _
  have hsrc0 : SrcAt w1 (fun k => k = w.heap.size ∨ k = w.heap.size + 2 ∨ k = w.heap.size + 3) (w.heap.size + 1) a xs m c := by
    have hlt := hx.lt
    have hg := hH.lt
    refine ⟨?_, by omega, by omega, hx.below B1, fun h0 x hx' => ?_, hH.below B1, by omega, hn, hc, hcm, hnc⟩
    · rw [← hw1, ← hz0]; simp
    · have := hlt h0 x hx'; omega
  rw [hw1]
  clear hw1 hb0
  refine range_of_call (gf := 32) (lb := #[.pointer (some ⟨w.heap.size + 1, 0, none⟩)]) rfl (enters_of Tryd.func32 (by kernel_rfl) rfl) ?_
  intro r r1 r2 r3 r4 r5 r6
  rw [hz1]
  intro w2 b2 hz2 hD hl
  have B2 : Below w.heap.size w w2 := B1.trans (b2.mono (by omega))
  have b2' : Below w1.heap.size w1 w2 := by rw [hz1]; exact b2
  have hbx := heap_below hbx1 b2'
  refine (each_walk (n - 1) (w.heap.size + 3) (w.heap.size + 1) a xs m c _ (fun _ _ _ => False) (WholeAt.caller (frames xs) w.heap.size (w.heap.size + 2) (w.heap.size + 3) r) ?hY _ w2 (hsrc0.below b2') ⟨rfl, by simpa [endOf, Boxed] using hbx, hD, hl⟩).mono ?hQ
  case hY =>
    clear hbx hl hD b2' B2 hz2 b2 hsrc0 hbx1 B1 hz1 hz0 A0
    rintro k i S W ad m' c' hi ⟨rfl, h1, h2, h3⟩ hlen hbytes hmc hcm' hnil hown
    refine YieldAt.mono (R := RoundOut (WholeAt (frames xs) w.heap.size (w.heap.size + 2) (w.heap.size + 3) r) (fun _ _ _ => False) i (fun k => k = w.heap.size ∨ k = w.heap.size + 2 ∨ k = w.heap.size + 3) W) ?_ (fun _ _ h => h)
    refine yield_of_walk h3 r1 r2 (by rw [r4]; rfl) ?_
    intro K hK
    rw [r3, r4, r5]
    have HK := Lib.hid hK
    have R6 := Lib.hid r6
    clear hK r1 r2 r3 r4 r5 r6
    gi_wp2
    refine HK.out _ ?_
    intro W1 u1 hl1
    rw [R6.out]
    clear HK
    have g1 : Boxed W1 w.heap.size _ _ := heap_upd h1 u1 (by omega)
    have g2 := heap_upd h2 u1 (by omega)
    have c1 := g1.cell
    have f1 := g1.frozen
    have HB := Lib.hid hl1
    clear hl1 R6 h1 h2 h3
    gi_wp2
    obtain ⟨g1', u2⟩ := boxed_set (S := fun k => k = w.heap.size) g1 (.int .i64 (endOf 0 ((frames xs).take (i + 1)) : Nat)) rfl
    refine ⟨heap_upd HB.out u2 (by omega), fun W3 u3 hl3 => .inl ⟨rfl, _, ⟨rfl, heap_upd g1' u3 (by omega), heap_upd (heap_upd g2 u2 (by omega)) u3 (by omega), hl3⟩, ?_, fun _ h => .inl h⟩⟩
    exact (u1.sub (by omega)).on ((u2.sub (by omega)).on (u3.sub (by omega)))
  case hQ =>
    clear hbx hl hD b2' hsrc0 hbx1 r3 r4 r5 r6 hz0 A0
    rintro e w3 ⟨⟨v, rfl⟩, S', hg, hj | ⟨_, _, h⟩⟩
    · obtain ⟨rfl, h1, h2, h3⟩ := hj
      refine ⟨v, rfl, .inl ⟨h3, fun w4 u4 => ?_⟩⟩
      have g1 : Boxed w4 w.heap.size _ _ := heap_upd h1 u4 (by omega)
      have g2 := heap_upd h2 u4 (by omega)
      rw [List.take_length] at g1
      have c1 := g1.cell
      have hB4 : Below w.heap.size w w4 := B2.trans ((hg.upd.on (u4.sub (by omega))).toBelow (by omega) (by omega))
      clear h1 h2 h3 hg g1
      gi_wp2
      refine ⟨by simp, .inl ⟨_, _, rfl, run_takeDeferred g2, ?_⟩⟩
      exact ⟨_, results_tmp rfl _ _ _, rfl, hB4.trans (below_put _ (by omega) hB4.size)⟩
    · exact h.elim
end Go.Proofs.YtdbngmnpfcdhdaaDoor
