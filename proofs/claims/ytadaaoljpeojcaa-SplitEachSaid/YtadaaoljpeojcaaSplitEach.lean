/-
  SplitEach: shares among so many are those by weights of 1. No conditions: every input.
-/
import Derived.Test.YtadaaoljpeojcaaSplitLaw
import Derived.Test.YtadaaoljpeojcaaOwn
import Derived.Test.YtadaaoljpeojcaaPush
namespace Go.Proofs.Ytadaaoljpeojcaa
open Go.RowKit Go.WideShapes
set_option maxRecDepth 100000

theorem IsInts.owned {w : World} {base : Nat} {t : TypeId} {v : Value} {n : Nat} {xs : List Int} {a : Option Addr} {c : Nat} (h : w.ownsRow base t 1 v n (xs.map (.int .i64))) (hv : v = .slice a n c) : IsInts w a xs := by
  obtain ⟨h1, ⟨h2, h3⟩ | ⟨g, cap, cur, h2, h3, h4, h5, h6, h7, h8⟩⟩ := h
  · left
    rw [h3] at h1
    simpa using h1
  · right
    rw [hv] at h2
    injection h2 with h2 _ _
    refine ⟨g, 0, h2, (Array.getElem?_eq_some_iff.1 h4).1, fun i hi => ?_⟩
    have hi2 : i < n := by simp at h1; omega
    have h9 : cur[i]? = some (.int .i64 xs[i]) := by
      have e : (cur.toList.take (n * 1))[i]? = some (.int .i64 xs[i]) := by rw [h8, List.getElem?_map, List.getElem?_eq_getElem hi]; rfl
      rw [List.getElem?_take, if_pos (by omega)] at e
      simpa using e
    unfold World.cell?
    rw [h4]
    simp only [Nat.zero_add]
    exact h9

set_option maxHeartbeats 1000000 in
theorem each_law (s n : Int) (w : World) : Calls Try.prog 5 #[.int .i64 s, .int .i64 n] w fun e w' => e = .returned (.bool true) ∧ Below w.heap.size w w' := by
  by_cases hf : 1 ≤ n ∧ n ≤ 200
  · obtain ⟨N, rfl⟩ := Int.eq_ofNat_of_zero_le (show 0 ≤ n by omega)
    have hN1 : 1 ≤ N := by omega
    have hN2 : N ≤ 200 := by omega
    have n1 : ¬ (N : Int) < 1 := by omega
    have n2 : ¬ 200 < (N : Int) := by omega
    obtain ⟨k, hk⟩ : ∃ k, k = errS s (List.replicate N 1) := ⟨_, rfl⟩
    obtain ⟨zs, hzs⟩ : ∃ zs, zs = sharesR s (List.replicate N 1) := ⟨_, rfl⟩
    have hE : Aside (∀ W : World, Calls Try.prog 13 #[.int .i64 s, .int .i64 N] W fun e w' => ∃ (a : Option Addr) (m : Nat), e = .returned (.tuple #[.slice a m m, .int .i64 k]) ∧ zs.length = m ∧ m ≤ 200 ∧ IsInts w' a zs ∧ Below W.heap.size W w') :=
      fun W => (split_each_some s N W hN1 hN2).mono fun e w' h => by rw [hk, hzs]; exact h.out
    have hS : Aside (∀ (W : World) (a : Option Addr) (c : Nat), IsInts W a (List.replicate N 1) → Calls Try.prog 8 #[.int .i64 s, .slice a N c] W fun e w' => ∃ (a : Option Addr) (m : Nat), e = .returned (.tuple #[.slice a m m, .int .i64 k]) ∧ zs.length = m ∧ m ≤ 200 ∧ IsInts w' a zs ∧ Below W.heap.size W w') :=
      fun W a c hx => (split_shares a _ N c s W (by simp) hx (by unfold maxLen; omega)).mono fun e w' h => by rw [hk, hzs]; exact h.out
    clear hk hzs hf
    go_enter Try.func5, Try.ntmps5
    go_wp2_with fail
    refine (split_awake w).mono ?_
    rintro e w1 ⟨rfl, b1⟩
    go_wp2_with fail
    refine (hE.out w1).mono ?_
    rintro e w2 ⟨a, m, rfl, hm, hm2, h3, b2⟩
    have b3 := b1.trans (b2.mono b1.size)
    have H2 : Aside (IsInts w2 a zs) := h3
    have HM := Lib.hid hm
    clear hm h3 b2 b1
    go_wp2
    go_loopw [7, 32] (fun v i wr => ∃ (j : Nat) (a : Option Addr) (c : Nat), v = .slice a j c ∧ i = .int .i64 j ∧ j ≤ N ∧ Hid (wr.ownsRow w2.heap.size 2 1 (.slice a j c) j ((List.replicate j (1 : Int)).map (.int .i64))) ∧ Aside (Below w2.heap.size w2 wr)) (fun _ i _ => N - (intOf i).toNat)
    case atStart => exact ⟨0, none, 0, rfl, rfl, Nat.zero_le _, ⟨rfl, .inl ⟨rfl, rfl⟩⟩, Below.refl _ _⟩
    case round =>
      obtain ⟨j, av, cv, rfl, rfl, hj, HO, BJ⟩ := hrel
      by_cases hlt : j < N
      · have hlt' : (j : Int) < (N : Int) := by omega
        have hown := ownsRow_alloc HO.out (.cells #[.int .i64 1] 2)
        have hb0 := BJ.out.alloc BJ.out.size (.cells #[.int .i64 1] 2)
        have HR : Hid ((List.replicate j (1 : Int)).map (Value.int .i64) ++ [.int .i64 1] = (List.replicate (j + 1) (1 : Int)).map (.int .i64)) := by
          show _ = _
          rw [List.replicate_succ', List.map_append]; rfl
        have HW : Aside _ := hown
        have HB0 : Aside _ := hb0
        have hz := BJ.out.size
        clear hown hb0 HO BJ
        go_wp2_with (at_builtin; refine wpList_append_elem rfl _ _ 22 rfl w2.heap.size 2 (.int .i64 0) 8 Try.underlying22 (by kernel_rfl) rfl (.slice av j cv) j _ rfl HW.out (.int .i64 1) rfl ⟨wr.heap.size, 0, none⟩ 1 rfl (by simp) (j + 1) rfl (by unfold maxLen; omega) (by omega) (by simp; omega) w2.heap.size w2 HB0.out (Nat.le_refl _) ?_; intro a' c' w4 ho4 hb4 _ _)
        have HO4 : Hid (w4.ownsRow w2.heap.size 2 1 (.slice a' (j + 1) c') (j + 1) ((List.replicate (j + 1) (1 : Int)).map (.int .i64))) := by
          have := ho4.out
          rw [HR.out] at this
          exact this
        have HB4 : Aside _ := hb4
        clear ho4 hb4 HW HB0 HR
        go_roundw
        case rel => exact ⟨j + 1, a', c', rfl, by go_num, hlt, HO4.out, HB4.out⟩
        case measure => simp [intOf]; omega
      · obtain rfl : j = N := by omega
        have hx := IsInts.owned HO.out rfl
        have h5 := H2.out.below BJ.out
        have b5 := b3.trans (BJ.out.mono b3.size)
        have HX : Aside _ := hx
        have H5 : Aside (IsInts wr a zs) := h5
        clear hx h5 HO BJ
        go_wp2_with fail
        refine (hS.out wr av cv HX.out).mono ?_
        rintro e w4 ⟨a', m', rfl, hm', hm2', h3', b6⟩
        obtain rfl : m = m' := by rw [← HM.out, hm']
        have h6 := H5.out.below b6
        have b7 := b5.trans (b6.mono b5.size)
        have HM2 := Lib.hid hm'
        clear hm' b6
        go_wp2_with fail
        refine (split_same a a' zs m m m w4 HM2.out hm2 h6 h3').mono ?_
        rintro e w5 ⟨rfl, b8⟩
        go_wp2
        go_ret
        exact ⟨rfl, b7.trans (b8.mono b7.size)⟩
  · have hE := fun W => split_each_wrong s n W (by omega)
    by_cases n1 : n < 1
    · clear hf
      go_enter Try.func5, Try.ntmps5
      go_wp2_with fail
      refine (split_awake w).mono ?_
      rintro e w1 ⟨rfl, b1⟩
      go_wp2_with fail
      refine (hE w1).mono ?_
      rintro e w3 ⟨rfl, rfl⟩
      go_wp2
      go_ret
      exact ⟨rfl, b1⟩
    · have n2 : 200 < n := by omega
      clear hf
      go_enter Try.func5, Try.ntmps5
      go_wp2_with fail
      refine (split_awake w).mono ?_
      rintro e w1 ⟨rfl, b1⟩
      go_wp2_with fail
      refine (hE w1).mono ?_
      rintro e w3 ⟨rfl, rfl⟩
      go_wp2
      go_ret
      exact ⟨rfl, b1⟩

theorem each_contract (W : World) (args : Array Value) (h : Each Try.prog W Try.f5.params.toList args.toList) :
    Calls Try.prog 5 args W fun e W' => e = .returned (.bool true) ∧ Below W.heap.size W W' := by
  rw [Try.params5] at h
  obtain ⟨v0, r0, e0, ⟨_, o0⟩, d0, h⟩ := h.cons
  obtain ⟨v1, r1, rfl, ⟨_, o1⟩, d1, h⟩ := h.cons
  obtain rfl := h.nil
  obtain ⟨args⟩ := args
  obtain rfl : args = [v0, v1] := e0
  obtain ⟨x0, rfl, hx0⟩ := val_int o0 d0 Try.underlying2
  obtain ⟨x1, rfl, hx1⟩ := val_int o1 d1 Try.underlying3
  exact each_law x0 x1 W

theorem each_lifted (os : Os) (started : os.Started) (H : Type) (enc : TypeId × Value → H) :
    ReturnsInHanded {} Try.checked os 5 .any (Rows.splitEachSpec.pre6 enc Try.prog Try.f5 Rows.splitEachRow.domain false) (Rows.splitEachSpec.post enc Try.prog Try.f5 false true false false) :=
  law_lifted (C := Try.checked) seat_own seat_laid (by kernel_rfl) Try.func5 rfl (tb := 4) rfl Try.underlying4
    (by
      rw [Try.params5]; intro t ht; simp at ht
      rcases ht with rfl | rfl <;> exact ⟨by kernel_rfl, of_decide_eq_true (by kernel_rfl)⟩)
    (fun H ds hl => by
      rw [Try.params5] at hl
      match ds, hl with
      | [d1, d2], _ => rfl)
    os started H enc
    (ChangeSpec.witness6 (enc := enc) (C := Try.checked) false ⟨#[], #[.int .i64 0, .int .i64 0], []⟩ 8 (by kernel_rfl) (by kernel_rfl) (by kernel_rfl) (by kernel_rfl))
    each_contract

theorem splitEach_holds : Rows.SplitEachSaid :=
  OpenClaim.holds_of_wide 5 Try.f5 rfl rfl rfl rfl rfl rfl rfl ⟨rfl, rfl, rfl, rfl, rfl⟩ rfl rfl rfl rfl rfl (by kernel_rfl) Try.func5 (by kernel_rfl)
    (of_decide_eq_true (by kernel_rfl)) (by unfold Func.isWrapper; first | (rw [if_pos (by decide +kernel)]; kernel_rfl) | (rw [if_neg (by decide +kernel)]; exact ⟨rfl, rfl⟩))
    (fun os started H enc _ => each_lifted os started H enc)
#print axioms splitEach_holds
end Go.Proofs.Ytadaaoljpeojcaa
