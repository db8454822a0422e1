/-
  The library's Repeat, of one number. Conditions: those of the theorems.
-/
import Derived.Test.YtadaaoljpeojcaaSplitA
import Derived.Laws.CopyOwn
namespace Go.Proofs.Ytadaaoljpeojcaa
open Go.RowKit
set_option maxRecDepth 100000

theorem bits_mul1 (n : Nat) (hn : n ≤ 1000000) (w : World) : Calls Try.prog 24 #[.int .u64 1, .int .u64 n] w fun e w' => e = .returned (.tuple #[.int .u64 0, .int .u64 n]) ∧ w = w' := by
  have h := bits_mul64 1 n (by decide) (by omega) w
  rw [show 1 * n / 18446744073709551616 = 0 by omega, show 1 * n % 18446744073709551616 = n by omega] at h
  go_enter Try.func24, Try.ntmps24
  go_wp2_with fail
  refine h.mono ?_
  rintro e w1 ⟨rfl, rfl⟩
  go_wp2
  go_ret2
  exact ⟨rfl, rfl⟩

/-- k ones, then noughts. -/
def onesZ (k N : Nat) : List Value := List.replicate k (.int .i64 1) ++ List.replicate (N - k) (.int .i64 0)
theorem onesZ_length {k N : Nat} (h : k ≤ N) : (onesZ k N).length = N := by simp [onesZ]; omega
theorem onesZ_splice {k m N : Nat} (h : k + m ≤ N) : splice (onesZ k N) k (List.replicate m (.int .i64 1)) = onesZ (k + m) N := by
  unfold splice onesZ
  rw [List.take_append_of_le_length (by simp), List.take_of_length_le (by simp), List.length_replicate, List.drop_append, List.drop_of_length_le (by simp), List.length_replicate, List.nil_append, List.drop_replicate, ← List.append_assoc, List.replicate_append_replicate]
  congr 2
  omega
theorem onesZ_get {k N t : Nat} (ht : t < k) : (onesZ k N)[t]? = some (.int .i64 1) := by
  unfold onesZ
  rw [List.getElem?_append_left (by simpa using ht), List.getElem?_replicate, if_pos ht]
theorem made_heap (w : World) (N : Nat) (t : TypeId) : (w.alloc (.cells (Array.replicate N (.int .i64 0)) t)).heap[w.heap.size]? = some (.cells (onesZ 0 N).toArray t (0, 0)) := by
  show (w.heap.push _)[w.heap.size]? = _
  rw [Array.getElem?_push_size]
  simp [onesZ]
def Repeated (n : Nat) (w : World) (e : Ending) (w' : World) : Prop :=
  ∃ S : Nat, e = .returned (.slice (some ⟨S, 0, none⟩) n n) ∧ w.heap.size ≤ S ∧ S < w'.heap.size ∧ Below w.heap.size w w' ∧ ∀ t, t < n → w'.cell? ⟨S, t, none⟩ = some (.int .i64 1)

set_option maxHeartbeats 2000000 in
theorem repeat_one (b c N : Nat) (w : World) (hN : 1 ≤ N) (hN1 : N ≤ 200) (hb : b < w.heap.size) (hx : w.cell? ⟨b, 0, none⟩ = some (.int .i64 1)) :
    Calls Try.prog 19 #[.slice (some ⟨b, 0, none⟩) 1 c, .int .i64 N] w fun e w' => Repeated N w e w' := by
  have hmk := fun W => make_run 22 2 Try.underlying22 (by kernel_rfl) N (by omega) W
  have n0 : ¬ (N : Int) < 0 := by omega
  have HX := Lib.hid hx
  clear hx
  go_enter Try.func19, Try.ntmps19
  go_wp2_with fail
  refine (bits_mul1 N (by omega) w).mono ?_
  rintro e w1 ⟨rfl, rfl⟩
  have hsrc : ∀ j v, ([Value.int .i64 1] : List Value)[j]? = some v → (w.alloc (.cells (Array.replicate N (.int .i64 0)) 2)).cell? ((⟨b, 0, none⟩ : Addr).add j) = some v := fun j v hj => by
    rcases j with _ | j
    · simp only [List.getElem?_cons_zero, Option.some.injEq] at hj
      subst hj
      have := ((Below.refl w.heap.size w).alloc (Nat.le_refl _) (.cells (Array.replicate N (.int .i64 0)) 2)).cell (p := ⟨b, 0, none⟩) hb
      exact this.trans HX.out
    · simp at hj
  have HSRC : Aside _ := hsrc
  clear hsrc
  go_wp2_with (with_reducible refine wpList_copy_splice rfl (.tmp 31) (.tmp 32) 22 22 rfl 2 Try.underlying22 (by kernel_rfl) (some ⟨w.heap.size, 0, none⟩) (some ⟨b, 0, none⟩) N N 1 c rfl rfl w.heap.size 0 (onesZ 0 N) 2 (made_heap w N _) [.int .i64 1] (by simp [Nat.min_def]; omega) (fun _ => ⟨rfl, _, rfl, HSRC.out⟩) (by rw [onesZ_length (Nat.zero_le _)]; simpa using hN) (by simp [Value.oneCell']) w.heap.size w ((Below.refl _ _).alloc (Nat.le_refl _) _) (Nat.le_refl _) ?_; intro w2 HG2 hB2)
  have e1 : splice (onesZ 0 N) 0 [.int .i64 1] = onesZ 1 N := onesZ_splice (k := 0) (m := 1) (by omega)
  have HG3 : Hid (w2.heap[w.heap.size]? = some (.cells (onesZ 1 N).toArray 2 (0, 0))) := by
    have := HG2.out
    rw [e1] at this
    exact this
  obtain ⟨S, hS⟩ : ∃ q, q = w.heap.size := ⟨_, rfl⟩
  rw [← hS] at HG3 ⊢
  have HS := Lib.hid hS
  have B2 : Aside (Below w.heap.size w w2) := hB2
  clear HG2 HSRC e1 hB2 hmk hS
  go_loopw [8] (fun vn wr => ∃ (k : Nat), vn = .int .i64 k ∧ 1 ≤ k ∧ k ≤ N ∧ Hid (wr.heap[S]? = some (.cells (onesZ k N).toArray 2 (0, 0))) ∧ Aside (Below w.heap.size w wr)) (fun vn _ => N - (intOf vn).toNat)
  case atStart => exact ⟨1, rfl, Nat.le_refl _, hN, HG3.out, B2.out⟩
  case round =>
    clear HG3 B2
    obtain ⟨k, rfl, hk1, hkN, HG, BK⟩ := hrel
    by_cases hlt : k < N
    · have hlt' : (k : Int) < (N : Int) := by omega
      have hne : ¬ N = k := by omega
      have hne2 : ¬ N ≤ k := by omega
      obtain ⟨m, hm⟩ : ∃ m, m = Nat.min k (N - k) := ⟨_, rfl⟩
      have hm1 : k + m ≤ N := by have h0 : m ≤ N - k := by { rw [hm]; exact Nat.min_le_right _ _ }; omega
      have hm2 : m ≤ k := by rw [hm]; exact Nat.min_le_left _ _
      have hm4 : m ≤ N - k := by rw [hm]; exact Nat.min_le_right _ _
      have hm3 : 0 < m := by rw [hm]; exact Nat.lt_min.2 ⟨by omega, by omega⟩
      have hkN2 : (k : Int) ≤ (N : Int) := by omega
      have hsum : IntKind.i64.wrap ((k : Int) + (m : Int)) = ((k + m : Nat) : Int) := by rw [IntKind.wrap_i64]; omega
      have HM := Lib.hid hm
      have HSUM := Lib.hid hsum
      have HSR : Aside (∀ j v, (List.replicate m (Value.int .i64 1))[j]? = some v → ∀ W : World, W.heap[S]? = some (.cells (onesZ k N).toArray 2 (0, 0)) → W.cell? ((⟨S, 0, none⟩ : Addr).add j) = some v) := fun j v hj W hW => by
        have hjm : j < m := by
          by_cases h : j < m
          · exact h
          · rw [List.getElem?_replicate, if_neg h] at hj; cases hj
        rw [List.getElem?_replicate, if_pos hjm] at hj
        have e : (⟨S, 0, none⟩ : Addr).add j = ⟨S, j, none⟩ := by
          unfold Addr.add; split <;> simp_all
        rw [e, ← hj]
        unfold World.cell?
        rw [hW]
        simp only [List.getElem?_toArray]
        exact onesZ_get (by omega)
      clear hm hsum
      go_wp2_with fail
      go_region_law ((refine step_copy_splice rfl (.tmp 41) (.tmp 44) 22 22 rfl 2 Try.underlying22 (by kernel_rfl) (some ⟨S, k, none⟩) (some ⟨S, 0, none⟩) (N - k) (N - k) k N (by kernel_rfl) (by kernel_rfl) S k (onesZ k N) 2 HG.out (List.replicate m (.int .i64 1)) (by rw [List.length_replicate]; exact HM.out) (fun _ => ⟨rfl, _, rfl, fun j v hj => HSR.out j v hj _ HG.out⟩) (by rw [onesZ_length hkN, List.length_replicate]; exact hm1) (by intro v hv; rw [List.mem_replicate] at hv; rw [hv.2]; rfl) w.heap.size w BK.out.drew (by rw [HS.out]; exact Nat.le_refl _) ?_; intro w4 hg4 hb4))
      rw [HSUM.out]
      have HG5 : Hid (w4.heap[S]? = some (.cells (onesZ (k + m) N).toArray 2 (0, 0))) := by
        have := hg4.out
        rw [onesZ_splice hm1] at this
        exact this
      have B5 : Aside (Below w.heap.size w w4) := hb4
      clear hg4 hb4 HSR BK HG
      simp only [List.getElem_toArray, List.getElem_cons_succ, List.getElem_cons_zero, Act.put, List.setIfInBounds_toArray, List.set_cons_succ, List.set_cons_zero]
      go_wp2
      go_roundw
      case rel => exact ⟨k + m, rfl, by omega, hm1, HG5.out, B5.out⟩
      case measure => simp [intOf]; omega
    · obtain rfl : k = N := by omega
      go_wp2
      go_ret
      refine ⟨S, rfl, by rw [HS.out]; exact Nat.le_refl _, (Array.getElem?_eq_some_iff.1 HG.out).1, BK.out, fun t ht => ?_⟩
      unfold World.cell?
      rw [HG.out]
      simp only [List.getElem?_toArray]
      exact onesZ_get ht
end Go.Proofs.Ytadaaoljpeojcaa
