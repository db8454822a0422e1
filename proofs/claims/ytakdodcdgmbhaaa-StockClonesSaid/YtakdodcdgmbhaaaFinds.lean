/-
  The library's IndexFunc and ContainsFunc, over numbers. Conditions: those of each theorem.
-/
import Derived.Test.YtakdodcdgmbhaaaRowX
namespace Go.Proofs.Ytakdodcdgmbhaaa
open Go.RowKit
set_option maxRecDepth 100000

/-- Which of the first k it is, if any: a search that ended. -/
def AnyOf (bad : Nat → Bool) (n : Nat) (i : Int) : Prop := decide (0 ≤ i) = (List.range n).any bad
theorem anyOf_found {bad : Nat → Bool} {n k : Nat} (h : k < n) (hb : bad k = true) : AnyOf bad n k := by
  unfold AnyOf
  rw [decide_eq_true (by omega), eq_comm, List.any_eq_true]
  exact ⟨k, List.mem_range.2 h, hb⟩
theorem anyOf_none {bad : Nat → Bool} {n : Nat} (h : ∀ k, k < n → bad k = false) : AnyOf bad n (-1) := by
  unfold AnyOf
  rw [decide_eq_false (by omega), eq_comm, List.any_eq_false]
  intro k hk
  rw [h k (List.mem_range.1 hk)]
  decide

set_option maxHeartbeats 800000 in
theorem index_any (g : Nat) (bad : Int → Bool) (f : Nat → Int) (a : Option Addr) (n c : Nat) (w : World) (hm : n ≤ 1000) (hc : IntRow w a n f)
    (eg : ∀ args w, (callFunc g args).run Try.prog w = .ok (.enter g args) w)
    (hG : ∀ v W, Calls Try.prog g #[.int .i64 v] W fun e w' => e = .returned (.bool (bad v)) ∧ w' = W) :
    Calls Try.prog 30 #[.slice a n c, .func (.func g) #[] #[]] w fun e w' => (∃ i, e = .returned (.int .i64 i) ∧ AnyOf (fun k => bad (f k)) n i) ∧ Below w.heap.size w w' := by
  have HC : Aside (IntRow w a n f) := hc
  have HG : Aside (∀ v W, Calls Try.prog g #[.int .i64 v] W fun e w' => e = .returned (.bool (bad v)) ∧ w' = W) := hG
  clear hc hG
  go_enter Try.func30, Try.ntmps30
  go_wp2
  go_loopw [8] (fun i wr => ∃ k : Nat, k ≤ n ∧ i = .int .i64 k ∧ Aside (Below w.heap.size w wr) ∧ Hid (∀ j, j < k → bad (f j) = false)) (fun i _ => n - (intOf i).toNat)
  case atStart => exact ⟨0, Nat.zero_le _, rfl, Below.refl _ _, fun j hj => by omega⟩
  case round =>
    obtain ⟨k, hk, rfl, HB, HK⟩ := hrel
    by_cases hlt : k < n
    · have hkn : (k : Int) < (n : Int) := by omega
      obtain ⟨b, o, rfl, hb, hc⟩ := HC.out (by omega)
      have ck : wr.cell? ⟨b, o + k, none⟩ = some (.int .i64 (f k)) := (HB.out.cell (p := ⟨b, o + k, none⟩) hb).trans (hc k hlt)
      clear hc
      have HF : Hid (bad (f k) = true → AnyOf (fun k => bad (f k)) n k) := fun e => anyOf_found hlt e
      have HT : Hid (bad (f k) = false → ∀ j, j < k + 1 → bad (f j) = false) := fun e j hj => by
        by_cases h : j = k
        · subst h; exact e
        · exact HK.out j (by omega)
      have HGk : Aside _ := HG.out (f k)
      obtain ⟨q, hq⟩ : ∃ q, q = bad (f k) := ⟨_, rfl⟩
      rw [← hq] at HF HT HGk
      generalize f k = x at *
      clear hq
      go_wp2_with fail
      refine (Calls.mono (HGk.out _) ?_)
      rintro e w2 ⟨rfl, rfl⟩
      cases q with
      | true =>
        have HA := Lib.hid (HF.out rfl)
        go_wp2
        go_ret
        exact ⟨⟨_, rfl, HA.out⟩, HB.out⟩
      | false =>
        have HA := Lib.hid (HT.out rfl)
        go_wp2
        go_roundw
        case rel => exact ⟨k + 1, by omega, by go_num, HB.out, HA.out⟩
        case measure => simp [intOf]; omega
    · obtain rfl : k = n := by omega
      go_wp2
      go_ret
      exact ⟨⟨_, rfl, anyOf_none HK.out⟩, HB.out⟩

theorem contains_any (g : Nat) (bad : Int → Bool) (f : Nat → Int) (a : Option Addr) (n c : Nat) (w : World) (hm : n ≤ 1000) (hc : IntRow w a n f)
    (eg : ∀ args w, (callFunc g args).run Try.prog w = .ok (.enter g args) w)
    (hG : ∀ v W, Calls Try.prog g #[.int .i64 v] W fun e w' => e = .returned (.bool (bad v)) ∧ w' = W) :
    Calls Try.prog 28 #[.slice a n c, .func (.func g) #[] #[]] w fun e w' => e = .returned (.bool ((List.range n).any fun k => bad (f k))) ∧ Below w.heap.size w w' := by
  have H : Aside _ := index_any g bad f a n c w hm hc eg hG
  clear hc eg hG
  go_enter Try.func28, Try.ntmps28
  go_wp2_with fail
  refine (Calls.mono H.out ?_)
  rintro e w1 ⟨⟨i, rfl, hi⟩, b1⟩
  have HI : Hid (decide (0 ≤ i) = _) := hi
  clear hi H
  go_wp2
  go_ret
  exact ⟨by rw [← HI.out]; rfl, b1⟩

theorem contains_ints (g : Nat) (bad : Int → Bool) (f : Nat → Int) (b o n c : Nat) (w : World) (hm : n ≤ 1000) (hb : b < w.heap.size) (hc : ∀ k, k < n → w.cell? ⟨b, o + k, none⟩ = some (.int .i64 (f k)))
    (eg : ∀ args w, (callFunc g args).run Try.prog w = .ok (.enter g args) w)
    (hG : ∀ v W, Calls Try.prog g #[.int .i64 v] W fun e w' => e = .returned (.bool (bad v)) ∧ w' = W) :
    Calls Try.prog 28 #[.slice (some ⟨b, o, none⟩) n c, .func (.func g) #[] #[]] w fun e w' => e = .returned (.bool ((List.range n).any fun k => bad (f k))) ∧ Below w.heap.size w w' :=
  contains_any g bad f (some ⟨b, o, none⟩) n c w hm (fun _ => ⟨b, o, rfl, hb, hc⟩) eg hG
end Go.Proofs.Ytakdodcdgmbhaaa
