/-
  Numbers and lists of them: isFrom, between, cents; the library's Index, Contains and Equal over ints, the law's Ints. Conditions: those of each theorem.
-/
import Derived.Test.YtmaoimjfkncnpaaRowX
namespace Go.Proofs.Ytmaoimjfkncnpaa
open Go.RowKit
set_option maxRecDepth 100000

def fromB (a v b : Int) : Bool := decide (a ≤ v) && decide (v ≤ b)
theorem fromB_true {a v b : Int} : fromB a v b = true ↔ a ≤ v ∧ v ≤ b := by simp [fromB]
theorem fromB_yes {a v b : Int} (h1 : a ≤ v) (h2 : v ≤ b) : fromB a v b = true := fromB_true.2 ⟨h1, h2⟩
theorem fromB_no1 {a v b : Int} (h1 : ¬ a ≤ v) : fromB a v b = false := by simp [fromB, h1]
theorem fromB_no2 {a v b : Int} (h2 : ¬ v ≤ b) : fromB a v b = false := by simp [fromB, h2]

/-- Where it is found: the first place. -/
def FirstAt (xs : List Int) (v : Int) (i : Int) : Prop := (i = -1 ∧ ∀ k (h : k < xs.length), xs[k] ≠ v) ∨ ∃ k : Nat, i = k ∧ ∃ h : k < xs.length, xs[k] = v ∧ ∀ j (hj : j < xs.length), j < k → xs[j] ≠ v
theorem FirstAt.uniq {xs : List Int} {v i j : Int} (h : FirstAt xs v i) (g : FirstAt xs v j) : i = j := by
  rcases h with ⟨rfl, h⟩ | ⟨k, rfl, hk, h1, h2⟩
  · rcases g with ⟨rfl, _⟩ | ⟨m, rfl, hm, g1, _⟩
    · rfl
    · exact absurd g1 (h m hm)
  · rcases g with ⟨rfl, g⟩ | ⟨m, rfl, hm, g1, g2⟩
    · exact absurd h1 (g k hk)
    · rcases Nat.lt_trichotomy k m with e | e | e
      · exact absurd h1 (g2 k hk e)
      · rw [e]
      · exact absurd g1 (h2 m hm e)

def hasB (xs : List Int) (v : Int) : Bool := decide (v ∈ xs)
theorem FirstAt.has {xs : List Int} {v i : Int} (h : FirstAt xs v i) : decide (0 ≤ i) = hasB xs v := by
  unfold hasB
  rcases h with ⟨rfl, h⟩ | ⟨k, rfl, hk, h1, _⟩
  · rw [decide_eq_false (by omega), decide_eq_false]
    intro hm
    obtain ⟨j, hj, e⟩ := List.getElem_of_mem hm
    exact h j hj e
  · rw [decide_eq_true (by omega), decide_eq_true]
    rw [← h1]
    exact List.getElem_mem hk
def eqInts (xs ys : List Int) : Bool := decide (xs = ys)
theorem eqInts_len {xs ys : List Int} (h : xs.length ≠ ys.length) : eqInts xs ys = false := decide_eq_false (fun e => h (by rw [e]))
theorem eqInts_at {xs ys : List Int} {k : Nat} (h1 : k < xs.length) (h2 : k < ys.length) (h : xs[k] ≠ ys[k]) : eqInts xs ys = false := decide_eq_false (fun e => h (by subst e; rfl))
theorem eqInts_self (xs : List Int) : eqInts xs xs = true := decide_eq_true rfl
theorem eqInts_all {xs ys : List Int} {k : Nat} (h : xs.take k = ys.take k) (h1 : xs.length = k) (h2 : ys.length = k) : eqInts xs ys = true := by
  refine decide_eq_true ?_
  rw [List.take_of_length_le (by omega), List.take_of_length_le (by omega)] at h
  exact h
theorem take_eq_ints {xs ys : List Int} {k : Nat} (h : xs.take k = ys.take k) (h1 : k < xs.length) (h2 : k < ys.length) (e : xs[k] = ys[k]) : xs.take (k + 1) = ys.take (k + 1) := by
  rw [List.take_succ_eq_append_getElem h1, List.take_succ_eq_append_getElem h2, h, e]

set_option maxHeartbeats 1000000 in
theorem slices_equal (a b : Option Addr) (xs ys : List Int) (n m c d : Nat) (w : World) (hn : xs.length = n) (hm : ys.length = m) (hx : IsInts w a xs) (hy : IsInts w b ys) (hnm : n ≤ 100000) (hmm : m ≤ 100000) :
    Calls Try.prog 32 #[.slice a n c, .slice b m d] w fun e w' => e = .returned (.bool (eqInts xs ys)) ∧ Below w.heap.size w w' := by
  have HN := Lib.hid hn
  have HM := Lib.hid hm
  clear hn hm
  by_cases hnm' : n = m
  · subst hnm'
    clear hmm
    go_enter Try.func32, Try.ntmps32
    go_wp2
    go_loopw [5, 13] (fun _ i wr => ∃ k : Nat, k ≤ n ∧ i = .int .i64 k ∧ Hid (xs.take k = ys.take k) ∧ Aside (Below w.heap.size w wr)) (fun _ i _ => n - (intOf i).toNat)
    case atStart => exact ⟨0, Nat.zero_le _, rfl, rfl, Below.refl _ _⟩
    case round =>
      obtain ⟨k, hk, rfl, HK, HB⟩ := hrel
      by_cases hlt : k < n
      · have hkn : (k : Int) < (n : Int) := by omega
        have hk0 : (0 : Int) ≤ (k : Int) := by omega
        rcases hx with rfl | ⟨b1, o1, rfl, hb1, hc1⟩
        · have := HN.out; simp at this; omega
        rcases hy with rfl | ⟨b2, o2, rfl, hb2, hc2⟩
        · have := HM.out; simp at this; omega
        have hl1 : k < xs.length := by rw [HN.out]; exact hlt
        have hl2 : k < ys.length := by rw [HM.out]; exact hlt
        have e1 : wr.cell? ⟨b1, o1 + k, none⟩ = some (.int .i64 xs[k]) := (HB.out.cell (p := ⟨b1, o1 + k, none⟩) hb1).trans (hc1 k hl1)
        have e2 : wr.cell? ⟨b2, o2 + k, none⟩ = some (.int .i64 ys[k]) := (HB.out.cell (p := ⟨b2, o2 + k, none⟩) hb2).trans (hc2 k hl2)
        clear hc1 hc2
        have HF : Hid (xs[k] ≠ ys[k] → eqInts xs ys = false) := fun e => eqInts_at hl1 hl2 e
        have HT : Hid (xs[k] = ys[k] → xs.take (k + 1) = ys.take (k + 1)) := fun e => take_eq_ints HK.out hl1 hl2 e
        generalize xs[k] = x at *
        generalize ys[k] = y at *
        by_cases q : x = y
        · have hq : ((x : Int) != y) = false := by simpa using q
          have HE := Lib.hid (HT.out q)
          clear q
          go_upto_region 6 with (fail)
          go_quiet (fail)
          go_wp2
          go_roundw
          case rel => exact ⟨k + 1, by omega, by go_num, HE.out, below_drawn HB.out _⟩
          case measure => simp [intOf]; omega
        · have hq : ((x : Int) != y) = true := by simpa using q
          have HE := Lib.hid (HF.out q)
          clear q
          go_upto_region 6 with (fail)
          go_quiet (fail)
          go_wp2
          go_ret
          exact ⟨by rw [HE.out]; rfl, below_drawn HB.out _⟩
      · obtain rfl : k = n := by omega
        have HE := Lib.hid (eqInts_all HK.out HN.out HM.out)
        go_wp2
        go_ret
        exact ⟨by rw [HE.out]; rfl, HB.out⟩
  · have hq : ((n : Int) != (m : Int)) = true := by rw [bne_iff_ne]; omega
    have HE := Lib.hid (eqInts_len (xs := xs) (ys := ys) (by rw [HN.out, HM.out]; exact hnm'))
    clear hnm'
    go_enter Try.func32, Try.ntmps32
    go_wp2
    go_ret
    exact ⟨by rw [HE.out]; rfl, Below.refl _ _⟩

set_option maxHeartbeats 1000000 in
theorem law_ints (a b : Option Addr) (xs ys : List Int) (n m c d : Nat) (w : World) (hn : xs.length = n) (hm : ys.length = m) (hx : IsInts w a xs) (hy : IsInts w b ys) (hnm : n ≤ 100000) (hmm : m ≤ 100000) :
    Calls Try.prog 31 #[.slice a n c, .slice b m d] w fun e w' => e = .returned (.bool (eqInts xs ys)) ∧ Below w.heap.size w w' := by
  have HN := Lib.hid hn
  have HM := Lib.hid hm
  clear hn hm
  by_cases hnm' : n = m
  · subst hnm'
    clear hmm
    go_enter Try.func31, Try.ntmps31
    go_wp2
    go_loopw [5, 13] (fun _ i wr => ∃ k : Nat, k ≤ n ∧ i = .int .i64 k ∧ Hid (xs.take k = ys.take k) ∧ Aside (Below w.heap.size w wr)) (fun _ i _ => n - (intOf i).toNat)
    case atStart => exact ⟨0, Nat.zero_le _, rfl, rfl, Below.refl _ _⟩
    case round =>
      obtain ⟨k, hk, rfl, HK, HB⟩ := hrel
      by_cases hlt : k < n
      · have hkn : (k : Int) < (n : Int) := by omega
        have hk0 : (0 : Int) ≤ (k : Int) := by omega
        rcases hx with rfl | ⟨b1, o1, rfl, hb1, hc1⟩
        · have := HN.out; simp at this; omega
        rcases hy with rfl | ⟨b2, o2, rfl, hb2, hc2⟩
        · have := HM.out; simp at this; omega
        have hl1 : k < xs.length := by rw [HN.out]; exact hlt
        have hl2 : k < ys.length := by rw [HM.out]; exact hlt
        have e1 : wr.cell? ⟨b1, o1 + k, none⟩ = some (.int .i64 xs[k]) := (HB.out.cell (p := ⟨b1, o1 + k, none⟩) hb1).trans (hc1 k hl1)
        have e2 : wr.cell? ⟨b2, o2 + k, none⟩ = some (.int .i64 ys[k]) := (HB.out.cell (p := ⟨b2, o2 + k, none⟩) hb2).trans (hc2 k hl2)
        clear hc1 hc2
        have HF : Hid (xs[k] ≠ ys[k] → eqInts xs ys = false) := fun e => eqInts_at hl1 hl2 e
        have HT : Hid (xs[k] = ys[k] → xs.take (k + 1) = ys.take (k + 1)) := fun e => take_eq_ints HK.out hl1 hl2 e
        generalize xs[k] = x at *
        generalize ys[k] = y at *
        by_cases q : x = y
        · have hq : ((x : Int) != y) = false := by simpa using q
          have HE := Lib.hid (HT.out q)
          clear q
          go_upto_region 6 with (fail)
          go_quiet (fail)
          go_wp2
          go_roundw
          case rel => exact ⟨k + 1, by omega, by go_num, HE.out, below_drawn HB.out _⟩
          case measure => simp [intOf]; omega
        · have hq : ((x : Int) != y) = true := by simpa using q
          have HE := Lib.hid (HF.out q)
          clear q
          go_upto_region 6 with (fail)
          go_quiet (fail)
          go_wp2
          go_ret
          exact ⟨by rw [HE.out]; rfl, below_drawn HB.out _⟩
      · obtain rfl : k = n := by omega
        have HE := Lib.hid (eqInts_all HK.out HN.out HM.out)
        go_wp2
        go_ret
        exact ⟨by rw [HE.out]; rfl, HB.out⟩
  · have hq : ((n : Int) != (m : Int)) = true := by rw [bne_iff_ne]; omega
    have HE := Lib.hid (eqInts_len (xs := xs) (ys := ys) (by rw [HN.out, HM.out]; exact hnm'))
    clear hnm'
    go_enter Try.func31, Try.ntmps31
    go_wp2
    go_ret
    exact ⟨by rw [HE.out]; rfl, Below.refl _ _⟩
end Go.Proofs.Ytmaoimjfkncnpaa
