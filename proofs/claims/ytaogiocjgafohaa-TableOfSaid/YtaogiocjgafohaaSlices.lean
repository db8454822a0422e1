/-
  Slices of bytes: what a row of bytes tells, bytes.Clone, and the statements' comparison of two lists of bytes. Conditions: those of each theorem.
-/
import Derived.Test.YtaogiocjgafohaaOpsB
import Derived.WalkSpells
import Derived.WalkLawsBesides
import Derived.Deep.QuietTactic
import Derived.BigQuiet
namespace Go.Proofs.Ytaogiocjgafohaa
open Go.RowKit
set_option maxRecDepth 100000

theorem u8_info : (Try.prog.info? 5).map (fun i => (i.zero, i.size, i.bytes)) = some (some (.int .u8 0), 1, 1) := by kernel_rfl

theorem bytes_of_row {w : World} {base n : Nat} {e : TypeId} {a : Option Addr} {c : Nat} {xs : List UInt8} (h : w.ownsRow base e 1 (.slice a n c) n (xs.map bval)) : IsBytes w a xs ∧ n = xs.length ∧ n ≤ c ∧ c ≤ maxLen ∧ (a = none → c = 0) := by
  have hl : n = xs.length := by have := h.1; simp at this; exact this.symm
  rcases h.2 with ⟨hv, hn⟩ | ⟨g, cap, cur, hv, _, hg, hnc, hcm, _, ht⟩
  · injection hv with h1 h2 h3
    exact ⟨.inl (List.length_eq_zero_iff.1 (by omega)), hl, by omega, by omega, fun _ => h3⟩
  · injection hv with h1 h2 h3
    subst h1
    refine ⟨.inr ⟨g, 0, rfl, (Array.getElem?_eq_some_iff.1 hg).1, fun i hi => ?_⟩, hl, by omega, by omega, fun x => by cases x⟩
    rw [Nat.zero_add, cell_of_row w g i cur e (0, 0) hg]
    have h2 : (xs.map bval)[i]? = some (bval xs[i]) := by simp [List.getElem?_map, List.getElem?_eq_getElem hi]
    rw [← ht, List.getElem?_take] at h2
    split at h2
    · simpa [bval] using h2
    · cases h2

set_option maxHeartbeats 800000 in
theorem clone_bytes (a : Option Addr) (xs : List UInt8) (n c : Nat) (w : World) (hn : xs.length = n) (hx : IsBytes w a xs) (hnc : a = none → c = 0) (hb : n ≤ 140737488355328) :
    Calls Try.prog 32 #[.slice a n c] w fun e w' => (∃ a' c', e = .returned (.slice a' n c') ∧ w'.ownsRow w.heap.size 5 1 (.slice a' n c') n (xs.map bval)) ∧ Below w.heap.size w w' := by
  have hnil := fun (w : World) (a : Option Addr) (n c n' c' : Nat) => Lib.run_eql_slice_nil (P := Try.prog) w 24 5 a n c n' c' Try.underlying24
  cases a with
  | none =>
    obtain rfl := hnc rfl
    obtain rfl : xs = [] := by
      rcases hx with h | ⟨_, _, h, _⟩
      · exact h
      · cases h
    obtain rfl : 0 = n := hn
    clear hnc
    go_enter Try.func32, Try.ntmps32
    go_wp2
    go_ret
    exact ⟨⟨none, 0, rfl, World.ownsRow_nil _ _ _ _⟩, Below.refl _ _⟩
  | some a =>
    have hown : (w.alloc (.cells #[] 5)).ownsRow w.heap.size 5 1 (.slice (some ⟨w.heap.size, 0, none⟩) 0 0) 0 (([] : List UInt8).map bval) :=
      World.ownsRow_made w #[] 0 (Nat.le_refl _) (Nat.zero_le _) rfl
    have hx1 : IsBytes (w.alloc (.cells #[] 5)) (some a) xs := hx.upd (S := fun _ => False) ((Upd.refl _ _).alloc _) (fun _ _ _ h => h)
    have hb0 : 0 + n ≤ 140737488355328 := by omega
    have hbase : w.heap.size ≤ (w.alloc (.cells #[] 5)).heap.size := by simp
    go_enter Try.func32, Try.ntmps32
    go_wp2_with (at_builtin; refine wpList_append_bytes rfl _ _ 24 rfl w.heap.size 5 Try.underlying24 u8_info (.slice (some ⟨w.heap.size, 0, none⟩) 0 0) 0 [] rfl hown (some a) xs n hn c rfl hx1 hnc hb0 hbase ?_; intro a' c' w' h1 h2 h3)
    go_ret
    rw [Nat.zero_add] at h1
    refine ⟨⟨a', c', by simp, by simpa using h1⟩, ?_⟩
    exact ((Below.refl _ w).alloc (Nat.le_refl _) _).grown h2 (by simp) (fun k hk => by simp [Value.ownBlock] at hk; omega)

theorem take_eq {xs ys : List UInt8} {k : Nat} (h : xs.take k = ys.take k) (h1 : k < xs.length) (h2 : k < ys.length) (e : xs[k] = ys[k]) : xs.take (k+1) = ys.take (k+1) := by
  rw [List.take_succ_eq_append_getElem h1, List.take_succ_eq_append_getElem h2, h, e]

set_option maxHeartbeats 400000 in
theorem bytes_any0 (a b : Option Addr) (ca cb : Nat) (xs ys : List UInt8) (w : World) (ha : IsBytes w a xs) (hb : IsBytes w b ys)
   (hx : xs.length ≤ maxLen) (hy : ys.length ≤ maxLen) :
    Calls Try.prog 11 #[.slice a xs.length ca, .slice b ys.length cb] w fun e w' => e = .returned (.bool (decide (xs = ys))) ∧ ∃ n, w' = w.drewN n := by
  unfold maxLen at hx hy
  by_cases hl : xs.length = ys.length
  · have HL := Lib.hid hl
    have hle : ys.length ≤ xs.length := by omega
    go_enter Try.func11, Try.ntmps11
    go_wp2
    clear hl
    go_loopw [5, 13] (fun _ i wr => ∃ k : Nat, k ≤ ys.length ∧ i = .int .i64 k ∧ (∃ n, wr = w.drewN n) ∧ xs.take k = ys.take k)
      (fun _ i _ => ys.length - (intOf i).toNat)
    case atStart => exact ⟨0, by omega, rfl, ⟨0, rfl⟩, rfl⟩
    case round =>
      obtain ⟨k, hk, rfl, ⟨n, rfl⟩, hpre⟩ := hrel
      by_cases hlt : k < ys.length
      · rcases ha with rfl | ⟨ba, oa, rfl, _, hca⟩
        · simp at hle; simp [hle] at hlt
        rcases hb with rfl | ⟨bb, ob, rfl, _, hcb⟩
        · simp at hlt
        have c1 := hca k (by omega)
        have c2 := hcb k (by omega)
        have HP := Lib.hid hpre
        clear hca hcb hpre
        by_cases he : xs[k] = ys[k]
        · have hb1 : ((xs[k].toNat : Int) != (ys[k].toNat : Int)) = false := by simp [he]
          have H1 := Lib.hid he
          clear he
          go_wp2
          go_quiet (fail)
          go_wp2
          go_roundw
          case rel => exact ⟨k + 1, by omega, by go_num, ⟨n + nq, by first | rfl | exact World.drewN_drewN _ _ _⟩, take_eq HP.out (by omega) hlt H1.out⟩
          case measure => simp [intOf]; omega
        · have hb1 : ((xs[k].toNat : Int) != (ys[k].toNat : Int)) = true := by
            rw [bne_iff_ne]; intro e; exact he (UInt8.toNat_inj.1 (by omega))
          have hne : ¬ xs = ys := by intro e; subst e; exact he rfl
          have H1 := Lib.hid hne
          clear he hne
          go_wp2
          go_quiet (fail)
          go_wp2
          go_ret
          exact ⟨by simp [H1.out], n + nq, by first | rfl | exact World.drewN_drewN _ _ _⟩
      · go_wp2
        go_ret
        have e : xs = ys := by
          have := hpre
          have h1 : k = ys.length := by omega
          have h2 : k = xs.length := by have := HL.out; omega
          rw [List.take_of_length_le (by omega), List.take_of_length_le (by omega)] at this
          exact this
        exact ⟨by simp [e], n, rfl⟩
  · go_enter Try.func11, Try.ntmps11
    go_wp2
    go_ret
    exact ⟨by simp [show xs ≠ ys from fun e => hl (by rw [e])], 0, rfl⟩

theorem bytes_any (a b : Option Addr) (n m ca cb : Nat) (xs ys : List UInt8) (w : World) (hn : xs.length = n) (hm : ys.length = m) (ha : IsBytes w a xs) (hb : IsBytes w b ys) (hx : n ≤ maxLen) (hy : m ≤ maxLen) :
    Calls Try.prog 11 #[.slice a n ca, .slice b m cb] w fun e w' => e = .returned (.bool (decide (xs = ys))) ∧ Below w.heap.size w w' := by
  subst hn hm
  refine (bytes_any0 a b ca cb xs ys w ha hb hx hy).mono ?_
  rintro e w' ⟨he, n, rfl⟩
  exact ⟨he, ⟨rfl, rfl, rfl, Nat.le_refl _, fun _ _ => rfl⟩⟩
end Go.Proofs.Ytaogiocjgafohaa
