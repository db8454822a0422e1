/-
  Package table: Of and Equal (of the same policies, cell by cell). Conditions: those of each theorem.
-/
import Derived.Test.YtbiompjhenkieaaGreatPolX
import Derived.Test.YtbiompjhenkieaaGreatLeX
import Derived.Test.YtbiompjhenkieaaGreatBase
namespace Go.Proofs.YtbiompjhenkieaaGreat
open Go.RowKit
set_option maxRecDepth 100000
def zeroPol : Pol := ⟨0, false, false, false, fun _ => 0, fun _ => 0, fun _ => 0⟩
theorem PolAt.same {w : World} {b o : Nat} {p q : Pol} (h : PolAt w b o p) (e : p.arr = q.arr) : PolAt w b o q := ⟨h.lt, by rw [← e]; exact h.cells⟩

set_option maxHeartbeats 2000000 in
theorem table_of_in (b off : Nat) (q : Pol) (n c k : Nat) (w : World) (hk : k < n) (hp : PolAt w b (off + k * 16) q) :
    Calls Tryz.prog 104 #[.slice (some ⟨b, off, none⟩) n c, .int .i64 k] w fun e w' => e = .returned (.tuple #[.agg q.arr, .int .i64 0]) ∧ Below w.heap.size w w' := by
  have hi0 : ¬ (k : Int) < 0 := by omega
  have hi1 : ¬ (n : Int) ≤ (k : Int) := by omega
  have hkn : (k : Int) < (n : Int) := by omega
  obtain ⟨z0, z1, z2, z3, z4, z5, z6, z7, z8, z9, za, zb, zc, zd, ze, zf⟩ := hp.all
  have hb := hp.lt
  clear hp
  go_enter Tryz.func104, Tryz.ntmps104
  go_wp2
  refine bodyPost_ret (results_row_tmp rfl _ _ _ 64 q.arr (0, 0) _ rfl (heap_alloc_new w _) Tryz.underlying64 rfl info_pol) rfl ⟨rfl, upd_box _⟩

set_option maxHeartbeats 2000000 in
theorem table_of_out (a : Option Addr) (n c : Nat) (i : Int) (w : World) (h : ¬ (0 ≤ i ∧ i < n)) :
    Calls Tryz.prog 104 #[.slice a n c, .int .i64 i] w fun e w' => e = .returned (.tuple #[.agg zeroPol.arr, .int .i64 10]) ∧ Below w.heap.size w w' := by
  by_cases h0 : i < 0
  · clear h
    go_enter Tryz.func104, Tryz.ntmps104
    go_wp2
    refine bodyPost_ret (results_row_tmp rfl _ _ _ 64 zeroPol.arr (0, 0) _ rfl (heap_alloc_new w _) Tryz.underlying64 rfl info_pol) rfl ⟨rfl, upd_box _⟩
  · have h1 : (n : Int) ≤ i := by omega
    clear h
    go_enter Tryz.func104, Tryz.ntmps104
    go_wp2
    refine bodyPost_ret (results_row_tmp rfl _ _ _ 64 zeroPol.arr (0, 0) _ rfl (heap_alloc_new w _) Tryz.underlying64 rfl info_pol) rfl ⟨rfl, upd_box _⟩

theorem table_of (a : Option Addr) (ps : List Pol) (n c : Nat) (i : Int) (w : World) (hn : ps.length = n) (hp : PolsAt w a ps) (_hm : n ≤ maxLen) :
    Calls Tryz.prog 104 #[.slice a n c, .int .i64 i] w fun e w' => (e = .returned (.tuple #[.agg ((ps[i.toNat]?).getD zeroPol).arr, .int .i64 0]) ∧ 0 ≤ i ∧ i < n ∨ e = .returned (.tuple #[.agg zeroPol.arr, .int .i64 10]) ∧ ¬ (0 ≤ i ∧ i < n)) ∧ Below w.heap.size w w' := by
  by_cases hi : 0 ≤ i ∧ i < n
  · obtain ⟨k, rfl⟩ := Int.eq_ofNat_of_zero_le hi.1
    have hlk : k < ps.length := by omega
    rcases hp with rfl | ⟨b, off, rfl, hb, hc⟩
    · simp at hlk
    have e1 : ((ps[(k : Int).toNat]?).getD zeroPol) = ps[k] := by simp [hlk]
    rw [e1]
    exact (table_of_in b off ps[k] n c k w (by omega) (hc k hlk)).mono fun e w' ⟨h1, h2⟩ => ⟨.inl ⟨h1, hi⟩, h2⟩
  · exact (table_of_out a n c i w hi).mono fun e w' ⟨h1, h2⟩ => ⟨.inr ⟨h1, hi⟩, h2⟩

set_option maxHeartbeats 4000000 in
theorem equal_pols (a b : Option Addr) (ps qs : List Pol) (n c d : Nat) (w : World) (hn : ps.length = n) (hp : PolsAt w a ps) (hq : PolsAt w b qs) (he : ps.map Pol.arr = qs.map Pol.arr) (hm : n ≤ maxLen) :
    Calls Tryz.prog 51 #[.slice a n c, .slice b n d] w fun e w' => e = .returned (.bool true) ∧ Below w.heap.size w w' := by
  unfold maxLen at hm
  have HN := Lib.hid hn
  have hl : ps.length = qs.length := by simpa using congrArg List.length he
  have HE : Hid (∀ k (h : k < ps.length) (h' : k < qs.length), qs[k].arr = ps[k].arr) := fun k h h' => by
    have := congrArg (fun l : List (Array Value) => l[k]?) he
    simp only [List.getElem?_map] at this
    rw [List.getElem?_eq_getElem h, List.getElem?_eq_getElem h'] at this
    simpa using this.symm
  have HL := Lib.hid hl
  clear hn he hl
  go_enter Tryz.func51, Tryz.ntmps51
  go_wp2
  go_loopw [13] (fun i wr => ∃ k : Nat, k ≤ n ∧ i = .int .i64 k ∧ Aside (Below w.heap.size w wr)) (fun i _ => n - (intOf i).toNat)
  case atStart => exact ⟨0, Nat.zero_le _, rfl, Below.refl _ _⟩
  case round =>
    obtain ⟨k, hk, rfl, HB⟩ := hrel
    by_cases hlt : k < n
    · have hkn : (k : Int) < (n : Int) := by omega
      have hk0 : (0 : Int) ≤ (k : Int) := by omega
      rcases hp with rfl | ⟨b1, o1, rfl, hb1, hc1⟩
      · have := HN.out; simp at this; omega
      rcases hq with rfl | ⟨b2, o2, rfl, hb2, hc2⟩
      · have h8 := HN.out; have h9 := HL.out; rw [List.length_nil] at h9; omega
      have hlk : k < ps.length := by rw [HN.out]; exact hlt
      have hlk' : k < qs.length := by rw [← HL.out]; exact hlk
      have h1 := ((hc1 k hlk).below HB.out hb1).all
      have h2 := (((hc2 k hlk').same (HE.out k hlk hlk')).below HB.out hb2).all
      clear hc1 hc2
      generalize ps[k] = q at *
      obtain ⟨z0, z1, z2, z3, z4, z5, z6, z7, z8, z9, za, zb, zc, zd, ze, zf⟩ := h1
      obtain ⟨y0, y1, y2, y3, y4, y5, y6, y7, y8, y9, ya, yb, yc, yd, ye, yf⟩ := h2
      have hqs := pol_self 9996 q
      unfold Pol.arr at hqs
      have HB2 : Aside (Below w.heap.size w wr.drew) := HB.out.drew
      go_upto_region 6 with (fail)
      as_aux_lemma =>
        go_quiet (fail)
        as_aux_lemma =>
          go_wp2
          go_roundw
          case rel => exact ⟨k + 1, by omega, by go_num, HB.out.trans ⟨rfl, rfl, rfl, Nat.le_refl _, fun _ _ => rfl⟩⟩
          case measure => simp [intOf]; omega
    · obtain rfl : k = n := by omega
      go_wp2
      go_ret
      exact ⟨rfl, HB.out⟩

theorem table_equal (a b : Option Addr) (ps qs : List Pol) (n c d : Nat) (w : World) (hn : ps.length = n) (hp : PolsAt w a ps) (hq : PolsAt w b qs) (he : ps.map Pol.arr = qs.map Pol.arr) (hm : n ≤ maxLen) :
    Calls Tryz.prog 25 #[.slice a n c, .slice b n d] w fun e w' => e = .returned (.bool true) ∧ Below w.heap.size w w' := by
  have H : Aside _ := equal_pols a b ps qs n c d w hn hp hq he hm
  clear hn hp hq he
  go_enter Tryz.func25, Tryz.ntmps25
  go_wp2_with fail
  refine Calls.mono H.out ?_
  rintro e w1 ⟨rfl, b1⟩
  go_wp2
  go_ret
  exact ⟨rfl, b1⟩
end Go.Proofs.YtbiompjhenkieaaGreat
