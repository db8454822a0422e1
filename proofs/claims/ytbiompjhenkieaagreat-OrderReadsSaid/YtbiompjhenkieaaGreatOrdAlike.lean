/-
  Package order: areAlike, and the library's EqualFunc over it. Conditions: those of each theorem.
-/
import Derived.Test.YtbiompjhenkieaaGreatOrdSame
import Derived.Test.YtbiompjhenkieaaGreatLeX
namespace Go.Proofs.YtbiompjhenkieaaGreat
open Go.RowKit
set_option maxRecDepth 100000

theorem sameOrd_parts (x y : Ord) : sameOrd x y = ((x.day == y.day) && (sameBy sameLn x.lines y.lines && ((x.disc == y.disc) && ((x.tax == y.tax) && (x.ship == y.ship))))) := by
  unfold sameOrd sameHead
  generalize (x.day == y.day) = a
  generalize sameBy sameLn x.lines y.lines = b
  generalize (x.disc == y.disc) = c
  generalize (x.tax == y.tax) = d
  generalize (x.ship == y.ship) = e
  cases a <;> cases b <;> cases c <;> cases d <;> cases e <;> rfl

set_option maxHeartbeats 4000000 in
theorem ord_alike (x y : Ord) (a b : Option Addr) (n m c d : Nat) (w : World) (hn : x.lines.length = n) (hm : y.lines.length = m) (hp : LnsAt w a x.lines) (hq : LnsAt w b y.lines) (hnm : n ≤ maxLen) (hmm : m ≤ maxLen) :
    Calls Tryz.prog 23 #[.agg (ordCells x.day a n c x.disc x.tax x.ship), .agg (ordCells y.day b m d y.disc y.tax y.ship)] w fun e w' => e = .returned (.bool (sameOrd x y)) ∧ Below w.heap.size w w' := by
  have HQ := Lib.hid (sameOrd_parts x y)
  have b1 : Below w.heap.size w (w.alloc (.cells (ordCells x.day a n c x.disc x.tax x.ship) 45)) := (Below.refl _ _).alloc (Nat.le_refl _) _
  have b2 : Below w.heap.size w ((w.alloc (.cells (ordCells x.day a n c x.disc x.tax x.ship) 45)).alloc (.cells (ordCells y.day b m d y.disc y.tax y.ship) 45)) := b1.alloc b1.size _
  have b3 : Below (w.alloc (.cells (ordCells x.day a n c x.disc x.tax x.ship) 45)).heap.size (w.alloc (.cells (ordCells x.day a n c x.disc x.tax x.ship) 45)) ((w.alloc (.cells (ordCells x.day a n c x.disc x.tax x.ship) 45)).alloc (.cells (ordCells y.day b m d y.disc y.tax y.ship) 45)) := upd_box _
  have hA := (arr_new w (ordCells x.day a n c x.disc x.tax x.ship) 45).grown b3
  have hB := arr_new (w.alloc (.cells (ordCells x.day a n c x.disc x.tax x.ship) 45)) (ordCells y.day b m d y.disc y.tax y.ship) 45
  rw [show (w.alloc (.cells (ordCells x.day a n c x.disc x.tax x.ship) 45)).heap.size = w.heap.size + 1 by simp] at hB
  have HE : Aside _ := eq_lines a b x.lines y.lines n m c d _ hn hm (LnsAt.below hp b2) (LnsAt.below hq b2) hnm hmm
  have HA : Aside _ := hA
  have HB : Aside _ := hB
  have HW : Aside _ := b2
  clear b1 b2 b3 hA hB hn hm hp hq hnm hmm
  go_enter Tryz.func23, Tryz.ntmps23
  go_upto_region 1 with (fail)
  show Code.wp _ _ _ _ ((w.alloc (.cells (ordCells x.day a n c x.disc x.tax x.ship) 45)).alloc (.cells (ordCells y.day b m d y.disc y.tax y.ship) 45))
  generalize (w.alloc (.cells (ordCells x.day a n c x.disc x.tax x.ship) 45)).alloc (.cells (ordCells y.day b m d y.disc y.tax y.ship) 45) = w1 at *
  obtain ⟨y0, y1, y2, y3, y4⟩ := ordAt_all HA.out
  obtain ⟨z0, z1, z2, z3, z4⟩ := ordAt_all HB.out
  simp only [Nat.zero_add] at y1 y2 y3 y4 z1 z2 z3 z4
  obtain ⟨q1, e1⟩ : ∃ q, (x.day == y.day) = q := ⟨_, rfl⟩
  obtain ⟨q2, e2⟩ : ∃ q, sameBy sameLn x.lines y.lines = q := ⟨_, rfl⟩
  obtain ⟨q3, e3⟩ : ∃ q, (x.disc == y.disc) = q := ⟨_, rfl⟩
  obtain ⟨q4, e4⟩ : ∃ q, (x.tax == y.tax) = q := ⟨_, rfl⟩
  obtain ⟨q5, e5⟩ : ∃ q, (x.ship == y.ship) = q := ⟨_, rfl⟩
  rw [e1, e2, e3, e4, e5] at HQ
  rw [e2] at HE
  clear e2
  cases q1 with
  | false =>
    go_wp2
    go_ret
    exact ⟨by rw [HQ.out]; rfl, HW.out⟩
  | true =>
  go_wp2_with fail
  refine (Calls.mono HE.out ?_)
  rintro e w2 ⟨rfl, b2⟩
  have HW2 : Aside (Below w.heap.size w w2) := HW.out.trans (b2.mono HW.out.size)
  have HA2 : Aside _ := HA.out.grown b2
  have HB2 : Aside _ := HB.out.grown b2
  clear y0 y1 y2 y3 y4 z0 z1 z2 z3 z4 HE HW HA HB b2 e1
  obtain ⟨y0, y1, y2, y3, y4⟩ := ordAt_all HA2.out
  obtain ⟨z0, z1, z2, z3, z4⟩ := ordAt_all HB2.out
  simp only [Nat.zero_add] at y1 y2 y3 y4 z1 z2 z3 z4
  cases q2 with
  | false =>
    go_wp2
    go_ret
    exact ⟨by rw [HQ.out]; rfl, HW2.out⟩
  | true =>
  cases q3 with
  | false =>
    go_wp2
    go_ret
    exact ⟨by rw [HQ.out]; rfl, HW2.out⟩
  | true =>
  cases q4 with
  | false =>
    go_wp2
    go_ret
    exact ⟨by rw [HQ.out]; rfl, HW2.out⟩
  | true =>
  cases q5 with
  | false =>
    go_wp2
    go_ret
    exact ⟨by rw [HQ.out]; rfl, HW2.out⟩
  | true =>
    go_wp2
    go_ret
    exact ⟨by rw [HQ.out]; rfl, HW2.out⟩

set_option maxHeartbeats 4000000 in
theorem eq_orders (a b : Option Addr) (xs ys : List Ord) (n m c d : Nat) (w : World) (hn : xs.length = n) (hm : ys.length = m) (hp : OrdsAt w a xs) (hq : OrdsAt w b ys) (hnm : n ≤ maxLen) (hmm : m ≤ maxLen) :
    Calls Tryz.prog 22 #[.slice a n c, .slice b m d, .func (.func 23) #[] #[]] w fun e w' => e = .returned (.bool (sameBy sameOrd xs ys)) ∧ Below w.heap.size w w' := by
  unfold maxLen at hnm hmm
  by_cases he : n = m
  · subst he
    have HN := Lib.hid hn
    have HM := Lib.hid hm
    clear hn hm
    go_enter Tryz.func22, Tryz.ntmps22
    go_wp2
    go_loopw [17] (fun i wr => ∃ k : Nat, k ≤ n ∧ i = .int .i64 k ∧ Aside (Below w.heap.size w wr) ∧ Hid (∀ j (_ : j < k) (h1 : j < xs.length) (h2 : j < ys.length), sameOrd xs[j] ys[j] = true)) (fun i _ => n - (intOf i).toNat)
    case atStart => exact ⟨0, Nat.zero_le _, rfl, Below.refl _ _, fun j h => absurd h (Nat.not_lt_zero _)⟩
    case round =>
      obtain ⟨k, hk, rfl, HB, HK⟩ := hrel
      by_cases hlt : k < n
      · have hkn : (k : Int) < (n : Int) := by omega
        have hk0 : (0 : Int) ≤ (k : Int) := by omega
        rcases hp with rfl | ⟨b1, o1, rfl, hb1, hc1⟩
        · have := HN.out; simp at this; omega
        rcases hq with rfl | ⟨b2, o2, rfl, hb2, hc2⟩
        · have := HM.out; simp at this; omega
        have hlk : k < xs.length := by rw [HN.out]; exact hlt
        have hlk' : k < ys.length := by rw [HM.out]; exact hlt
        obtain ⟨a1, n1, c1, hA1, h12, h13, h14, h15⟩ := hc1 k hlk
        obtain ⟨a2, n2, c2, hA2, h22, h23, h24, h25⟩ := hc2 k hlk'
        have HF : Hid (sameOrd xs[k] ys[k] = false → sameBy sameOrd xs ys = false) := fun e => sameBy_at hlk hlk' e
        have HT : Hid (sameOrd xs[k] ys[k] = true → ∀ j (_ : j < k + 1) (h1 : j < xs.length) (h2 : j < ys.length), sameOrd xs[j] ys[j] = true) := fun e j hj h1 h2 => by
          by_cases h : j = k
          · subst h; exact e
          · exact HK.out j (by omega) h1 h2
        have HAL : Aside (∀ W, Below w.heap.size w W → Calls Tryz.prog 23 #[.agg (ordCells xs[k].day a1 n1 c1 xs[k].disc xs[k].tax xs[k].ship), .agg (ordCells ys[k].day a2 n2 c2 ys[k].disc ys[k].tax ys[k].ship)] W fun e w' => e = .returned (.bool (sameOrd xs[k] ys[k])) ∧ Below W.heap.size W w') := fun W h =>
          ord_alike xs[k] ys[k] a1 a2 n1 n2 c1 c2 W h12 h22 (LnsAt.below h15 h) (LnsAt.below h25 h) (Nat.le_trans h13 h14) (Nat.le_trans h23 h24)
        have HY1 : Aside _ := hA1.below HB.out hb1
        have HY2 : Aside _ := hA2.below HB.out hb2
        clear hc1 hc2 HK hA1 hA2 h12 h13 h14 h15 h22 h23 h24 h25
        generalize xs[k] = p at *
        generalize ys[k] = q at *
        generalize sameOrd p q = v at *
        obtain ⟨z0, z1, z2, z3, z4⟩ := ordAt_all HY1.out
        have b3 : Below wr.heap.size wr (wr.alloc (.cells (ordCells p.day a1 n1 c1 p.disc p.tax p.ship) 45)) := upd_box _
        have HP1 : Aside (ArrAt (wr.alloc (.cells (ordCells p.day a1 n1 c1 p.disc p.tax p.ship) 45)) wr.heap.size 0 (ordCells p.day a1 n1 c1 p.disc p.tax p.ship)) := arr_new wr _ _
        have HY3 : Aside _ := HY2.out.grown b3
        have HB1 : Aside (Below w.heap.size w (wr.alloc (.cells (ordCells p.day a1 n1 c1 p.disc p.tax p.ship) 45))) := HB.out.alloc HB.out.size _
        clear b3
        go_upto_region 6 with (fail)
        show Code.wp _ _ _ _ (wr.alloc (.cells (ordCells p.day a1 n1 c1 p.disc p.tax p.ship) 45))
        clear z0 z1 z2 z3 z4 HY1 HY2 HB
        generalize wr.alloc (.cells (ordCells p.day a1 n1 c1 p.disc p.tax p.ship) 45) = w1 at *
        generalize wr.heap.size = g1 at *
        obtain ⟨z0, z1, z2, z3, z4⟩ := ordAt_all HY3.out
        have b3 : Below w1.heap.size w1 (w1.alloc (.cells (ordCells q.day a2 n2 c2 q.disc q.tax q.ship) 45)) := upd_box _
        have HP2 : Aside (ArrAt (w1.alloc (.cells (ordCells q.day a2 n2 c2 q.disc q.tax q.ship) 45)) w1.heap.size 0 (ordCells q.day a2 n2 c2 q.disc q.tax q.ship)) := arr_new w1 _ _
        have HP3 : Aside _ := HP1.out.grown b3
        have HB2 : Aside (Below w.heap.size w (w1.alloc (.cells (ordCells q.day a2 n2 c2 q.disc q.tax q.ship) 45))) := HB1.out.alloc HB1.out.size _
        clear b3
        go_upto_region 7 with (fail)
        show Code.wp _ _ _ _ (w1.alloc (.cells (ordCells q.day a2 n2 c2 q.disc q.tax q.ship) 45))
        clear z0 z1 z2 z3 z4 HY3 HB1 HP1
        generalize w1.alloc (.cells (ordCells q.day a2 n2 c2 q.disc q.tax q.ship) 45) = w2 at *
        generalize w1.heap.size = g2 at *
        obtain ⟨y0, y1, y2, y3, y4⟩ := ordAt_all HP3.out
        obtain ⟨z0, z1, z2, z3, z4⟩ := ordAt_all HP2.out
        simp only [Nat.zero_add] at y1 y2 y3 y4 z1 z2 z3 z4
        have HC : Aside _ := HAL.out w2 HB2.out
        go_wp2_with fail
        refine (Calls.mono HC.out ?_)
        rintro e w3 ⟨rfl, b4⟩
        have HB3 : Aside (Below w.heap.size w w3) := HB2.out.trans (b4.mono HB2.out.size)
        clear y0 y1 y2 y3 y4 z0 z1 z2 z3 z4 HC HAL HB2 HP2 HP3 b4
        cases v with
        | false =>
          have HX := Lib.hid (HF.out rfl)
          clear HF HT
          go_wp2
          go_ret
          exact ⟨by rw [HX.out]; rfl, HB3.out⟩
        | true =>
          have HX := Lib.hid (HT.out rfl)
          clear HF HT
          go_wp2
          go_roundw
          case rel => exact ⟨k + 1, by omega, by go_num, HB3.out, HX.out⟩
          case measure => simp [intOf]; omega
      · obtain rfl : k = n := by omega
        have HX : Hid (sameBy sameOrd xs ys = true) := sameBy_all (by rw [HN.out, HM.out]) (fun j h1 h2 => HK.out j (by have := HN.out; omega) h1 h2)
        go_wp2
        go_ret
        exact ⟨by rw [HX.out]; rfl, HB.out⟩
  · have hne : ((n : Int) != (m : Int)) = true := by simp; omega
    have HX : Hid (sameBy sameOrd xs ys = false) := sameBy_len (by omega)
    clear hn hm hp hq he
    go_enter Tryz.func22, Tryz.ntmps22
    go_wp2
    go_ret
    exact ⟨by rw [HX.out]; rfl, Below.refl _ _⟩
end Go.Proofs.YtbiompjhenkieaaGreat
