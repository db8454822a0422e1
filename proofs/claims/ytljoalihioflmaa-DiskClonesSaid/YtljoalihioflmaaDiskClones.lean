/-
  DiskClones: what is done to a clone changes nothing of the disk. No conditions: every input.
-/
import Derived.Test.YtljoalihioflmaaDiskPlays
import Derived.Test.YtljoalihioflmaaDiskI
namespace Go.Proofs.Ytljoalihioflmaa
open Go.RowKit Go.WideShapes
set_option maxRecDepth 100000

set_option maxHeartbeats 800000 in
theorem clones_far (cap : Int) (a : Option Addr) (xs : List Av) (n c : Nat) (a2 : Option Addr) (ys : List Av) (m c2 : Nat) (w : World) (hn : xs.length = n) (hx : Acts w a xs) (hm : n ≤ maxLen) (hn2 : ys.length = m) (hx2 : Acts w a2 ys) (hm2 : m ≤ maxLen) (hc : cap < 0 ∨ 1048576 < cap) :
    Calls Try.prog 4 #[.int .i64 cap, .slice a n c, .slice a2 m c2] w fun e w' => e = .returned (.bool true) ∧ Below w.heap.size w w' := by
  have HC := Lib.hid hc
  clear hc
  go_enter Try.func4, Try.ntmps4
  go_wp2_with fail
  refine (awake_any _).mono ?_
  rintro e w1 ⟨rfl, b1⟩
  go_wp2_with fail
  refine (few_some a xs n c 30 w w1 hn hx hm b1).mono ?_
  rintro e w2 ⟨v, rfl, rfl⟩
  cases v
  · go_wp2_with fail
    refine (awake_any _).mono ?_
    rintro e w2 ⟨rfl, b2⟩
    go_wp2
    go_ret
    exact ⟨rfl, b1.trans (b2.mono b1.size)⟩
  · go_wp2_with fail
    refine (few_some a2 ys m c2 30 w w1 hn2 hx2 hm2 b1).mono ?_
    rintro e w2 ⟨v, rfl, rfl⟩
    cases v
    · go_wp2_with fail
      refine (awake_any _).mono ?_
      rintro e w2 ⟨rfl, b2⟩
      go_wp2
      go_ret
      exact ⟨rfl, b1.trans (b2.mono b1.size)⟩
    · by_cases h0 : cap < 0
      · go_wp2_with fail
        refine (awake_any _).mono ?_
        rintro e w2 ⟨rfl, b2⟩
        go_wp2
        go_ret
        exact ⟨rfl, b1.trans (b2.mono b1.size)⟩
      · have h1 : 1048576 < cap := by have := HC.out; omega
        go_wp2_with fail
        refine (awake_any _).mono ?_
        rintro e w2 ⟨rfl, b2⟩
        go_wp2
        go_ret
        exact ⟨rfl, b1.trans (b2.mono b1.size)⟩

set_option maxHeartbeats 4000000 in
theorem clones_near (cap : Nat) (a : Option Addr) (xs : List Av) (n c : Nat) (a2 : Option Addr) (zs : List Av) (m c2 : Nat) (w : World) (hn : xs.length = n) (hx : Acts w a xs) (hm : n ≤ maxLen) (hn2 : zs.length = m) (hx2 : Acts w a2 zs) (hm2 : m ≤ maxLen) (hc : cap ≤ 1048576) :
    Calls Try.prog 4 #[.int .i64 cap, .slice a n c, .slice a2 m c2] w fun e w' => e = .returned (.bool true) ∧ Below w.heap.size w w' := by
  have hc0 : (0 : Int) ≤ cap := by omega
  have hc1 : ¬ (1048576 : Int) < cap := by omega
  have HN := Lib.hid hn
  have HN2 := Lib.hid hn2
  go_enter Try.func4, Try.ntmps4
  go_wp2_with fail
  refine (awake_any _).mono ?_
  rintro e w1 ⟨rfl, b1⟩
  go_wp2_with fail
  refine (few_some a xs n c 30 w w1 hn hx hm b1).mono ?_
  rintro e w2 ⟨v, rfl, rfl⟩
  cases v
  · go_wp2_with fail
    refine (awake_any _).mono ?_
    rintro e w2 ⟨rfl, b2⟩
    go_wp2
    go_ret
    exact ⟨rfl, b1.trans (b2.mono b1.size)⟩
  · go_wp2_with fail
    refine (few_some a2 zs m c2 30 w w1 hn2 hx2 hm2 b1).mono ?_
    rintro e w2 ⟨v, rfl, rfl⟩
    clear hn hn2
    unfold maxLen at hm hm2
    cases v
    · go_wp2_with fail
      refine (awake_any _).mono ?_
      rintro e w2 ⟨rfl, b2⟩
      go_wp2
      go_ret
      exact ⟨rfl, b1.trans (b2.mono b1.size)⟩
    · go_wp2_with fail
      refine (new_in cap w1 hc).mono ?_
      rintro e w2 ⟨rfl, ⟨V2, h2⟩, b2, s2⟩
      have hs2 := Lib.hid s2
      clear s2
      have B2 : Below w.heap.size w w2 := b1.trans (b2.mono b1.size)
      go_wp2_with fail
      refine (rnew_in cap w2 hc).mono ?_
      rintro e w3 ⟨rfl, ⟨U3, r3⟩, b3, s3⟩
      have hs3 := Lib.hid s3
      clear s3
      have B3 : Below w.heap.size w w3 := B2.trans (b3.mono B2.size)
      have h3 := h2.below b3
      have P3 : Pair w w3 w1.heap.size w2.heap.size (DM.new cap) := by
        refine ⟨B3, _, V2, _, U3, h3, r3, fun k hk => ?_, fun k hk => ?_, fun k hk ht => ?_⟩
        · have h9 : k = w1.heap.size := hk
          have := b1.size; omega
        · have h9 : k = w2.heap.size := hk
          have := B2.size; omega
        · have h8 : k = w1.heap.size := hk
          have h9 : k = w2.heap.size := ht
          have := hs2.out; omega
      clear h2 h3 r3 b2 b3 B3 hs3
      go_wp2_with fail
      go_loopw [10, 11, 44] (fun _ _ i wr => ∃ k : Nat, k ≤ n ∧ i = .int .i64 k ∧ ∃ D, Pair w wr w1.heap.size w2.heap.size D) (fun _ _ i _ => n - (intOf i).toNat)
      case atStart => exact ⟨0, Nat.zero_le _, rfl, _, P3⟩
      case round =>
        clear P3
        obtain ⟨k, hk, rfl, D, hB, S, V, T, U, hd, hr, hS, hT, hST⟩ := hrel
        by_cases hlt2 : k < n
        · rcases hx with h0 | ⟨b, off, rfl, hb, hi⟩
          · have := HN.out; rw [h0] at this; simp at this; omega
          have hlk : k < xs.length := by rw [HN.out]; exact hlt2
          obtain ⟨ad, cc, hit⟩ := hi k hlk
          have hcs := Acts.cell hit hb hB
          generalize xs[k] = x at *
          have hkk := hit.act.kind
          have hbb := hit.act.b64.2
          have hfit := hit.act.fit
          have hnil := hit.act.nil
          have hby := hit.act.bytes
          have hkeep := keep_in hit.act
          have hlo := hit.act.bytes.lt
          obtain ⟨kd, A, Bn, ys, k0, k1, k2, k3, k4, k5, k6, k7⟩ := x
          simp only [Av.arr] at hcs hkk hbb hfit hnil hby hkeep hlo
          clear hi hit
          have HK := Lib.hid hkeep
          have HBY := Lib.hid hby
          have HLO := Lib.hid hlo
          have hk0 : (0 : Int) ≤ (k : Int) := by omega
          have hkn : (k : Int) < (n : Int) := by omega
          have A0 : Below wr.heap.size wr (wr.alloc (.cells #[.int .u8 kd, .int .i64 A, .int .i64 Bn, .slice ad ys.length cc, .int .i64 k0, .int .i64 k1, .int .i64 k2, .int .i64 k3, .int .i64 k4, .int .i64 k5, .int .i64 k6, .int .i64 k7] 34)) := (Below.refl _ _).alloc (Nat.le_refl _) _
          have hblk := heap_alloc_new wr (.cells #[.int .u8 kd, .int .i64 A, .int .i64 Bn, .slice ad ys.length cc, .int .i64 k0, .int .i64 k1, .int .i64 k2, .int .i64 k3, .int .i64 k4, .int .i64 k5, .int .i64 k6, .int .i64 k7] 34)
          have hsz : wr.heap.size < (wr.alloc (.cells #[.int .u8 kd, .int .i64 A, .int .i64 Bn, .slice ad ys.length cc, .int .i64 k0, .int .i64 k1, .int .i64 k2, .int .i64 k3, .int .i64 k4, .int .i64 k5, .int .i64 k6, .int .i64 k7] 34)).heap.size := by simp
          have HBK := Lib.hid hblk
          clear hkeep hby hlo hblk
          go_wp2_with (refine wpList_load_cells rfl 34 _ rfl b (off + k * 12) rfl #[.int .u8 kd, .int .i64 A, .int .i64 Bn, .slice ad ys.length cc, .int .i64 k0, .int .i64 k1, .int .i64 k2, .int .i64 k3, .int .i64 k4, .int .i64 k5, .int .i64 k6, .int .i64 k7] _ hcs Try.underlying34 rfl info_act12 ?_)
          have BA : Below w.heap.size w (wr.alloc (.cells #[.int .u8 kd, .int .i64 A, .int .i64 Bn, .slice ad ys.length cc, .int .i64 k0, .int .i64 k1, .int .i64 k2, .int .i64 k3, .int .i64 k4, .int .i64 k5, .int .i64 k6, .int .i64 k7] 34)) := hB.trans (A0.mono hB.size)
          have hdA := hd.below A0
          have hrA := hr.below' A0
          have hqS : ¬ S wr.heap.size := fun h => by have := hd.lt _ h; omega
          have hqT : ¬ T wr.heap.size := fun h => by have := hr.lt _ h; omega
          generalize wr.alloc (.cells #[.int .u8 kd, .int .i64 A, .int .i64 Bn, .slice ad ys.length cc, .int .i64 k0, .int .i64 k1, .int .i64 k2, .int .i64 k3, .int .i64 k4, .int .i64 k5, .int .i64 k6, .int .i64 k7] 34) = W at *
          have hby : IsBytes W ad ys := HBY.out.upd (below_upd (fun _ => False) BA) (fun _ _ _ h => h)
          refine (do_in hdA kd A Bn ad ys cc k0 k1 k2 k3 k4 k5 k6 k7 hkk.1 hbb hfit.1 hfit.2 hby hnil (fun h0 x e hs => by have := HLO.out h0 x e; have := hS _ hs; omega)).mono ?_
          rintro e w4 ⟨rfl, S4, V4, h4, u4', m4⟩
          have B4 : Below w.heap.size w w4 := BA.trans (toB u4' BA.size hS)
          have r4 := hrA.upd u4' (fun j hj hs => hST j hs hj)
          have hS4 : ∀ j, S4 j → w.heap.size ≤ j := fun j hj => (m4 j hj).elim (hS j) (fun h => Nat.le_trans BA.size h.1)
          have hST4 : ∀ j, S4 j → ¬ T j := fun j hj ht => by
            rcases m4 j hj with h | h
            · exact hST j h ht
            · have := hrA.lt j ht; omega
          have hq4 : w4.heap[wr.heap.size]? = some (.cells #[.int .u8 kd, .int .i64 A, .int .i64 Bn, .slice ad ys.length cc, .int .i64 k0, .int .i64 k1, .int .i64 k2, .int .i64 k3, .int .i64 k4, .int .i64 k5, .int .i64 k6, .int .i64 k7] 34 (0, 0)) := (u4'.block _ hsz hqS).trans HBK.out
          have x0 : w4.cell? ⟨wr.heap.size, 0, none⟩ = some (.int .u8 kd) := cell_of_row w4 _ 0 _ _ _ hq4
          have HQ4 := Lib.hid hq4
          clear hq4 hby hdA hrA hd hr hcs
          by_cases h5 : kd ≤ 5
          · rw [DM.does_le h5] at h4 ⊢
            have h5' : ¬ (5 : Int) < kd := by omega
            have x1 : w4.cell? ⟨wr.heap.size, 1, none⟩ = some (.int .i64 A) := cell_of_row w4 _ 1 _ _ _ HQ4.out
            have x2 : w4.cell? ⟨wr.heap.size, 2, none⟩ = some (.int .i64 Bn) := cell_of_row w4 _ 2 _ _ _ HQ4.out
            have x3 : w4.cell? ⟨wr.heap.size, 3, none⟩ = some (.slice ad ys.length cc) := cell_of_row w4 _ 3 _ _ _ HQ4.out
            have hk9 := hkk.2
            have hk8 := hkk.1
            go_wp2_with fail
            have hby4 : IsBytes w4 ad ys := HBY.out.upd (below_upd (fun _ => False) B4) (fun _ _ _ h => h)
            refine (ract r4 kd A Bn ad ys cc hkk.1 h5 hbb hfit.1 hfit.2 hby4 hnil (fun h0 x e hs => by have := HLO.out h0 x e; have := hT _ hs; omega)).mono ?_
            rintro e w5 ⟨rfl, T5, U5, r5, u5', m5⟩
            have B5 : Below w.heap.size w w5 := B4.trans (toB u5' B4.size hT)
            have h5d := h4.upd u5' (fun j hj ht => hST4 j hj ht)
            have hT5 : ∀ j, T5 j → w.heap.size ≤ j := fun j hj => (m5 j hj).elim (hT j) (fun h => Nat.le_trans B4.size h.1)
            have hST5 : ∀ j, S4 j → ¬ T5 j := fun j hj ht => by
              rcases m5 j ht with h | h
              · exact hST4 j hj h
              · have := h4.lt j hj; omega
            generalize (D.act kd A Bn ys).2 = D5 at *
            have P6 : Pair w w5 w1.heap.size w2.heap.size D5 := ⟨B5, S4, V4, T5, U5, h5d, r5, hS4, hT5, hST5⟩
            clear hby4 h5d r5
            go_wp2
            go_roundw
            case rel => exact ⟨k + 1, by omega, by go_num, D5, P6⟩
            case measure => simp [intOf]; omega
          · rw [DM.does_gt h5] at h4 ⊢
            have h5' : (5 : Int) < kd := by omega
            have hcs8 : ∀ j v, (#[.int .i64 k0, .int .i64 k1, .int .i64 k2, .int .i64 k3, .int .i64 k4, .int .i64 k5, .int .i64 k6, .int .i64 k7] : Array Value)[j]? = some v → w4.cell? ⟨wr.heap.size, 4 + j, none⟩ = some v := by
              intro j v hj
              rw [cell_of_row w4 _ (4 + j) _ _ _ HQ4.out]
              match j, hj with
              | 0, hj => exact hj
              | 1, hj => exact hj
              | 2, hj => exact hj
              | 3, hj => exact hj
              | 4, hj => exact hj
              | 5, hj => exact hj
              | 6, hj => exact hj
              | 7, hj => exact hj
              | j + 8, hj => simp at hj
            go_wp2_with (refine wpList_load_cells rfl 32 _ rfl wr.heap.size 4 rfl #[.int .i64 k0, .int .i64 k1, .int .i64 k2, .int .i64 k3, .int .i64 k4, .int .i64 k5, .int .i64 k6, .int .i64 k7] _ hcs8 Try.underlying32 rfl info_keep8 ?_)
            refine (rrestart_in r4 k0 k1 k2 k3 k4 k5 k6 k7 HK.out).mono ?_
            rintro e w5 ⟨rfl, ⟨U5, T5, r5, m5⟩, u5'⟩
            have B5 : Below w.heap.size w w5 := B4.trans (toB u5' B4.size hT)
            have h5d := h4.upd u5' (fun j hj ht => hST4 j hj ht)
            have hT5 : ∀ j, T5 j → w.heap.size ≤ j := fun j hj => (m5 j hj).elim (hT j) (fun h => Nat.le_trans B4.size h.1)
            have hST5 : ∀ j, S4 j → ¬ T5 j := fun j hj ht => by
              rcases m5 j ht with h | h
              · exact hST4 j hj h
              · have := h4.lt j hj; omega
            generalize D.restart (kp k0 k1 k2 k3 k4 k5 k6 k7) = D5 at *
            have P6 : Pair w w5 w1.heap.size w2.heap.size D5 := ⟨B5, S4, V4, T5, U5, h5d, r5, hS4, hT5, hST5⟩
            clear hcs8 h5d r5
            go_wp2
            go_roundw
            case rel => exact ⟨k + 1, by omega, by go_num, D5, P6⟩
            case measure => simp [intOf]; omega
        · obtain rfl : k = n := by omega
          clear hx
          rename World => wc
          go_wp2_with fail
          refine (clone_in hd).mono ?_
          rintro e w4 ⟨rfl, ⟨SX, VX, hX, hSX⟩, b4⟩
          have B4 : Below w.heap.size w w4 := hB.trans (b4.mono hB.size)
          have hr4 := hr.below' b4
          go_wp2_with fail
          refine (same_in hX hr4).mono ?_
          rintro e w5 ⟨rfl, b5⟩
          have hX5 := hX.below b5
          have b45 : Below wc.heap.size wc w5 := b4.trans (b5.mono b4.size)
          clear hX hr4 b4 b5 B4
          go_wp2_with fail
          go_loopw [13, 81] (fun _ i wq => ∃ j : Nat, j ≤ m ∧ i = .int .i64 j ∧ Below wc.heap.size wc wq ∧ ∃ SX VX DX, DiskAt wq wc.heap.size SX VX DX ∧ ∀ l, SX l → wc.heap.size ≤ l) (fun _ i _ => m - (intOf i).toNat)
          case atStart => exact ⟨0, Nat.zero_le _, rfl, b45, SX, VX, D, hX5, hSX⟩
          case round =>
            clear hX5 hSX b45
            obtain ⟨j, hj, rfl, hbq, SX, VX, DX, hX, hSX⟩ := hrel
            have hBq : Below w.heap.size w wr := hB.trans (hbq.mono hB.size)
            by_cases hlt3 : j < m
            · rcases hx2 with h0 | ⟨b, off, rfl, hb, hi⟩
              · have := HN2.out; rw [h0] at this; simp at this; omega
              have hlk : j < zs.length := by rw [HN2.out]; exact hlt3
              obtain ⟨ad, cc, hit⟩ := hi j hlk
              have hcs := Acts.cell hit hb hBq
              generalize zs[j] = x at *
              have hkk := hit.act.kind
              have hbb := hit.act.b64.2
              have hfit := hit.act.fit
              have hnil := hit.act.nil
              have hby := hit.act.bytes.upd (below_upd (fun _ => False) hBq) (fun _ _ _ h => h)
              have hlo := hit.act.bytes.lt
              obtain ⟨kd, A, Bn, ys, k0, k1, k2, k3, k4, k5, k6, k7⟩ := x
              simp only [Av.arr] at hcs hkk hbb hfit hnil hby hlo
              clear hi hit
              have HLO := Lib.hid hlo
              have hj0 : (0 : Int) ≤ (j : Int) := by omega
              have hjm : (j : Int) < (m : Int) := by omega
              clear hlo
              go_wp2_with (refine wpList_load_cells rfl 34 _ rfl b (off + j * 12) rfl #[.int .u8 kd, .int .i64 A, .int .i64 Bn, .slice ad ys.length cc, .int .i64 k0, .int .i64 k1, .int .i64 k2, .int .i64 k3, .int .i64 k4, .int .i64 k5, .int .i64 k6, .int .i64 k7] _ hcs Try.underlying34 rfl info_act12 ?_)
              refine (do_in hX kd A Bn ad ys cc k0 k1 k2 k3 k4 k5 k6 k7 hkk.1 hbb hfit.1 hfit.2 hby hnil (fun h0 x e hs => by have := HLO.out h0 x e; have := hSX _ hs; have := hB.size; omega)).mono ?_
              rintro e w6 ⟨rfl, S6, V6, h6, u6', m6⟩
              have b6 : Below wc.heap.size wc w6 := hbq.trans (toB u6' hbq.size hSX)
              have hS6 : ∀ l, S6 l → wc.heap.size ≤ l := fun l hl => (m6 l hl).elim (hSX l) (fun h => Nat.le_trans hbq.size h.1)
              generalize (DX.does kd A Bn ys (kp k0 k1 k2 k3 k4 k5 k6 k7)).1 = z at *
              generalize (DX.does kd A Bn ys (kp k0 k1 k2 k3 k4 k5 k6 k7)).2 = D6 at *
              clear hcs hby
              go_wp2
              go_roundw
              case rel => exact ⟨j + 1, by omega, by go_num, b6, S6, V6, D6, h6, hS6⟩
              case measure => simp [intOf]; omega
            · obtain rfl : j = m := by omega
              have hd9 := hd.below hbq
              have hr9 := hr.below' hbq
              go_wp2_with fail
              refine (same_in hd9 hr9).mono ?_
              rintro e w7 ⟨rfl, b7⟩
              have B7 := hBq.trans (b7.mono hBq.size)
              go_wp2
              go_ret
              exact ⟨rfl, B7⟩

theorem clones_contract (W : World) (args : Array Value) (h : Each Try.prog W Try.f4.params.toList args.toList) :
    Calls Try.prog 4 args W fun e W' => e = .returned (.bool true) ∧ Below W.heap.size W W' := by
  rw [Try.params4] at h
  obtain ⟨v0, r0, e0, ⟨_, o0⟩, d0, h⟩ := h.cons
  obtain ⟨v1, r1, rfl, ⟨_, o1⟩, d1, h⟩ := h.cons
  obtain ⟨v2, r2, rfl, ⟨_, o2⟩, d2, h⟩ := h.cons
  obtain rfl := h.nil
  obtain ⟨args⟩ := args
  obtain rfl : args = [v0, v1, v2] := e0
  obtain ⟨cap, rfl, hcap⟩ := val_int o0 d0 Try.underlying3
  obtain ⟨a, n, c, rfl, hc1⟩ := val_slice o1 Try.underlying22
  obtain ⟨a2, m, c2, rfl, hc2⟩ := val_slice o2 Try.underlying22
  rw [hc1] at d1
  rw [hc2] at d2
  obtain ⟨xs, hn, hx, hm⟩ := acts_of d1
  obtain ⟨zs, hn2, hx2, hm2⟩ := acts_of d2
  by_cases hc : cap < 0 ∨ 1048576 < cap
  · exact clones_far cap a xs n c a2 zs m c2 W hn hx hm hn2 hx2 hm2 hc
  · obtain ⟨k, rfl⟩ := Int.eq_ofNat_of_zero_le (show 0 ≤ cap by omega)
    exact clones_near k a xs n c a2 zs m c2 W hn hx hm hn2 hx2 hm2 (by omega)

theorem clones_lifted (os : Os) (started : os.Started) (H : Type) (enc : TypeId × Value → H) :
    ReturnsInHanded {} Try.checked os 4 .any (Rows.diskClonesSpec.pre6 enc Try.prog Try.f4 Rows.diskClonesRow.domain false) (Rows.diskClonesSpec.post enc Try.prog Try.f4 false true false false) :=
  law_lifted (C := Try.checked) plays_own plays_laidOut (by kernel_rfl) Try.func4 rfl (tb := 4) rfl Try.underlying4
    (by rw [Try.params4]; intro t ht; simp at ht; rcases ht with rfl | rfl | rfl <;> exact ⟨by kernel_rfl, of_decide_eq_true (by kernel_rfl)⟩)
    (fun H ds hl => by
      rw [Try.params4] at hl
      match ds, hl with
      | [d1, d2, d3], _ => rfl)
    os started H enc
    (ChangeSpec.witness6 (enc := enc) (C := Try.checked) false ⟨#[], #[.int .i64 0, .slice none 0 0, .slice none 0 0], []⟩ 8 (by kernel_rfl) (by kernel_rfl) (by kernel_rfl) (by kernel_rfl))
    clones_contract

theorem diskClones_holds : Rows.DiskClonesSaid :=
  OpenClaim.holds_of_wide 4 Try.f4 rfl rfl rfl rfl rfl rfl rfl ⟨rfl, rfl, rfl, rfl, rfl⟩ rfl rfl rfl rfl rfl (by kernel_rfl) Try.func4 (by kernel_rfl)
    (of_decide_eq_true (by kernel_rfl)) (by unfold Func.isWrapper; first | (rw [if_pos (by decide +kernel)]; kernel_rfl) | (rw [if_neg (by decide +kernel)]; exact ⟨rfl, rfl⟩))
    (fun os started H enc _ => clones_lifted os started H enc)
#print axioms diskClones_holds
end Go.Proofs.Ytljoalihioflmaa
