/-
  The law TimerOnce of layer 12 returns true whatever its arguments are, and leaves them as they were. No condition.
-/
import Derived.Test.YtoeiliaaidmmkaaTimOnce
import Derived.Test.YtoeiliaaidmmkaaTimSame
import Derived.StillTailTactics
namespace Go.Proofs.Ytoeiliaaidmmkaa
open Go.RowKit
set_option maxRecDepth 100000

theorem timerOnce_many (a b : Option Addr) (n r ca cb : Nat) (w : World) (h : 60 < n) : Calls Try.prog 4 #[.slice a n ca, .slice b r cb] w fun e w' => e = .returned (.bool true) ∧ Below w.heap.size w w' := by
  have h1 : (60 : Int) < (n : Int) := by omega
  go_enter Try.func4, Try.ntmps4
  go_wp2_with fail
  refine Calls.mono (tim_awake _) ?_
  rintro e w1 ⟨rfl, b1⟩
  go_wp2_with fail
  refine Calls.mono (tim_awake _) ?_
  rintro e w2 ⟨rfl, b2⟩
  go_wp2
  go_ret
  exact ⟨rfl, b1.trans (b2.mono b1.size)⟩
theorem timerOnce_long (a b : Option Addr) (n r ca cb : Nat) (w : World) (h : n ≤ 60) (hr : 60 < r) : Calls Try.prog 4 #[.slice a n ca, .slice b r cb] w fun e w' => e = .returned (.bool true) ∧ Below w.heap.size w w' := by
  have h1 : ¬ (60 : Int) < (n : Int) := by omega
  have h2 : (60 : Int) < (r : Int) := by omega
  go_enter Try.func4, Try.ntmps4
  go_wp2_with fail
  refine Calls.mono (tim_awake _) ?_
  rintro e w1 ⟨rfl, b1⟩
  go_wp2_with fail
  refine Calls.mono (tim_awake _) ?_
  rintro e w2 ⟨rfl, b2⟩
  go_wp2
  go_ret
  exact ⟨rfl, b1.trans (b2.mono b1.size)⟩

theorem drew_below (w : World) : Below w.heap.size w w.drew := ⟨rfl, rfl, rfl, Nat.le_refl _, fun _ _ => rfl⟩

set_option maxHeartbeats 16000000 in
theorem timerOnce_ok (a b : Option Addr) (n r ca cb : Nat) (xs : List Tm) (bs : List UInt8) (w : World) (hn : n ≤ 60) (hr : r ≤ 60) (hl : xs.length = n) (hx : TRow w a xs) (hw : ∀ x ∈ xs, W64 x.2) (hlb : bs.length = r) (hb : IsBytes w b bs) :
    Calls Try.prog 4 #[.slice a n ca, .slice b r cb] w fun e w' => e = .returned (.bool true) ∧ Below w.heap.size w w' := by
  subst hl
  subst hlb
  have h1 : ¬ (60 : Int) < (xs.length : Int) := by omega
  have h2 : ¬ (60 : Int) < (bs.length : Int) := by omega
  have HX : Aside (TRow w a xs) := hx
  have HW : Aside (∀ x ∈ xs, W64 x.2) := hw
  have HBY : Aside (IsBytes w b bs) := hb
  clear hx hw hb
  go_enter Try.func4, Try.ntmps4
  go_wp2_with fail
  refine Calls.mono (tim_awake _) ?_
  rintro e w1 ⟨rfl, b1⟩
  have HB1 : Aside (Below w.heap.size w w1) := b1
  have BF : Aside (Beside w1.heap.size w1.heap.size w1 (w1.alloc (.cells #[.slice none 0 0, .map none] 30)) []) := bes_fresh w1
  clear b1
  go_upto_region 4 with (fail)
  show Code.wp _ _ _ _ (w1.alloc (.cells #[.slice none 0 0, .map none] 30))
  generalize w1.alloc (.cells #[.slice none 0 0, .map none] 30) = w2 at *
  have HBX : Aside (∀ W, Below w1.heap.size w1 W → Below w.heap.size w W) := fun W h => HB1.out.trans (h.mono HB1.out.size)
  obtain ⟨B, hB⟩ : ∃ B, B = w1.heap.size := ⟨_, rfl⟩
  rw [← hB] at BF HBX ⊢
  clear hB HB1
  go_wp2
  go_loopw [37] (fun s wr => ∃ (k : Nat) (ys : List Tm), k ≤ xs.length ∧ ys.length ≤ k ∧ s = .int .i64 k ∧ Aside (Beside B B w1 wr ys ∧ HasAll xs k ys)) (fun s _ => xs.length - (intOf s).toNat)
  case atStart => exact ⟨0, [], Nat.zero_le _, Nat.le_refl _, rfl, BF.out, has_zero _⟩
  case round =>
    clear BF
    obtain ⟨k, ys, hk, hy, rfl, HS⟩ := hrel
    by_cases hlt : k < xs.length
    · have hkz : (k : Int) < (xs.length : Int) := by omega
      obtain ⟨b1, o1, rfl, hb1, hc1⟩ := (HX.out.below (HBX.out _ HS.out.1.below)).at_ (by omega)
      obtain ⟨l0, l1⟩ := hc1 k hlt
      have HSET : Aside _ := bes_set (HS.out.1.after (drew_below _)) (tget xs k).2 (tget xs k).1 (HW.out _ (mem_tget.2 ⟨k, hlt, rfl⟩)) (by omega)
      have HST : Aside (∀ zs, zs.Perm (without ys (tget xs k).2 ++ [((tget xs k).1, (tget xs k).2)]) → HasAll xs (k + 1) zs) := fun zs hz => has_step HS.out.2 hz
      clear hc1 HS
      generalize tget xs k = x at *
      obtain ⟨d, q⟩ := x
      dsimp only at *
      go_upto_region 7 with (fail)
      go_still_tail 11, (by kernel_rfl)
      change wpList _ _ _ _ _ wr.drew
      go_wp2_with fail
      refine Calls.mono HSET.out ?_
      rintro e w3 ⟨rfl, zs, hz, pz⟩
      have lz := set_len pz
      have HZ : Aside (Beside B B w1 w3 zs ∧ HasAll xs (k + 1) zs) := ⟨hz, HST.out _ pz⟩
      clear hz pz HSET HST
      go_wp2
      go_roundw
      case rel => exact ⟨k + 1, zs, by omega, by omega, by go_num, HZ.out⟩
      case measure => simp [intOf]; omega
    · obtain rfl : k = xs.length := by omega
      have HY : Aside (HasAll xs xs.length ys ∧ ND ys) := ⟨HS.out.2, HS.out.1.st.nd⟩
      obtain ⟨H, hH⟩ : ∃ H, H = wr.heap.size := ⟨_, rfl⟩
      have hBH : B ≤ H := by rw [hH]; exact Nat.le_trans HS.out.1.le HS.out.1.below.size
      have H0 : Aside (OnceSt B H w1 wr none 0 0 [] ys ∧ Tolds ys [] ys 0 0) := ⟨once_begin HS.out.1 hBH hH, ⟨List.Perm.refl _, (fun x hx => by cases hx), fun h => absurd h (Nat.lt_irrefl 0), fun _ => rfl⟩⟩
      have hBH : Hid (B ≤ H) := hBH
      clear HS hH
      go_wp2
      go_loopw [7, 8, 55] (fun nw s i wq => ∃ (k : Nat) (now : Int) (a : Option Addr) (c m : Nat) (ts zs : List Tm), k ≤ bs.length ∧ 0 ≤ now ∧ now ≤ 255 * k ∧ m ≤ 60 ∧ nw = .int .i64 now ∧ s = .slice a m c ∧ i = .int .i64 k ∧ Aside (OnceSt B H w1 wq a c m ts zs ∧ Tolds ys ts zs now k)) (fun _ _ i _ => bs.length - (intOf i).toNat)
      case atStart => exact ⟨0, 0, none, 0, 0, [], ys, Nat.zero_le _, by omega, by omega, by omega, rfl, rfl, rfl, H0.out⟩
      case round =>
        clear H0
        obtain ⟨k, now, a2, c2, m2, ts, zs, hk, hn0, hn1, hm, rfl, rfl, rfl, HO⟩ := hrel
        by_cases hlt : k < bs.length
        · have hkz : (k : Int) < (bs.length : Int) := by omega
          obtain ⟨bb, ob, rfl, v, v0, v1, hcb⟩ := byte_at (HBY.out.upd (S := fun _ => False) (Upd.below (HBX.out _ HO.out.1.below)) (fun _ _ _ h => h)) hlt
          obtain ⟨ws, hws, pws⟩ := sorted_of HO.out.1.st.nd
          have HDU : Aside _ := once_due HO.out.1 hws pws (now + v)
          have HWS : Aside (Srt ws ∧ ws.Perm zs) := ⟨hws, pws⟩
          have hnv : now + v < 9223372036854775808 := by omega
          have hnv0 : -9223372036854775808 ≤ now + v := by omega
          have HOWN : Aside (∀ g, (Value.slice a2 m2 c2).ownBlock = some g → g < wr.heap.size) := fun g hg => own_in HO.out.1.own hg
          have HTO : Aside (Tolds ys ts zs now k) := HO.out.2
          have hpl : ts.length + zs.length = ys.length := by have := HO.out.2.perm.length_eq; rwa [List.length_append] at this
          have hwl : ws.length = zs.length := pws.length_eq
          have htl : ts.length = m2 := HO.out.1.len
          have HLL : Hid (ts.length + zs.length = ys.length ∧ ws.length = zs.length ∧ ts.length = m2) := ⟨hpl, hwl, htl⟩
          clear hws pws HO hpl hwl htl
          go_wp2_with fail
          refine Calls.mono HDU.out ?_
          rintro e w3 ⟨kk, a3, c3, hkk, rfl, r3, n3, p3, q3, z3, zs3, o3, pz3⟩
          have HT3 : Aside (Tolds ys (ts ++ ws.take kk) zs3 (now + v) (k + 1)) := HTO.out.step (by omega) HWS.out.1 HWS.out.2 p3 q3 pz3
          have HPW : Aside ((ts ++ ws).Perm ys) := (List.Perm.append_left ts HWS.out.2).trans HTO.out.perm
          have HIN : Aside (OnceSt B H w1 w3 a2 c2 m2 ts zs3 ∧ IntRow w3 a3 kk (fun i => (tget ws i).2) ∧ ∀ q o, a3 = some ⟨q, o, none⟩ → (Value.slice a2 m2 c2).ownBlock ≠ some q) :=
            ⟨o3, r3, fun q o e h => by have h1 := n3 q o e; have h2 := HOWN.out q h; omega⟩
          clear r3 n3 p3 q3 z3 o3 pz3 HTO HWS HOWN HDU hcb
          go_wp2
          go_loopw [8, 70] (fun s i wq => ∃ (j : Nat) (a4 : Option Addr) (c4 m4 : Nat), j ≤ kk ∧ i = .int .i64 j ∧ s = .slice a4 m4 c4 ∧ Aside (OnceSt B H w1 wq a4 c4 m4 (ts ++ ws.take j) zs3 ∧ IntRow wq a3 kk (fun i => (tget ws i).2) ∧ ∀ q o, a3 = some ⟨q, o, none⟩ → (Value.slice a4 m4 c4).ownBlock ≠ some q)) (fun _ i _ => kk - (intOf i).toNat)
          case atStart => exact ⟨0, a2, c2, m2, Nat.zero_le _, rfl, rfl, by rw [List.take_zero, List.append_nil]; exact HIN.out⟩
          case round =>
            clear HIN
            obtain ⟨j, a4, c4, m4, hj, rfl, rfl, HJ⟩ := hrel
            have hm4 : m4 = ts.length + j := by
              have h1 := HJ.out.1.len
              rw [List.length_append, List.length_take] at h1
              omega
            have hm4' : m4 ≤ 60 := by have := HLL.out; omega
            have hj60 : j ≤ 60 := by omega
            have HM4 : Hid (m4 = ts.length + j) := hm4
            clear hm4
            by_cases hjk : j < kk
            · have hjz : (j : Int) < (kk : Int) := by omega
              obtain ⟨b3, o3, rfl, l3, c3'⟩ := HJ.out.2.1 (by omega)
              have x3 : wr.cell? ⟨b3, o3 + j, none⟩ = some (.int .i64 (tget ws j).2) := c3' j hjk
              have HNE : Aside (∀ i, i < m4 → (tget (ts ++ ws.take j) i).2 ≠ (tget ws j).2) := fun i hi => told_new HPW.out HY.out.2 (by omega) (by rw [HJ.out.1.len]; exact hi)
              obtain ⟨V, hV⟩ : ∃ V, V = (tget ws j).2 := ⟨_, rfl⟩
              rw [← hV] at x3 HNE
              have HV : Hid (V = (tget ws j).2) := hV
              clear hV c3'
              obtain ⟨w5, hw5⟩ : ∃ w5, w5 = wr := ⟨_, rfl⟩
              subst hw5
              go_wp2
              go_loopw [75] (fun i wq => ∃ q : Nat, q ≤ m4 ∧ i = .int .i64 q ∧ Aside (Below w5.heap.size w5 wq)) (fun i _ => m4 - (intOf i).toNat)
              case atStart => exact ⟨0, Nat.zero_le _, rfl, Below.refl _ _⟩
              case round =>
                obtain ⟨q, hq, rfl, HQ⟩ := hrel
                have y3 := (HQ.out.cell (p := ⟨b3, o3 + j, none⟩) l3).trans x3
                by_cases hq4 : q < m4
                · have hqz : (q : Int) < (m4 : Int) := by omega
                  obtain ⟨b6, o6, rfl, l6, c6⟩ := (HJ.out.1.row.below HQ.out) (by omega)
                  have y6 : wr.cell? ⟨b6, o6 + q, none⟩ = some (.int .i64 (tget (ts ++ ws.take j) q).2) := c6 q hq4
                  have hne := HNE.out q hq4
                  clear c6 x3
                  generalize (tget (ts ++ ws.take j) q).2 = U at *
                  have hnb : (U == V) = false := by simpa using hne
                  go_wp2_with fail
                  go_quiet (fail)
                  go_wp2
                  go_roundw
                  case rel => exact ⟨q + 1, by omega, by go_num, HQ.out.trans ⟨rfl, rfl, rfl, Nat.le_refl _, fun _ _ => rfl⟩⟩
                  case measure => simp [intOf]; omega
                · obtain rfl : m4 = q := by omega
                  have HJ6 : Aside (OnceSt B H w1 wr a4 c4 m4 (ts ++ ws.take j) zs3 ∧ IntRow wr (some ⟨b3, o3, none⟩) kk (fun i => (tget ws i).2)) := ⟨HJ.out.1.after HQ.out, HJ.out.2.1.below HQ.out⟩
                  have HA : Aside (∀ q o, some (⟨b3, o3, none⟩ : Addr) = some ⟨q, o, none⟩ → (Value.slice a4 m4 c4).ownBlock ≠ some q) := HJ.out.2.2
                  have hb3 : b3 < wr.heap.size := Nat.lt_of_lt_of_le l3 HQ.out.size
                  have HO6 : Aside ((wr.alloc (.cells #[.int .i64 V] 3)).ownsRow H 3 1 (.slice a4 m4 c4) m4 (nums (ts ++ ws.take j))) := ownsRow_alloc HJ6.out.1.own _
                  have hx6 : (wr.alloc (.cells #[.int .i64 V] 3)).cell? ⟨wr.heap.size, 0, none⟩ = some (.int .i64 V) := (arr_new wr _ _).cells 0 _ rfl
                  have hwz : H ≤ (wr.alloc (.cells #[.int .i64 V] 3)).heap.size := by have := HJ6.out.1.hh; simp; omega
                  have hm1 : m4 + 1 ≤ maxLen := by unfold maxLen; omega
                  have hm2 : (m4 + 1) * 8 ≤ 140737488355328 := by omega
                  clear HJ HQ x3 l3 HNE
                  go_upto_region 26 with (at_builtin; refine wpList_append_elem rfl _ _ 39 rfl H 3 (.int .i64 0) 8 Try.underlying39 int_info rfl (.slice a4 m4 c4) m4 _ rfl HO6.out (.int .i64 V) rfl ⟨wr.heap.size, 0, none⟩ 1 rfl hx6 (m4 + 1) rfl hm1 hm2 hwz 0 _ (Below.refl _ _) (Nat.zero_le _) ?_; intro a7 c7 w7 ho7 hb7 hu7 hn7)
                  have HN : Aside (OnceSt B H w1 w7 a7 c7 (m4 + 1) (ts ++ ws.take (j + 1)) zs3 ∧ IntRow w7 (some ⟨b3, o3, none⟩) kk (fun i => (tget ws i).2) ∧ ∀ q o, some (⟨b3, o3, none⟩ : Addr) = some ⟨q, o, none⟩ → (Value.slice a7 (m4 + 1) c7).ownBlock ≠ some q) := by
                    refine ⟨?_, ?_, ?_⟩
                    · rw [take_at (ws := ws) (k := j) (by omega), ← List.append_assoc]
                      exact (HJ6.out.1.after (upd_box _)).push hBH.out (tget ws j) V HV.out hu7 ho7.out rfl
                    · exact (HJ6.out.2.below (upd_box _)).apart hu7 (fun q o e he => HA.out q o e he)
                    · intro q o e he
                      rcases hn7 q he with h | h
                      · exact HA.out q o e h
                      · injection e with e
                        injection e with e1
                        simp at h
                        omega
                  clear ho7 hb7 hu7 hn7 hx6 HO6 HJ6 HA y3
                  go_wp2
                  go_roundw
                  case rel => exact ⟨j + 1, a7, c7, m4 + 1, by omega, by go_num, rfl, HN.out⟩
                  case measure => simp [intOf]; omega
            · obtain rfl : j = kk := by omega
              go_wp2
              go_roundw
              case rel => exact ⟨k + 1, now + v, a4, c4, m4, ts ++ ws.take j, zs3, by omega, by omega, by omega, by omega, rfl, rfl, by go_num, HJ.out.1, HT3.out⟩
              case measure => simp [intOf]; omega
        · obtain rfl : k = bs.length := by omega
          have HQ2 : Aside (Below w.heap.size w wr) := HBX.out _ HO.out.1.below
          obtain ⟨w5, hw5⟩ : ∃ w5, w5 = wr := ⟨_, rfl⟩
          subst hw5
          go_wp2
          go_loopw [99] (fun i wq => ∃ k : Nat, k ≤ xs.length ∧ i = .int .i64 k ∧ Aside (Below w5.heap.size w5 wq)) (fun i _ => xs.length - (intOf i).toNat)
          case atStart => exact ⟨0, Nat.zero_le _, rfl, Below.refl _ _⟩
          case round =>
            obtain ⟨k, hk, rfl, HK⟩ := hrel
            by_cases hlt : k < xs.length
            · have hkz : (k : Int) < (xs.length : Int) := by omega
              have HO5 : Aside (OnceSt B H w1 wr a2 c2 m2 ts zs) := HO.out.1.after HK.out
              obtain ⟨b1, o1, rfl, hb1, hc1⟩ := (HX.out.below (HQ2.out.trans (HK.out.mono HQ2.out.size))).at_ (by omega)
              obtain ⟨l0, l1⟩ := hc1 k hlt
              have HCL : Aside (∀ i, i < xs.length → wr.cell? ⟨b1, o1 + i * 2, none⟩ = some (.int .i64 (tget xs i).1) ∧ wr.cell? ⟨b1, o1 + i * 2 + 1, none⟩ = some (.int .i64 (tget xs i).2)) := hc1
              have HQW : Aside (W64 (tget xs k).2) := HW.out _ (mem_tget.2 ⟨k, hlt, rfl⟩)
              obtain ⟨d, hd⟩ := lastTo_some hlt
              have HEND : Aside _ := told_end HO.out.2 HY.out.2 ((HY.out.1 d (tget xs k).2).2 hd)
              obtain ⟨D0, hD0⟩ : ∃ D0, D0 = (tget xs k).1 := ⟨_, rfl⟩
              obtain ⟨Q, hQ⟩ : ∃ Q, Q = (tget xs k).2 := ⟨_, rfl⟩
              rw [← hD0] at l0
              rw [← hQ] at l1 HQW hd HEND
              have HD : Hid (lastTo xs xs.length Q = some d) := hd
              clear hD0 hQ hc1 hd HX HW HY HO
              obtain ⟨w6, hw6⟩ : ∃ w6, w6 = wr := ⟨_, rfl⟩
              subst hw6
              go_wp2
              go_loopw [14, 109] (fun s i wq => ∃ (j : Nat) (l : Int), j ≤ xs.length ∧ i = .int .i64 j ∧ s = .int .i64 l ∧ Hid (l = (lastTo xs j Q).getD D0) ∧ Aside (Below w6.heap.size w6 wq)) (fun _ i _ => xs.length - (intOf i).toNat)
              case atStart => exact ⟨0, D0, Nat.zero_le _, rfl, rfl, rfl, Below.refl _ _⟩
              case round =>
                obtain ⟨j, l, hj, rfl, rfl, HL, HJ⟩ := hrel
                have k1 := (HJ.out.cell (p := ⟨b1, o1 + k * 2 + 1, none⟩) hb1).trans l1
                by_cases hj2 : j < xs.length
                · have hjz : (j : Int) < (xs.length : Int) := by omega
                  have j0 := (HJ.out.cell (p := ⟨b1, o1 + j * 2, none⟩) hb1).trans (HCL.out j hj2).1
                  have j1 := (HJ.out.cell (p := ⟨b1, o1 + j * 2 + 1, none⟩) hb1).trans (HCL.out j hj2).2
                  have hs := lastTo_succ xs j Q
                  clear l0 l1
                  generalize (tget xs j).1 = dj at *
                  generalize (tget xs j).2 = qj at *
                  by_cases he : qj = Q
                  · subst he
                    rw [if_pos rfl] at hs
                    have HS : Hid (dj = (lastTo xs (j + 1) qj).getD D0) := by show _ = _; rw [hs]; rfl
                    clear hs
                    go_wp2_with fail
                    go_quiet (fail)
                    go_wp2
                    go_roundw
                    case rel => exact ⟨j + 1, dj, by omega, by go_num, rfl, HS, HJ.out.trans ⟨rfl, rfl, rfl, Nat.le_refl _, fun _ _ => rfl⟩⟩
                    case measure => simp [intOf]; omega
                  · rw [if_neg he] at hs
                    have hnb : (qj == Q) = false := by simpa using he
                    have HS : Hid (l = (lastTo xs (j + 1) Q).getD D0) := by show _ = _; rw [hs]; exact HL.out
                    clear hs
                    go_wp2_with fail
                    go_quiet (fail)
                    go_wp2
                    go_roundw
                    case rel => exact ⟨j + 1, l, by omega, by go_num, rfl, HS, HJ.out.trans ⟨rfl, rfl, rfl, Nat.le_refl _, fun _ _ => rfl⟩⟩
                    case measure => simp [intOf]; omega
                · obtain rfl : j = xs.length := by omega
                  obtain rfl : l = d := by rw [HL.out, HD.out]; rfl
                  have HO8 : Aside (OnceSt B H w1 wr a2 c2 m2 ts zs) := HO5.out.after HJ.out
                  have HB8 : Aside (Below w5.heap.size w5 wr) := HK.out.trans (HJ.out.mono HK.out.size)
                  have hb8 : b1 < wr.heap.size := Nat.lt_of_lt_of_le hb1 HJ.out.size
                  clear l0 l1 HCL HL HD HJ HK HO5 hb1
                  obtain ⟨w8, hw8⟩ : ∃ w8, w8 = wr := ⟨_, rfl⟩
                  subst hw8
                  go_wp2
                  go_loopw [16, 131] (fun s i wq => ∃ (j : Nat) (h : Bool), j ≤ m2 ∧ i = .int .i64 j ∧ s = .bool h ∧ Hid (h = true ↔ ∃ i, i < j ∧ (tget ts i).2 = Q) ∧ Aside (Below w8.heap.size w8 wq)) (fun _ i _ => m2 - (intOf i).toNat)
                  case atStart => exact ⟨0, false, Nat.zero_le _, rfl, rfl, ⟨fun h => (by cases h), fun ⟨i, h, _⟩ => absurd h (Nat.not_lt_zero _)⟩, Below.refl _ _⟩
                  case round =>
                    obtain ⟨j, h, hj, rfl, rfl, HH, HJ⟩ := hrel
                    have k8 := (HJ.out.cell (p := ⟨b1, o1 + k * 2 + 1, none⟩) hb8).trans k1
                    by_cases hj2 : j < m2
                    · have hjz : (j : Int) < (m2 : Int) := by omega
                      obtain ⟨b6, o6, rfl, l6, c6⟩ := (HO8.out.row.below HJ.out) (by omega)
                      have y6 : wr.cell? ⟨b6, o6 + j, none⟩ = some (.int .i64 (tget ts j).2) := c6 j hj2
                      clear c6 k1
                      cases h
                      · by_cases he : (tget ts j).2 = Q
                        · have HN : Hid (∃ i, i < j + 1 ∧ (tget ts i).2 = Q) := ⟨j, Nat.lt_succ_self j, he⟩
                          rw [he] at y6
                          clear he HH
                          go_wp2_with fail
                          go_quiet (fail)
                          go_wp2
                          go_roundw
                          case rel => exact ⟨j + 1, true, by omega, by go_num, rfl, ⟨fun _ => HN.out, fun _ => rfl⟩, HJ.out.trans ⟨rfl, rfl, rfl, Nat.le_refl _, fun _ _ => rfl⟩⟩
                          case measure => simp [intOf]; omega
                        · have HN : Hid (false = true ↔ ∃ i, i < j + 1 ∧ (tget ts i).2 = Q) := ⟨fun h => (by cases h), fun ⟨i, hi, e⟩ => by
                            by_cases hij : i = j
                            · rw [hij] at e; exact absurd e he
                            · exact HH.out.2 ⟨i, by omega, e⟩⟩
                          have hnb : ((tget ts j).2 == Q) = false := by simpa using he
                          generalize (tget ts j).2 = U at *
                          clear HH
                          go_wp2_with fail
                          go_quiet (fail)
                          go_wp2
                          go_roundw
                          case rel => exact ⟨j + 1, false, by omega, by go_num, rfl, HN, HJ.out.trans ⟨rfl, rfl, rfl, Nat.le_refl _, fun _ _ => rfl⟩⟩
                          case measure => simp [intOf]; omega
                      · have HN : Hid (∃ i, i < j + 1 ∧ (tget ts i).2 = Q) := (HH.out.1 rfl).imp fun i x => ⟨by omega, x.2⟩
                        clear HH
                        go_wp2_with fail
                        go_quiet (fail)
                        go_wp2
                        go_roundw
                        case rel => exact ⟨j + 1, true, by omega, by go_num, rfl, ⟨fun _ => HN.out, fun _ => rfl⟩, HJ.out.trans ⟨rfl, rfl, rfl, Nat.le_refl _, fun _ _ => rfl⟩⟩
                        case measure => simp [intOf]; omega
                    · obtain rfl : m2 = j := by omega
                      have HO9 : Aside (OnceSt B H w1 wr a2 c2 m2 ts zs) := HO8.out.after HJ.out
                      have HB9 : Aside (Below w5.heap.size w5 wr) := HB8.out.trans (HJ.out.mono HB8.out.size)
                      have hll : ts.length = m2 := HO8.out.len
                      have hhas : h = true ↔ ∃ x ∈ ts, x.2 = Q := by
                        rw [HH.out]
                        constructor
                        · rintro ⟨i, hi, e⟩
                          exact ⟨_, mem_tget.2 ⟨i, by omega, rfl⟩, e⟩
                        · rintro ⟨x, hx, e⟩
                          obtain ⟨i, hi, rfl⟩ := mem_tget.1 hx
                          exact ⟨i, by omega, e⟩
                      clear HH HJ HO8 HB8 k1 hll
                      rcases HEND.out with ⟨ht, hz, hr0, hdn⟩ | ⟨ht, hz, hno⟩
                      · obtain rfl : h = true := hhas.2 ht
                        have hbz : (0 : Int) < (bs.length : Int) := by omega
                        have HDAY : Aside _ := tim_day_none HO9.out.st HQW.out hz
                        clear ht hz hhas HEND
                        go_wp2_with fail
                        refine Calls.mono HDAY.out ?_
                        rintro e w9 ⟨rfl, rfl⟩
                        go_wp2
                        go_roundw
                        case rel => exact ⟨k + 1, by omega, by go_num, HB9.out⟩
                        case measure => simp [intOf]; omega
                      · obtain rfl : h = false := by
                          cases h
                          · rfl
                          · obtain ⟨x, hx, e⟩ := hhas.1 rfl
                            exact absurd e (ht x hx)
                        obtain ⟨i, hi, e⟩ := mem_tget.1 hz
                        have HDAY : Aside (Calls Try.prog 14 #[.pointer (some ⟨B, 0, none⟩), .int .i64 Q] wr fun e w' => e = .returned (.tuple #[.int .i64 l, .bool true]) ∧ wr = w') := by
                          have := tim_day HO9.out.st hi
                          rw [e] at this
                          exact this
                        clear ht hz hhas HEND e
                        by_cases hr0 : 0 < bs.length
                        · have hbz : (0 : Int) < (bs.length : Int) := by omega
                          have hdn : ¬ l ≤ now := fun h => hno ⟨hr0, h⟩
                          clear hno
                          go_wp2_with fail
                          refine Calls.mono HDAY.out ?_
                          rintro e w9 ⟨rfl, rfl⟩
                          go_wp2
                          go_roundw
                          case rel => exact ⟨k + 1, by omega, by go_num, HB9.out⟩
                          case measure => simp [intOf]; omega
                        · have hbz : ¬ (0 : Int) < (bs.length : Int) := by omega
                          clear hno
                          go_wp2_with fail
                          refine Calls.mono HDAY.out ?_
                          rintro e w9 ⟨rfl, rfl⟩
                          go_wp2
                          go_roundw
                          case rel => exact ⟨k + 1, by omega, by go_num, HB9.out⟩
                          case measure => simp [intOf]; omega
            · obtain rfl : k = xs.length := by omega
              have HF : Aside (Below w.heap.size w wr) := HQ2.out.trans (HK.out.mono HQ2.out.size)
              clear HO HX HY HBX
              go_wp2
              go_ret
              exact ⟨rfl, HF.out⟩

theorem timerOnce_law (a b : Option Addr) (n r ca cb : Nat) (xs : List Tm) (bs : List UInt8) (w : World) (hl : xs.length = n) (hx : TRow w a xs) (hw : ∀ x ∈ xs, W64 x.2) (hlb : bs.length = r) (hb : IsBytes w b bs) :
    Calls Try.prog 4 #[.slice a n ca, .slice b r cb] w fun e w' => e = .returned (.bool true) ∧ Below w.heap.size w w' := by
  by_cases h1 : 60 < n
  · exact timerOnce_many a b n r ca cb w h1
  by_cases h2 : 60 < r
  · exact timerOnce_long a b n r ca cb w (by omega) h2
  exact timerOnce_ok a b n r ca cb xs bs w (by omega) (by omega) hl hx hw hlb hb

theorem timerOnce_contract (W : World) (args : Array Value) (h : Each Try.prog W Try.f4.params.toList args.toList) :
    Calls Try.prog 4 args W fun e W' => e = .returned (.bool true) ∧ Below W.heap.size W W' := by
  rw [Try.params4] at h
  obtain ⟨v0, r0, e0, ⟨_, o0⟩, d0, h⟩ := h.cons
  obtain ⟨v1, r1, rfl, ⟨_, o1⟩, d1, h⟩ := h.cons
  obtain rfl := h.nil
  obtain ⟨args⟩ := args
  obtain rfl : args = [v0, v1] := e0
  obtain ⟨sa0, sn0, sc0, rfl, hsc0⟩ := val_slice o0 Try.underlying25
  rw [hsc0] at d0
  obtain ⟨xs0, hl0, hr0, hw0⟩ := tms_of d0
  obtain ⟨sa1, sn1, sc1, rfl, hsc1⟩ := val_slice o1 Try.underlying43
  rw [hsc1] at d1
  obtain ⟨a1', c1', bs1, e1, hl1, hm1, hx1, hz1⟩ := d1.bytes47 Try.underlying43 Try.underlying5 (by kernel_rfl) (by kernel_rfl)
  injection e1 with e1 _
  injection e1 with e11 e21 e31
  subst e11 e21 e31
  exact timerOnce_law _ _ _ _ _ _ _ _ W hl0 hr0 hw0 rfl hx1

theorem timerOnce_lifted (os : Os) (started : os.Started) (H : Type) (enc : TypeId × Value → H) :
    ReturnsInHanded {} Try.checked os 4 .any (Rows.timerOnceSpec.pre6 enc Try.prog Try.f4 Rows.timerOnceRow.domain false) (Rows.timerOnceSpec.post enc Try.prog Try.f4 false true false false) :=
  law_lifted (C := Try.checked) seat_own seat_laid (by kernel_rfl) Try.func4 rfl (tb := 4) rfl Try.underlying4
    (by
      rw [Try.params4]; intro t ht; simp at ht
      rcases ht with rfl | rfl <;> exact ⟨by kernel_rfl, of_decide_eq_true (by kernel_rfl)⟩)
    (fun H ds hl => by
      rw [Try.params4] at hl
      match ds, hl with
      | [d1, d2], _ => rfl)
    os started H enc
    (ChangeSpec.witness6 (enc := enc) (C := Try.checked) false ⟨#[], #[.slice none 0 0, .slice none 0 0], []⟩ 8 (by kernel_rfl) (by kernel_rfl) (by kernel_rfl) (by kernel_rfl))
    timerOnce_contract

theorem timerOnce_holds : Rows.TimerOnceSaid :=
  OpenClaim.holds_of_wide 4 Try.f4 rfl rfl rfl rfl rfl rfl rfl ⟨rfl, rfl, rfl, rfl, rfl⟩ rfl rfl rfl rfl rfl (by kernel_rfl) Try.func4 (by kernel_rfl)
    (of_decide_eq_true (by kernel_rfl)) (by unfold Func.isWrapper; first | (rw [if_pos (by decide +kernel)]; kernel_rfl) | (rw [if_neg (by decide +kernel)]; exact ⟨rfl, rfl⟩))
    (fun os started H enc _ => timerOnce_lifted os started H enc)
#print axioms timerOnce_holds
end Go.Proofs.Ytoeiliaaidmmkaa
