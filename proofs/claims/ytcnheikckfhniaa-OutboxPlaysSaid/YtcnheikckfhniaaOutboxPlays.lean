/-
  The law OutboxPlays of layer 13 returns true whatever its argument is, and leaves it as it was. No condition.
-/
import Derived.Test.YtcnheikckfhniaaOutDuo
namespace Go.Proofs.Ytcnheikckfhniaa
open Go.RowKit
set_option maxRecDepth 100000

set_option maxHeartbeats 8000000 in
theorem outboxPlays_law (a : Option Addr) (n c : Nat) (f : Nat → OSct) (w : World) (hr : OActRow w a n f) (hw : ∀ k, W64 (f k).A) : Calls Try.prog 3 #[.slice a n c] w fun e w' => e = .returned (.bool true) ∧ Below w.heap.size w w' := by
  have HA : Aside (∀ w, _) := fun w => out_awake w
  by_cases hbig : 100 < n
  · have hbz : (100 : Int) < (n : Int) := by omega
    clear hr hw
    go_enter Try.func3, Try.ntmps3
    go_wp2_with fail
    refine Calls.mono (HA.out _) ?_
    rintro e w1 ⟨rfl, b1⟩
    have HB : Aside (Below w.heap.size w w1) := b1
    clear b1
    go_wp2_with fail
    refine Calls.mono (HA.out _) ?_
    rintro e w2 ⟨rfl, b2⟩
    have HF : Aside (Below w.heap.size w w2) := HB.out.trans (b2.mono HB.out.size)
    clear b2
    go_wp2
    go_ret
    exact ⟨rfl, HF.out⟩
  · have hbz : ¬ (100 : Int) < (n : Int) := by omega
    have HR : Aside (OActRow w a n f) := hr
    have HW : Aside (∀ k, W64 (f k).A) := hw
    clear hr hw
    go_enter Try.func3, Try.ntmps3
    go_wp2_with fail
    refine Calls.mono (HA.out _) ?_
    rintro e w0 ⟨rfl, b0⟩
    have HB0 : Aside (Below w.heap.size w w0) := b0
    have HN : Aside _ := out_new w0
    clear b0 HA
    go_wp2_with fail
    refine Calls.mono HN.out ?_
    rintro e w1 ⟨rfl, h1, b1, s1⟩
    have HD0 : Aside (Duo w0 w1 w0.heap.size (fun k => k = w0.heap.size) 0 [] none 0 0 0) := Duo.start h1 b1 s1
    clear h1 b1 s1 HN
    obtain ⟨p, hp⟩ : ∃ p, p = w0.heap.size := ⟨_, rfl⟩
    have HD : Aside (∃ S, Duo w0 w1 p S 0 [] none 0 0 0) := ⟨_, by rw [hp]; exact HD0.out⟩
    rw [← hp]
    clear HD0 hp
    go_wp2
    go_loopw [4, 5, 32] (fun s4 s5 i wr => ∃ (k : Nat) (S : Nat → Prop) (last : Int) (xs : List Msg) (am : Option Addr) (nm cm : Nat), k ≤ n ∧ i = .int .i64 k ∧ s4 = .slice am nm cm ∧ s5 = .int .i64 (last + 1) ∧ Aside (Duo w0 wr p S last xs am nm cm k)) (fun _ _ i _ => n - (intOf i).toNat)
    case atStart => obtain ⟨S, hS⟩ := HD.out; exact ⟨0, S, 0, [], none, 0, 0, Nat.zero_le _, rfl, rfl, rfl, hS⟩
    case round =>
      clear HD
      obtain ⟨k, S, last, xs, am, nm, cm, hk, rfl, rfl, rfl, HD⟩ := hrel
      by_cases hlt : k < n
      · have hkz : (k : Int) < (n : Int) := by omega
        have HBW : Aside (Below w.heap.size w wr) := HB0.out.trans (HD.out.up.mono HB0.out.size)
        obtain ⟨ba, oa, rfl, hba, hca⟩ := HR.out (by omega)
        have hA := (hca k hlt).grown HBW.out
        obtain ⟨a0, a1, a2, a3, a4⟩ := oact_all hA
        have HWA : Aside (W64 (f k).A) := HW.out k
        have hn9 := HD.out.num
        have hl0 := HD.out.len
        clear hca hA
        generalize f k = x at *
        obtain ⟨K, A, B, V, D⟩ := x
        dsimp only at *
        by_cases hd1 : 1099511627776 < D
        · have HF : Aside (Below w.heap.size w (wr.alloc (.cells #[.int .u8 K, .int .i64 A, .int .i64 B, .int .i64 V, .int .i64 D] 28))) := HBW.out.alloc HBW.out.size _
          clear HD HR HW
          go_wp2
          go_ret
          exact ⟨rfl, HF.out⟩
        · by_cases hd2 : D < -1099511627776
          · have HF : Aside (Below w.heap.size w (wr.alloc (.cells #[.int .u8 K, .int .i64 A, .int .i64 B, .int .i64 V, .int .i64 D] 28))) := HBW.out.alloc HBW.out.size _
            clear HD HR HW
            go_wp2
            go_ret
            exact ⟨rfl, HF.out⟩
          · have hBX : Below wr.heap.size wr (wr.alloc (.cells #[.int .u8 K, .int .i64 A, .int .i64 B, .int .i64 V, .int .i64 D] 28)) := upd_box _
            have hT := arr_new wr #[.int .u8 K, .int .i64 A, .int .i64 B, .int .i64 V, .int .i64 D] 28
            have HD2 : Aside (Duo w0 (wr.alloc (.cells #[.int .u8 K, .int .i64 A, .int .i64 B, .int .i64 V, .int .i64 D] 28)) p S last xs am nm cm k) := HD.out.below hBX
            have HT : Aside (ArrAt (wr.alloc (.cells #[.int .u8 K, .int .i64 A, .int .i64 B, .int .i64 V, .int .i64 D] 28)) wr.heap.size 0 #[.int .u8 K, .int .i64 A, .int .i64 B, .int .i64 V, .int .i64 D]) := hT
            have HST : Aside (¬ S wr.heap.size ∧ ∀ q, (Value.slice am nm cm).ownBlock = some q → q ≠ wr.heap.size) := ⟨fun h => by have := (HD.out.inn _ h).2; omega, fun q hq e => by have := own_in HD.out.row hq; omega⟩
            have HWR : Hid (w.heap.size ≤ wr.heap.size) := HBW.out.size
            have HSL : Aside (∀ q, S q → w0.heap.size ≤ q ∧ q < wr.heap.size) := HD.out.inn
            have HOL : Aside (∀ q, (Value.slice am nm cm).ownBlock = some q → q < wr.heap.size) := fun q hq => own_in HD.out.row hq
            have HTL : Hid (wr.heap.size < (wr.alloc (.cells #[.int .u8 K, .int .i64 A, .int .i64 B, .int .i64 V, .int .i64 D] 28)).heap.size) := by show _ < _; simp
            have HBW2 : Aside (Below w.heap.size w (wr.alloc (.cells #[.int .u8 K, .int .i64 A, .int .i64 B, .int .i64 V, .int .i64 D] 28))) := HBW.out.alloc HBW.out.size _
            clear hBX hT HD HBW
            go_upto_if 73 with (fail)
            clear a0 a1 a2 a3 a4 HR hba
            obtain ⟨w2, hw2⟩ : ∃ w2, w2 = wr.alloc (.cells #[.int .u8 K, .int .i64 A, .int .i64 B, .int .i64 V, .int .i64 D] 28) := ⟨_, rfl⟩
            rw [← hw2] at HD2 HT HTL HBW2 ⊢
            obtain ⟨T, hT9⟩ : ∃ T, T = wr.heap.size := ⟨_, rfl⟩
            rw [← hT9] at HT HST HWR HSL HOL HTL ⊢
            clear hw2 hT9
            obtain ⟨t0, t1, t2, t3, t4⟩ := obox_all HT.out
            by_cases hk4 : K < 4
            · have hk4d : decide (K < 4) = true := decide_eq_true hk4
              rw [hk4d]
              have B3 : Below w2.heap.size w2 (w2.alloc (.cells #[.int .i64 (last + 1), .int .i64 B, .int .i64 A, .int .i64 V, .int .i64 1, .int .i64 (D + 1)] 30)) := upd_box _
              have hX := arr_new w2 #[.int .i64 (last + 1), .int .i64 B, .int .i64 A, .int .i64 V, .int .i64 1, .int .i64 (D + 1)] 30
              have hXl : w2.heap.size < (w2.alloc (.cells #[.int .i64 (last + 1), .int .i64 B, .int .i64 A, .int .i64 V, .int .i64 1, .int .i64 (D + 1)] 30)).heap.size := by simp
              go_upto_region 19 with (fail)
              obtain ⟨w3, hw3⟩ : ∃ w3, w3 = w2.alloc (.cells #[.int .i64 (last + 1), .int .i64 B, .int .i64 A, .int .i64 V, .int .i64 1, .int .i64 (D + 1)] 30) := ⟨_, rfl⟩
              rw [← hw3] at B3 hX hXl ⊢
              clear hw3
              have hT3 : T < w3.heap.size := by have := HTL.out; omega
              have t1' := (B3.cell (p := ⟨T, 1, none⟩) HTL.out).trans t1
              have t2' := (B3.cell (p := ⟨T, 2, none⟩) HTL.out).trans t2
              have t3' := (B3.cell (p := ⟨T, 3, none⟩) HTL.out).trans t3
              have t4' := (B3.cell (p := ⟨T, 4, none⟩) HTL.out).trans t4
              have HDU : Aside (Duo w0 w3 p S last xs am nm cm k) := HD2.out.below B3
              have HB3 : Aside (Below w2.heap.size w2 w3) := B3
              have HBW3 : Aside (Below w.heap.size w w3) := HBW2.out.trans (B3.mono HBW2.out.size)
              have HSX : Hid (¬ S w2.heap.size) := fun x => by have := HSL.out _ x; have := HTL.out; omega
              have HST1 : Hid (¬ S T) := HST.out.1
              obtain ⟨X, hX9⟩ : ∃ X, X = w2.heap.size := ⟨_, rfl⟩
              rw [← hX9] at hX hXl HSX ⊢
              clear hX9 t0 t1 t2 t3 t4
              obtain ⟨v0, v1, v2, v3, v4, v5⟩ := cells_arr hX
              have HPUT : Aside (∀ w', Below w3.heap.size w3 w' → Calls Try.prog 10 #[.pointer (some ⟨p, 0, none⟩), .int .i64 B, .int .i64 A, .int .i64 V, .int .i64 D] w' fun e w9 => e = .returned (.agg #[.int .i64 (last + 1), .int .i64 B, .int .i64 A, .int .i64 V, .int .i64 1, .int .i64 (D + 1)]) ∧ OutAt w9 p (More S w3 w9) (last + 1) (⟨last + 1, B, A, V, 1, D + 1⟩ :: xs) ∧ Upd S w3 w9) := fun w' hb =>
                (out_put (OutSt.below HDU.out.out hb) B A V D (by omega) (by omega) (by omega)).mono fun e w9 q => ⟨q.1, OutSt.mono q.2.1 (More.up hb.size), (Upd.below hb (S := S)).trans q.2.2 (fun _ _ x => x)⟩
              have heq := ref_self 9998 ⟨last + 1, B, A, V, 1, D + 1⟩
              dsimp only at heq
              clear hX B3 HB3
              go_cut [99] (fun s wx => s = .bool false ∧ Aside (OutAt wx p (More S w3 wx) (last + 1) (⟨last + 1, B, A, V, 1, D + 1⟩ :: xs)) ∧ Aside (Upd S w3 wx))
              case first =>
                as_aux_lemma =>
                  skip
                  have hS1 := HST1.out
                  have hS2 := HSX.out
                  go_region_held3 (fun w' => Upd S w3 w' ∧ w'.cell? ⟨T, 1, none⟩ = some (.int .i64 A) ∧ w'.cell? ⟨T, 2, none⟩ = some (.int .i64 B) ∧ w'.cell? ⟨T, 3, none⟩ = some (.int .i64 V) ∧ w'.cell? ⟨T, 4, none⟩ = some (.int .i64 D) ∧ w'.cell? ⟨X, 0, none⟩ = some (.int .i64 (last + 1)) ∧ w'.cell? ⟨X, 1, none⟩ = some (.int .i64 B) ∧ w'.cell? ⟨X, 2, none⟩ = some (.int .i64 A) ∧ w'.cell? ⟨X, 3, none⟩ = some (.int .i64 V) ∧ w'.cell? ⟨X, 4, none⟩ = some (.int .i64 1) ∧ w'.cell? ⟨X, 5, none⟩ = some (.int .i64 (D + 1)))
                    (refine ⟨?_, (Upd.cell (S := S) (w := w3) (p := ⟨T, 1, none⟩) ?_ hT3 hS1).trans t1', (Upd.cell (S := S) (w := w3) (p := ⟨T, 2, none⟩) ?_ hT3 hS1).trans t2', (Upd.cell (S := S) (w := w3) (p := ⟨T, 3, none⟩) ?_ hT3 hS1).trans t3', (Upd.cell (S := S) (w := w3) (p := ⟨T, 4, none⟩) ?_ hT3 hS1).trans t4', (Upd.cell (S := S) (w := w3) (p := ⟨X, 0, none⟩) ?_ hXl hS2).trans v0, (Upd.cell (S := S) (w := w3) (p := ⟨X, 1, none⟩) ?_ hXl hS2).trans v1, (Upd.cell (S := S) (w := w3) (p := ⟨X, 2, none⟩) ?_ hXl hS2).trans v2, (Upd.cell (S := S) (w := w3) (p := ⟨X, 3, none⟩) ?_ hXl hS2).trans v3, (Upd.cell (S := S) (w := w3) (p := ⟨X, 4, none⟩) ?_ hXl hS2).trans v4, (Upd.cell (S := S) (w := w3) (p := ⟨X, 5, none⟩) ?_ hXl hS2).trans v5⟩ <;> (with_reducible (repeat (first | assumption | refine Upd.drew ?_ | exact Upd.refl _ _))))
                    ((go_at_call 10; with_reducible refine Calls.mono (HPUT.out _ ?_) ?_; (with_reducible (repeat (first | assumption | refine Below.drew ?_ | exact Below.refl _ _))); rintro e w9 ⟨rfl, h9, u9⟩))
                  all_goals
                    go_wp2_with fail
                    go_meet
                    first
                      | exact ⟨rfl, h9, u9⟩
                      | exact ⟨rfl, put_drew h9, u9.drew⟩
              case rest =>
                skip
                obtain ⟨rfl, HO9, HU9⟩ := hcut
                have v0' := (HU9.out.cell (p := ⟨X, 0, none⟩) hXl HSX.out).trans v0
                have v1' := (HU9.out.cell (p := ⟨X, 1, none⟩) hXl HSX.out).trans v1
                have v2' := (HU9.out.cell (p := ⟨X, 2, none⟩) hXl HSX.out).trans v2
                have v3' := (HU9.out.cell (p := ⟨X, 3, none⟩) hXl HSX.out).trans v3
                have v4' := (HU9.out.cell (p := ⟨X, 4, none⟩) hXl HSX.out).trans v4
                have v5' := (HU9.out.cell (p := ⟨X, 5, none⟩) hXl HSX.out).trans v5
                have HRW : Aside (World.ownsRow _ _ _ _ _ _ _) := ownsRow_upd HDU.out.row HU9.out (fun q hq => HDU.out.off q hq)
                have hbz9 : w0.heap.size ≤ wc.heap.size := Nat.le_trans HDU.out.up.size HU9.out.size
                have hnm9 : nm < 10000 := by omega
                have q1c := (HU9.out.cell (p := ⟨T, 1, none⟩) hT3 HST1.out).trans t1'
                have hTc : T < wc.heap.size := Nat.lt_of_lt_of_le hT3 HU9.out.size
                clear v0 v1 v2 v3 v4 v5 t1' t2' t3' t4' heq HPUT hT3
                go_upto_region 22 with (at_builtin; refine wpList_append_at rfl _ _ 26 30 rfl Try.underlying26 info_refz w0.heap.size nm cm am xs rfl HRW.out ⟨last + 1, B, A, V, 1, D + 1⟩ wc.heap.size rfl rfl hnm9 hbz9 (nm + 1) rfl ?_; intro a7 c7 w7 g1 g3 g4)
                have HD3 : Aside (Duo w0 w7 p (More S w3 wc) (last + 1) (xs ++ [⟨last + 1, B, A, V, 1, D + 1⟩]) a7 (nm + 1) c7 (k + 1)) := HDU.out.put (Below.refl _ _) HO9.out HU9.out rfl rfl g1 g3 g4
                have q1 := (g3.cell (p := ⟨T, 1, none⟩) hTc (fun e => HST.out.2 T e rfl)).trans q1c
                have hT3 : T < w7.heap.size := Nat.lt_of_lt_of_le hTc g3.size
                clear g1 g3 g4 q1c hTc hnm9 hbz9 HO9 HU9 HRW HDU v0' v1' v2' v3' v4' v5' hn9 hl0
                generalize hzs : xs ++ [(⟨last + 1, B, A, V, 1, D + 1⟩ : Msg)] = zs at *
                clear hzs
                as_aux_lemma =>
                  have hn9 := HD3.out.num
                  have HL9 : Hid ((zs).length = (nm + 1)) := HD3.out.len
                  have hnm : (nm + 1) ≤ 101 := by have := HL9.out; omega
                  go_wp2
                  go_loopw [19, 217] (fun s i wq => ∃ j : Nat, j ≤ (nm + 1) ∧ i = .int .i64 j ∧ s = .int .i64 (((((zs).take j).filter (waitB A)).length : Nat) : Int) ∧ Aside (Below w7.heap.size w7 wq)) (fun _ i _ => (nm + 1) - (intOf i).toNat)
                  case atStart => exact ⟨0, Nat.zero_le _, rfl, rfl, Below.refl _ _⟩
                  case round =>
                    obtain ⟨j, hj, rfl, rfl, HQ⟩ := hrel
                    by_cases hjl : j < (nm + 1)
                    · have hjz : (j : Int) < ((nm + 1) : Int) := by omega
                      obtain ⟨b3, o3, hb3, l3, m3⟩ := (HD3.out.mrow.below HQ.out).at_ (by have := HL9.out; omega)
                      obtain ⟨x0, x1, x2, x3, x4, x5⟩ := m3 j (by have := HL9.out; omega)
                      have q1q := (HQ.out.cell (p := ⟨T, 1, none⟩) hT3).trans q1
                      have HSN : Aside (_ = _) := filter_snoc (waitB A) ((zs).take j) (mget (zs) j)
                      rw [← mtake_at (by have := HL9.out; omega)] at HSN
                      have hcl : (((zs).take j).filter (waitB A)).length ≤ j := by
                        refine Nat.le_trans (List.length_filter_le _ _) ?_
                        rw [List.length_take]
                        omega
                      have hwq : waitB A (mget (zs) j) = (decide ((mget (zs) j).rma = A) && decide ((mget (zs) j).kind ≠ 1)) := rfl
                      rw [hwq] at HSN
                      clear m3 hwq
                      generalize mget (zs) j = m at *
                      obtain ⟨mk, mi, mr, mv, mt, mu⟩ := m
                      dsimp only at *
                      subst hb3
                      by_cases e1 : mr = A
                      · subst e1
                        by_cases e2 : mi = 1
                        · subst e2
                          have hE : Hid ((((zs).take (j + 1)).filter (waitB mr)).length = (((zs).take j).filter (waitB mr)).length) := by show _ = _; rw [HSN.out]; simp
                          go_wp2_with fail
                          go_quiet (fail)
                          go_wp2
                          go_roundw
                          case rel => exact ⟨j + 1, by omega, by go_num, by rw [hE.out], HQ.out.trans ⟨rfl, rfl, rfl, Nat.le_refl _, fun _ _ => rfl⟩⟩
                          case measure => simp [intOf]; omega
                        · have hne : (mi == 1) = false := by simpa using e2
                          have hE : Hid ((((zs).take (j + 1)).filter (waitB mr)).length = (((zs).take j).filter (waitB mr)).length + 1) := by show _ = _; rw [HSN.out]; simp [e2]
                          go_wp2_with fail
                          go_quiet (fail)
                          go_wp2
                          go_roundw
                          case rel => exact ⟨j + 1, by omega, by go_num, by rw [hE.out]; go_num, HQ.out.trans ⟨rfl, rfl, rfl, Nat.le_refl _, fun _ _ => rfl⟩⟩
                          case measure => simp [intOf]; omega
                      · have hne : (mr == A) = false := by simpa using e1
                        have hE : Hid ((((zs).take (j + 1)).filter (waitB A)).length = (((zs).take j).filter (waitB A)).length) := by show _ = _; rw [HSN.out]; simp [e1]
                        go_wp2_with fail
                        go_quiet (fail)
                        go_wp2
                        go_roundw
                        case rel => exact ⟨j + 1, by omega, by go_num, by rw [hE.out], HQ.out.trans ⟨rfl, rfl, rfl, Nat.le_refl _, fun _ _ => rfl⟩⟩
                        case measure => simp [intOf]; omega
                    · obtain ⟨WQ, hWQ⟩ : ∃ WQ, WQ = wr := ⟨_, rfl⟩
                      subst hWQ
                      have HD4 : Aside (Duo w0 WQ p (More S w3 wc) (last + 1) (zs) a7 (nm + 1) c7 (k + 1)) := HD3.out.below HQ.out
                      have q1q := (HQ.out.cell (p := ⟨T, 1, none⟩) hT3).trans q1
                      have hT4 : T < WQ.heap.size := Nat.lt_of_lt_of_le hT3 HQ.out.size
                      have HFT : Hid ((((zs).take j).filter (waitB A)).length = ((zs).filter (waitB A)).length) := by show _ = _; rw [List.take_of_length_le (by have := HL9.out; omega)]
                      have HAL : Aside _ := out_all HD4.out.out HD4.out.rise (List.Perm.refl _)
                      clear HQ q1
                      go_wp2_with fail
                      refine Calls.mono HAL.out ?_
                      rintro e w21 ⟨a21, c21, rfl, r21, b21⟩
                      have HSM : Aside (Calls Try.prog 15 #[.slice a21 (zs).length c21, .slice a7 (nm + 1) c7] w21 fun e w' => e = .returned (.bool true) ∧ Below w21.heap.size w21 w') := by
                        have := law_same (n := (zs).length) (c := c21) (d := c7) (mrow_own r21 rfl) (HD4.out.mrow.below b21) rfl (by have := HL9.out; omega)
                        rw [← HL9.out]
                        exact this
                      have HB21 : Aside (Below WQ.heap.size WQ w21) := b21
                      clear r21 b21 HAL
                      go_wp2_with fail
                      refine Calls.mono HSM.out ?_
                      rintro e w22 ⟨rfl, b22⟩
                      have HB22 : Aside (Below WQ.heap.size WQ w22) := HB21.out.trans (b22.mono HB21.out.size)
                      have HNX : Aside (Calls Try.prog 17 #[.pointer (some ⟨p, 0, none⟩)] w22 fun e w' => e = .returned (.int .i64 ((last + 1) + 1)) ∧ w22 = w') := out_next (OutSt.below HD4.out.out HB22.out) (by omega)
                      have HWT : Aside (Calls Try.prog 18 #[.pointer (some ⟨p, 0, none⟩), .int .i64 A] w22 fun e w' => e = .returned (.int .i64 (((zs).filter (waitB A)).length : Nat)) ∧ Below w22.heap.size w22 w') := out_waits (OutSt.below HD4.out.out HB22.out) A
                      have q22 := (HB22.out.cell (p := ⟨T, 1, none⟩) hT4).trans q1q
                      clear b22 HSM
                      go_wp2_with fail
                      refine Calls.mono HNX.out ?_
                      rintro e w23 ⟨rfl, rfl⟩
                      go_wp2_with fail
                      refine Calls.mono HWT.out ?_
                      rintro e w23 ⟨rfl, b23⟩
                      have HD5 : Aside (Duo w0 w23 p (More S w3 wc) (last + 1) (zs) a7 (nm + 1) c7 (k + 1)) := HD4.out.below (HB22.out.trans (b23.mono HB22.out.size))
                      have hft := HFT.out
                      rw [hft]
                      clear b23 HNX HWT hft
                      go_wp2
                      go_roundw
                      case rel => exact ⟨k + 1, _, _, _, _, _, _, by omega, by go_num, rfl, rfl, HD5.out⟩
                      case measure => simp [intOf]; omega
            · have hk4d : decide (K < 4) = false := decide_eq_false hk4
              rw [hk4d]
              by_cases e4 : K = 4
              · subst e4
                have hnm : nm ≤ 101 := by have := HD2.out.num; have := HD2.out.len; omega
                go_wp2
                go_loopw [9, 10, 115] (fun s9 s10 i wq => ∃ (j : Nat) (a1 : Option Addr) (n1 c1 : Nat) (a2 : Option Addr) (n2 c2 : Nat), j ≤ nm ∧ n1 ≤ j ∧ n2 ≤ j ∧ i = .int .i64 j ∧ s9 = .slice a1 n1 c1 ∧ s10 = .slice a2 n2 c2 ∧ Aside (Tri w2 wq a1 n1 c1 ((xs.take j).filter (fun m => !(keyB A) m)) a2 n2 c2 ((xs.take j).filter (keyB A)) none 0 0 [])) (fun _ _ i _ => nm - (intOf i).toNat)
                case atStart => exact ⟨0, none, 0, 0, none, 0, 0, Nat.zero_le _, Nat.le_refl _, Nat.le_refl _, rfl, rfl, rfl, Tri.start w2⟩
                case round =>
                  obtain ⟨j, a1, n1, c1, a2, n2, c2, hj, hn1, hn2, rfl, rfl, rfl, HTR⟩ := hrel
                  by_cases hjl : j < nm
                  · have hjz : (j : Int) < (nm : Int) := by omega
                    obtain ⟨b3, o3, hb3, l3, m3⟩ := (HD2.out.mrow.below HTR.out.bl).at_ (by have := HD2.out.len; omega)
                    obtain ⟨x0, x1, x2, x3, x4, x5⟩ := m3 j (by have := HD2.out.len; omega)
                    have y0 := (HTR.out.bl.cell (p := ⟨T, 0, none⟩) HTL.out).trans t0
                    have y1 := (HTR.out.bl.cell (p := ⟨T, 1, none⟩) HTL.out).trans t1
                    have y2 := (HTR.out.bl.cell (p := ⟨T, 2, none⟩) HTL.out).trans t2
                    have HS1 : Aside (_ = _) := filter_snoc (fun m => !(keyB A) m) (xs.take j) (mget xs j)
                    have HS2 : Aside (_ = _) := filter_snoc (keyB A) (xs.take j) (mget xs j)
                    rw [← mtake_at (by have := HD2.out.len; omega)] at HS1 HS2
                    clear m3
                    generalize mget xs j = m at *
                    obtain ⟨bb, hbb⟩ : ∃ bb, bb = (keyB A) m := ⟨_, rfl⟩
                    have HBB : Hid (bb = (keyB A) m) := hbb
                    rw [← hbb] at HS1 HS2
                    clear hbb
                    obtain ⟨mk, mi, mr, mv, mt, mu⟩ := m
                    have hn1b : n1 < 10000 := by omega
                    have hn2b : n2 < 10000 := by omega
                    dsimp only at *
                    subst hb3
                    go_upto_region 29 with (fail)
                    go_cut [155] (fun s wx => s = .bool bb ∧ Aside (Below wr.heap.size wr wx))
                    case first =>
                      as_aux_lemma =>
                        by_cases e1 : mk = A
                        · have he : (mk == A) = true := by simpa using e1
                          obtain rfl : bb = true := HBB.out.trans he
                          go_quiet (fail)
                          go_wp2_with fail
                          go_meet
                          exact ⟨rfl, ⟨rfl, rfl, rfl, Nat.le_refl _, fun _ _ => rfl⟩⟩
                        · have he : (mk == A) = false := by simpa using e1
                          obtain rfl : bb = false := HBB.out.trans he
                          go_quiet (fail)
                          go_wp2_with fail
                          go_meet
                          exact ⟨rfl, ⟨rfl, rfl, rfl, Nat.le_refl _, fun _ _ => rfl⟩⟩
                    case rest =>
                      obtain ⟨rfl, HBC⟩ := hcut
                      have HT1 : Aside (Tri w2 wc a1 n1 c1 ((xs.take j).filter (fun m => !(keyB A) m)) a2 n2 c2 ((xs.take j).filter (keyB A)) none 0 0 []) := HTR.out.below HBC.out
                      have z0 := (HBC.out.cell (p := ⟨b3, o3 + j * 6, none⟩) l3).trans x0
                      have z1 := (HBC.out.cell (p := ⟨b3, o3 + j * 6 + 1, none⟩) l3).trans x1
                      have z2 := (HBC.out.cell (p := ⟨b3, o3 + j * 6 + 2, none⟩) l3).trans x2
                      have z3 := (HBC.out.cell (p := ⟨b3, o3 + j * 6 + 3, none⟩) l3).trans x3
                      have z4 := (HBC.out.cell (p := ⟨b3, o3 + j * 6 + 4, none⟩) l3).trans x4
                      have z5 := (HBC.out.cell (p := ⟨b3, o3 + j * 6 + 5, none⟩) l3).trans x5
                      have hbs : w2.heap.size ≤ wc.heap.size := HT1.out.bl.size
                      have HR1 : Aside (World.ownsRow _ _ _ _ _ _ _) := HT1.out.r1
                      have HR2 : Aside (World.ownsRow _ _ _ _ _ _ _) := HT1.out.r2
                      clear x0 x1 x2 x3 x4 x5 y0 y1 y2 HTR HBC HBB
                      cases bb
                      · go_wp2_with (at_builtin; refine wpList_append_at rfl _ _ 26 30 rfl Try.underlying26 info_refz w2.heap.size n1 c1 a1 _ rfl HR1.out ⟨mk, mi, mr, mv, mt, mu⟩ wc.heap.size rfl rfl hn1b hbs (n1 + 1) rfl ?_; intro a7 c7 w7 g1 g3 g4)
                        have HN : Aside (Tri w2 w7 a7 (n1 + 1) c7 ((xs.take (j + 1)).filter (fun m => !(keyB A) m)) a2 n2 c2 ((xs.take (j + 1)).filter (keyB A)) none 0 0 []) := by
                          rw [HS1.out, HS2.out]
                          exact HT1.out.app1 g1 g3 g4
                        clear g1 g3 g4 HT1 HR1 HR2
                        go_wp2
                        go_roundw
                        case rel => exact ⟨j + 1, a7, n1 + 1, c7, a2, n2, c2, by omega, by omega, by omega, by go_num, rfl, rfl, HN.out⟩
                        case measure => simp [intOf]; omega
                      · go_wp2_with (at_builtin; refine wpList_append_at rfl _ _ 26 30 rfl Try.underlying26 info_refz w2.heap.size n2 c2 a2 _ rfl HR2.out ⟨mk, mi, mr, mv, mt, mu⟩ wc.heap.size rfl rfl hn2b hbs (n2 + 1) rfl ?_; intro a7 c7 w7 g1 g3 g4)
                        have HN : Aside (Tri w2 w7 a1 n1 c1 ((xs.take (j + 1)).filter (fun m => !(keyB A) m)) a7 (n2 + 1) c7 ((xs.take (j + 1)).filter (keyB A)) none 0 0 []) := by
                          rw [HS1.out, HS2.out]
                          exact HT1.out.app2 g1 g3 g4
                        clear g1 g3 g4 HT1 HR1 HR2
                        go_wp2
                        go_roundw
                        case rel => exact ⟨j + 1, a1, n1, c1, a7, n2 + 1, c7, by omega, by omega, by omega, by go_num, rfl, rfl, HN.out⟩
                        case measure => simp [intOf]; omega
                  · obtain ⟨WA, hWA⟩ : ∃ WA, WA = wr := ⟨_, rfl⟩
                    subst hWA
                    have HTA : Aside (Tri w2 WA a1 n1 c1 (xs.filter (fun m => !(keyB A) m)) a2 n2 c2 (xs.filter (keyB A)) none 0 0 []) := by
                      have := HTR.out
                      rw [List.take_of_length_le (by have := HD2.out.len; omega)] at this
                      exact this
                    have hn2e : n2 = (xs.filter (keyB A)).length := by have := HTA.out.r2.1; rw [mcells_length] at this; omega
                    have y0 := (HTA.out.bl.cell (p := ⟨T, 0, none⟩) HTL.out).trans t0
                    have y1 := (HTA.out.bl.cell (p := ⟨T, 1, none⟩) HTL.out).trans t1
                    have y2 := (HTA.out.bl.cell (p := ⟨T, 2, none⟩) HTL.out).trans t2
                    have HOA : Aside (OutAt WA p S last xs) := OutSt.below HD2.out.out HTA.out.bl
                    have hTA : T < WA.heap.size := by have := HTA.out.bl.size; have := HTL.out; omega
                    have HBWA : Aside (Below w.heap.size w WA) := HBW2.out.trans (HTA.out.bl.mono HBW2.out.size)
                    clear HTR t0 t1 t2 t3 t4
                    have HHD : Aside (Calls Try.prog 12 #[.pointer (some ⟨p, 0, none⟩), .int .i64 A] WA fun e w' => e = .returned (.tuple #[.agg #[.int .i64 (got xs A).key, .int .i64 (got xs A).kind, .int .i64 (got xs A).rma, .int .i64 (got xs A).value, .int .i64 (got xs A).tries, .int .i64 (got xs A).due], .bool (look xs A).isSome]) ∧ HeardOf WA p S last xs A w') := out_heard HOA.out A HWA.out
                    have hTS := HST.out.1
                    have HFD : Aside ((look xs A).isSome = false → n2 = 0 ∧ got xs A = msg0) := fun h => by
                      cases hl : look xs A with
                      | none => exact ⟨by rw [hn2e, gone_none hl]; rfl, by unfold got; rw [hl]; rfl⟩
                      | some m => rw [hl] at h; cases h
                    have HFT : Aside ((look xs A).isSome = true → n2 = 1 ∧ MRow WA a2 [got xs A]) := fun h => by
                      cases hl : look xs A with
                      | none => rw [hl] at h; cases h
                      | some m =>
                        have e1 := gone_some HD2.out.out.nd hl
                        have e2 : got xs A = m := by unfold got; rw [hl]; rfl
                        refine ⟨by rw [hn2e, e1]; rfl, ?_⟩
                        have r2 := HTA.out.r2
                        rw [e2, ← e1]
                        exact mrow_own r2 hn2e.symm
                    clear hn2e
                    generalize hgm : got xs A = gm at *
                    generalize hok : (look xs A).isSome = ok at *
                    clear hgm hok
                    go_wp2_with fail
                    refine Calls.mono HHD.out ?_
                    rintro e w9 ⟨rfl, h9, v9, -, -⟩
                    have HD3 : Aside (Duo w0 w9 p S last (xs.filter (fun m => !(keyB A) m)) a1 n1 c1 (k + 1)) := HD2.out.less HTA.out.bl h9 v9 HTA.out.r1
                    have q1 := (v9.cell (p := ⟨T, 1, none⟩) hTA hTS).trans y1
                    have q0 := (v9.cell (p := ⟨T, 0, none⟩) hTA hTS).trans y0
                    have hT3 : T < w9.heap.size := Nat.lt_of_lt_of_le hTA v9.size
                    have HRG : Aside (ok = true → MRow w9 a2 [gm]) := fun h => by
                      obtain ⟨h1, h2⟩ := HFT.out h
                      exact h2.upd v9 (fun b o e hb => by
                        have h3 := HTA.out.r2
                        rcases h3.2 with ⟨e4, _⟩ | ⟨g', cap, cur, e4, e5, _⟩
                        · injection e4 with e4 e6; omega
                        · injection e4 with e4
                          rw [e] at e4
                          injection e4 with e4
                          injection e4 with e4 _
                          subst e4
                          have := (HD2.out.inn _ hb).2
                          omega)
                    have B10 : Below w9.heap.size w9 (w9.alloc (.cells #[.int .i64 gm.key, .int .i64 gm.kind, .int .i64 gm.rma, .int .i64 gm.value, .int .i64 gm.tries, .int .i64 gm.due] 31)) := upd_box _
                    have M10 := MsgBox.made w9 gm
                    clear h9 v9 HHD y0 y1 y2 HTA HOA hn9 hl0 hnm
                    go_upto_region 38 with (fail)
                    obtain ⟨w10, hw10⟩ : ∃ w10, w10 = w9.alloc (.cells #[.int .i64 gm.key, .int .i64 gm.kind, .int .i64 gm.rma, .int .i64 gm.value, .int .i64 gm.tries, .int .i64 gm.due] 31) := ⟨_, rfl⟩
                    rw [← hw10] at B10 M10 ⊢
                    clear hw10
                    have HB10 : Aside (Below w9.heap.size w9 w10) := B10
                    obtain ⟨v0, v1, v2, v3, v4, v5⟩ := M10.cells
                    have hM10 : w9.heap.size < w10.heap.size := (Array.getElem?_eq_some_iff.1 M10.at').1
                    clear B10 M10
                    generalize hX9 : w9.heap.size = X at v0 v1 v2 v3 v4 v5 hM10 ⊢
                    clear hX9
                    go_cut [214] (fun s wx => s = .bool false ∧ Aside (Below w10.heap.size w10 wx))
                    case first =>
                      as_aux_lemma =>
                        cases ok
                        · obtain ⟨rfl, rfl⟩ := HFD.out rfl
                          have heq := msg_self 9998 msg0
                          unfold msg0 at *
                          dsimp only at *
                          go_quiet (fail)
                          go_wp2_with fail
                          go_meet
                          exact ⟨rfl, ⟨rfl, rfl, rfl, Nat.le_refl _, fun _ _ => rfl⟩⟩
                        · obtain ⟨rfl, -⟩ := HFT.out rfl
                          obtain ⟨b5, o5, hb5, l5, m5⟩ := (HRG.out rfl).at_ (by simp)
                          have u5 := m5 0 (by simp)
                          have g0 := (HB10.out.cell (p := ⟨b5, o5 + 0 * 6, none⟩) l5).trans u5.x0
                          have g1 := (HB10.out.cell (p := ⟨b5, o5 + 0 * 6 + 1, none⟩) l5).trans u5.x1
                          have g2 := (HB10.out.cell (p := ⟨b5, o5 + 0 * 6 + 2, none⟩) l5).trans u5.x2
                          have g3 := (HB10.out.cell (p := ⟨b5, o5 + 0 * 6 + 3, none⟩) l5).trans u5.x3
                          have g4 := (HB10.out.cell (p := ⟨b5, o5 + 0 * 6 + 4, none⟩) l5).trans u5.x4
                          have g5 := (HB10.out.cell (p := ⟨b5, o5 + 0 * 6 + 5, none⟩) l5).trans u5.x5
                          have e0 : mget [gm] 0 = gm := rfl
                          rw [Nat.zero_mul, Nat.add_zero] at g0 g1 g2 g3 g4 g5
                          rw [e0] at g0 g1 g2 g3 g4 g5
                          have heq := ref_self 9998 gm
                          subst hb5
                          clear u5 m5
                          obtain ⟨gk, gi, gr, gv, gt, gu⟩ := gm
                          dsimp only at *
                          go_quiet (fail)
                          go_wp2_with fail
                          go_meet
                          exact ⟨rfl, ⟨rfl, rfl, rfl, Nat.le_refl _, fun _ _ => rfl⟩⟩
                    case rest =>
                      obtain ⟨rfl, HBC⟩ := hcut
                      have HBC9 : Aside (Below w9.heap.size w9 wc) := HB10.out.trans (HBC.out.mono HB10.out.size)
                      have HD3' : Aside (Duo w0 wc p S last (xs.filter (fun m => !(keyB A) m)) a1 n1 c1 (k + 1)) := HD3.out.below HBC9.out
                      have q1' := (HBC9.out.cell (p := ⟨T, 1, none⟩) hT3).trans q1
                      have hT3' : T < wc.heap.size := Nat.lt_of_lt_of_le hT3 HBC9.out.size
                      clear HD3 q1 q0 hT3 v0 v1 v2 v3 v4 v5 HBC HBC9 HB10 hM10
                      have HD3 := HD3'
                      have q1 := q1'
                      have hT3 := hT3'
                      clear HD3' q1' hT3'
                      generalize hzs : xs.filter (fun m => !(keyB A) m) = zs at *
                      clear hzs
                      as_aux_lemma =>
                        have hn9 := HD3.out.num
                        have HL9 : Hid ((zs).length = n1) := HD3.out.len
                        have hnm : n1 ≤ 101 := by have := HL9.out; omega
                        go_wp2
                        go_loopw [19, 217] (fun s i wq => ∃ j : Nat, j ≤ n1 ∧ i = .int .i64 j ∧ s = .int .i64 (((((zs).take j).filter (waitB A)).length : Nat) : Int) ∧ Aside (Below wc.heap.size wc wq)) (fun _ i _ => n1 - (intOf i).toNat)
                        case atStart => exact ⟨0, Nat.zero_le _, rfl, rfl, Below.refl _ _⟩
                        case round =>
                          obtain ⟨j, hj, rfl, rfl, HQ⟩ := hrel
                          by_cases hjl : j < n1
                          · have hjz : (j : Int) < (n1 : Int) := by omega
                            obtain ⟨b3, o3, hb3, l3, m3⟩ := (HD3.out.mrow.below HQ.out).at_ (by have := HL9.out; omega)
                            obtain ⟨x0, x1, x2, x3, x4, x5⟩ := m3 j (by have := HL9.out; omega)
                            have q1q := (HQ.out.cell (p := ⟨T, 1, none⟩) hT3).trans q1
                            have HSN : Aside (_ = _) := filter_snoc (waitB A) ((zs).take j) (mget (zs) j)
                            rw [← mtake_at (by have := HL9.out; omega)] at HSN
                            have hcl : (((zs).take j).filter (waitB A)).length ≤ j := by
                              refine Nat.le_trans (List.length_filter_le _ _) ?_
                              rw [List.length_take]
                              omega
                            have hwq : waitB A (mget (zs) j) = (decide ((mget (zs) j).rma = A) && decide ((mget (zs) j).kind ≠ 1)) := rfl
                            rw [hwq] at HSN
                            clear m3 hwq
                            generalize mget (zs) j = m at *
                            obtain ⟨mk, mi, mr, mv, mt, mu⟩ := m
                            dsimp only at *
                            subst hb3
                            by_cases e1 : mr = A
                            · subst e1
                              by_cases e2 : mi = 1
                              · subst e2
                                have hE : Hid ((((zs).take (j + 1)).filter (waitB mr)).length = (((zs).take j).filter (waitB mr)).length) := by show _ = _; rw [HSN.out]; simp
                                go_wp2_with fail
                                go_quiet (fail)
                                go_wp2
                                go_roundw
                                case rel => exact ⟨j + 1, by omega, by go_num, by rw [hE.out], HQ.out.trans ⟨rfl, rfl, rfl, Nat.le_refl _, fun _ _ => rfl⟩⟩
                                case measure => simp [intOf]; omega
                              · have hne : (mi == 1) = false := by simpa using e2
                                have hE : Hid ((((zs).take (j + 1)).filter (waitB mr)).length = (((zs).take j).filter (waitB mr)).length + 1) := by show _ = _; rw [HSN.out]; simp [e2]
                                go_wp2_with fail
                                go_quiet (fail)
                                go_wp2
                                go_roundw
                                case rel => exact ⟨j + 1, by omega, by go_num, by rw [hE.out]; go_num, HQ.out.trans ⟨rfl, rfl, rfl, Nat.le_refl _, fun _ _ => rfl⟩⟩
                                case measure => simp [intOf]; omega
                            · have hne : (mr == A) = false := by simpa using e1
                              have hE : Hid ((((zs).take (j + 1)).filter (waitB A)).length = (((zs).take j).filter (waitB A)).length) := by show _ = _; rw [HSN.out]; simp [e1]
                              go_wp2_with fail
                              go_quiet (fail)
                              go_wp2
                              go_roundw
                              case rel => exact ⟨j + 1, by omega, by go_num, by rw [hE.out], HQ.out.trans ⟨rfl, rfl, rfl, Nat.le_refl _, fun _ _ => rfl⟩⟩
                              case measure => simp [intOf]; omega
                          · obtain ⟨WQ, hWQ⟩ : ∃ WQ, WQ = wr := ⟨_, rfl⟩
                            subst hWQ
                            have HD4 : Aside (Duo w0 WQ p S last (zs) a1 n1 c1 (k + 1)) := HD3.out.below HQ.out
                            have q1q := (HQ.out.cell (p := ⟨T, 1, none⟩) hT3).trans q1
                            have hT4 : T < WQ.heap.size := Nat.lt_of_lt_of_le hT3 HQ.out.size
                            have HFT : Hid ((((zs).take j).filter (waitB A)).length = ((zs).filter (waitB A)).length) := by show _ = _; rw [List.take_of_length_le (by have := HL9.out; omega)]
                            have HAL : Aside _ := out_all HD4.out.out HD4.out.rise (List.Perm.refl _)
                            clear HQ q1
                            go_wp2_with fail
                            refine Calls.mono HAL.out ?_
                            rintro e w21 ⟨a21, c21, rfl, r21, b21⟩
                            have HSM : Aside (Calls Try.prog 15 #[.slice a21 (zs).length c21, .slice a1 n1 c1] w21 fun e w' => e = .returned (.bool true) ∧ Below w21.heap.size w21 w') := by
                              have := law_same (n := (zs).length) (c := c21) (d := c1) (mrow_own r21 rfl) (HD4.out.mrow.below b21) rfl (by have := HL9.out; omega)
                              rw [← HL9.out]
                              exact this
                            have HB21 : Aside (Below WQ.heap.size WQ w21) := b21
                            clear r21 b21 HAL
                            go_wp2_with fail
                            refine Calls.mono HSM.out ?_
                            rintro e w22 ⟨rfl, b22⟩
                            have HB22 : Aside (Below WQ.heap.size WQ w22) := HB21.out.trans (b22.mono HB21.out.size)
                            have HNX : Aside (Calls Try.prog 17 #[.pointer (some ⟨p, 0, none⟩)] w22 fun e w' => e = .returned (.int .i64 (last + 1)) ∧ w22 = w') := out_next (OutSt.below HD4.out.out HB22.out) (by omega)
                            have HWT : Aside (Calls Try.prog 18 #[.pointer (some ⟨p, 0, none⟩), .int .i64 A] w22 fun e w' => e = .returned (.int .i64 (((zs).filter (waitB A)).length : Nat)) ∧ Below w22.heap.size w22 w') := out_waits (OutSt.below HD4.out.out HB22.out) A
                            have q22 := (HB22.out.cell (p := ⟨T, 1, none⟩) hT4).trans q1q
                            clear b22 HSM
                            go_wp2_with fail
                            refine Calls.mono HNX.out ?_
                            rintro e w23 ⟨rfl, rfl⟩
                            go_wp2_with fail
                            refine Calls.mono HWT.out ?_
                            rintro e w23 ⟨rfl, b23⟩
                            have HD5 : Aside (Duo w0 w23 p S last (zs) a1 n1 c1 (k + 1)) := HD4.out.below (HB22.out.trans (b23.mono HB22.out.size))
                            have hft := HFT.out
                            rw [hft]
                            clear b23 HNX HWT hft
                            go_wp2
                            go_roundw
                            case rel => exact ⟨k + 1, _, _, _, _, _, _, by omega, by go_num, rfl, rfl, HD5.out⟩
                            case measure => simp [intOf]; omega
              · have he4 : (K == 4) = false := by simpa using e4
                by_cases e5 : K = 5
                · subst e5
                  have hnm : nm ≤ 101 := by have := HD2.out.num; have := HD2.out.len; omega
                  go_wp2
                  go_loopw [9, 10, 115] (fun s9 s10 i wq => ∃ (j : Nat) (a1 : Option Addr) (n1 c1 : Nat) (a2 : Option Addr) (n2 c2 : Nat), j ≤ nm ∧ n1 ≤ j ∧ n2 ≤ j ∧ i = .int .i64 j ∧ s9 = .slice a1 n1 c1 ∧ s10 = .slice a2 n2 c2 ∧ Aside (Tri w2 wq a1 n1 c1 ((xs.take j).filter (fun m => !(dropB A B) m)) a2 n2 c2 ((xs.take j).filter (dropB A B)) none 0 0 [])) (fun _ _ i _ => nm - (intOf i).toNat)
                  case atStart => exact ⟨0, none, 0, 0, none, 0, 0, Nat.zero_le _, Nat.le_refl _, Nat.le_refl _, rfl, rfl, rfl, Tri.start w2⟩
                  case round =>
                    obtain ⟨j, a1, n1, c1, a2, n2, c2, hj, hn1, hn2, rfl, rfl, rfl, HTR⟩ := hrel
                    by_cases hjl : j < nm
                    · have hjz : (j : Int) < (nm : Int) := by omega
                      obtain ⟨b3, o3, hb3, l3, m3⟩ := (HD2.out.mrow.below HTR.out.bl).at_ (by have := HD2.out.len; omega)
                      obtain ⟨x0, x1, x2, x3, x4, x5⟩ := m3 j (by have := HD2.out.len; omega)
                      have y0 := (HTR.out.bl.cell (p := ⟨T, 0, none⟩) HTL.out).trans t0
                      have y1 := (HTR.out.bl.cell (p := ⟨T, 1, none⟩) HTL.out).trans t1
                      have y2 := (HTR.out.bl.cell (p := ⟨T, 2, none⟩) HTL.out).trans t2
                      have HS1 : Aside (_ = _) := filter_snoc (fun m => !(dropB A B) m) (xs.take j) (mget xs j)
                      have HS2 : Aside (_ = _) := filter_snoc (dropB A B) (xs.take j) (mget xs j)
                      rw [← mtake_at (by have := HD2.out.len; omega)] at HS1 HS2
                      clear m3
                      generalize mget xs j = m at *
                      obtain ⟨bb, hbb⟩ : ∃ bb, bb = (dropB A B) m := ⟨_, rfl⟩
                      have HBB : Hid (bb = (dropB A B) m) := hbb
                      rw [← hbb] at HS1 HS2
                      clear hbb
                      obtain ⟨mk, mi, mr, mv, mt, mu⟩ := m
                      have hn1b : n1 < 10000 := by omega
                      have hn2b : n2 < 10000 := by omega
                      dsimp only at *
                      subst hb3
                      go_upto_region 29 with (fail)
                      go_cut [155] (fun s wx => s = .bool bb ∧ Aside (Below wr.heap.size wr wx))
                      case first =>
                        as_aux_lemma =>
                          by_cases e1 : mr = A
                          · have he : (mr == A) = true := by simpa using e1
                            by_cases e2 : mi = B
                            · have he2 : (mi == B) = true := by simpa using e2
                              obtain rfl : bb = true := HBB.out.trans (by simp [dropB, e1, e2])
                              go_quiet (fail)
                              go_wp2_with fail
                              go_meet
                              exact ⟨rfl, ⟨rfl, rfl, rfl, Nat.le_refl _, fun _ _ => rfl⟩⟩
                            · have he2 : (mi == B) = false := by simpa using e2
                              obtain rfl : bb = false := HBB.out.trans (by simp [dropB, e2])
                              go_quiet (fail)
                              go_wp2_with fail
                              go_meet
                              exact ⟨rfl, ⟨rfl, rfl, rfl, Nat.le_refl _, fun _ _ => rfl⟩⟩
                          · have he : (mr == A) = false := by simpa using e1
                            obtain rfl : bb = false := HBB.out.trans (by simp [dropB, e1])
                            go_quiet (fail)
                            go_wp2_with fail
                            go_meet
                            exact ⟨rfl, ⟨rfl, rfl, rfl, Nat.le_refl _, fun _ _ => rfl⟩⟩
                      case rest =>
                        obtain ⟨rfl, HBC⟩ := hcut
                        have HT1 : Aside (Tri w2 wc a1 n1 c1 ((xs.take j).filter (fun m => !(dropB A B) m)) a2 n2 c2 ((xs.take j).filter (dropB A B)) none 0 0 []) := HTR.out.below HBC.out
                        have z0 := (HBC.out.cell (p := ⟨b3, o3 + j * 6, none⟩) l3).trans x0
                        have z1 := (HBC.out.cell (p := ⟨b3, o3 + j * 6 + 1, none⟩) l3).trans x1
                        have z2 := (HBC.out.cell (p := ⟨b3, o3 + j * 6 + 2, none⟩) l3).trans x2
                        have z3 := (HBC.out.cell (p := ⟨b3, o3 + j * 6 + 3, none⟩) l3).trans x3
                        have z4 := (HBC.out.cell (p := ⟨b3, o3 + j * 6 + 4, none⟩) l3).trans x4
                        have z5 := (HBC.out.cell (p := ⟨b3, o3 + j * 6 + 5, none⟩) l3).trans x5
                        have hbs : w2.heap.size ≤ wc.heap.size := HT1.out.bl.size
                        have HR1 : Aside (World.ownsRow _ _ _ _ _ _ _) := HT1.out.r1
                        have HR2 : Aside (World.ownsRow _ _ _ _ _ _ _) := HT1.out.r2
                        clear x0 x1 x2 x3 x4 x5 y0 y1 y2 HTR HBC HBB
                        cases bb
                        · go_wp2_with (at_builtin; refine wpList_append_at rfl _ _ 26 30 rfl Try.underlying26 info_refz w2.heap.size n1 c1 a1 _ rfl HR1.out ⟨mk, mi, mr, mv, mt, mu⟩ wc.heap.size rfl rfl hn1b hbs (n1 + 1) rfl ?_; intro a7 c7 w7 g1 g3 g4)
                          have HN : Aside (Tri w2 w7 a7 (n1 + 1) c7 ((xs.take (j + 1)).filter (fun m => !(dropB A B) m)) a2 n2 c2 ((xs.take (j + 1)).filter (dropB A B)) none 0 0 []) := by
                            rw [HS1.out, HS2.out]
                            exact HT1.out.app1 g1 g3 g4
                          clear g1 g3 g4 HT1 HR1 HR2
                          go_wp2
                          go_roundw
                          case rel => exact ⟨j + 1, a7, n1 + 1, c7, a2, n2, c2, by omega, by omega, by omega, by go_num, rfl, rfl, HN.out⟩
                          case measure => simp [intOf]; omega
                        · go_wp2_with (at_builtin; refine wpList_append_at rfl _ _ 26 30 rfl Try.underlying26 info_refz w2.heap.size n2 c2 a2 _ rfl HR2.out ⟨mk, mi, mr, mv, mt, mu⟩ wc.heap.size rfl rfl hn2b hbs (n2 + 1) rfl ?_; intro a7 c7 w7 g1 g3 g4)
                          have HN : Aside (Tri w2 w7 a1 n1 c1 ((xs.take (j + 1)).filter (fun m => !(dropB A B) m)) a7 (n2 + 1) c7 ((xs.take (j + 1)).filter (dropB A B)) none 0 0 []) := by
                            rw [HS1.out, HS2.out]
                            exact HT1.out.app2 g1 g3 g4
                          clear g1 g3 g4 HT1 HR1 HR2
                          go_wp2
                          go_roundw
                          case rel => exact ⟨j + 1, a1, n1, c1, a7, n2 + 1, c7, by omega, by omega, by omega, by go_num, rfl, rfl, HN.out⟩
                          case measure => simp [intOf]; omega
                    · obtain ⟨WA, hWA⟩ : ∃ WA, WA = wr := ⟨_, rfl⟩
                      subst hWA
                      have HTA : Aside (Tri w2 WA a1 n1 c1 (xs.filter (fun m => !(dropB A B) m)) a2 n2 c2 (xs.filter (dropB A B)) none 0 0 []) := by
                        have := HTR.out
                        rw [List.take_of_length_le (by have := HD2.out.len; omega)] at this
                        exact this
                      have hn2e : n2 = (xs.filter (dropB A B)).length := by have := HTA.out.r2.1; rw [mcells_length] at this; omega
                      have y0 := (HTA.out.bl.cell (p := ⟨T, 0, none⟩) HTL.out).trans t0
                      have y1 := (HTA.out.bl.cell (p := ⟨T, 1, none⟩) HTL.out).trans t1
                      have y2 := (HTA.out.bl.cell (p := ⟨T, 2, none⟩) HTL.out).trans t2
                      have HOA : Aside (OutAt WA p S last xs) := OutSt.below HD2.out.out HTA.out.bl
                      have hTA : T < WA.heap.size := by have := HTA.out.bl.size; have := HTL.out; omega
                      have HBWA : Aside (Below w.heap.size w WA) := HBW2.out.trans (HTA.out.bl.mono HBW2.out.size)
                      clear HTR t0 t1 t2 t3 t4
                      have HDR : Aside (Calls Try.prog 11 #[.pointer (some ⟨p, 0, none⟩), .int .i64 A, .int .i64 B] WA fun e w' => e = .returned (.int .i64 (n2 : Int)) ∧ OutAt w' p S last (xs.filter (fun m => !(dropB A B) m)) ∧ Upd S WA w') := by
                        rw [hn2e]
                        exact out_drop HOA.out A B
                      have hTS := HST.out.1
                      clear hn2e
                      go_wp2_with fail
                      refine Calls.mono HDR.out ?_
                      rintro e w9 ⟨rfl, h9, v9⟩
                      have HD3 : Aside (Duo w0 w9 p S last (xs.filter (fun m => !(dropB A B) m)) a1 n1 c1 (k + 1)) := HD2.out.less HTA.out.bl h9 v9 HTA.out.r1
                      have q1 := (v9.cell (p := ⟨T, 1, none⟩) hTA hTS).trans y1
                      have hT3 : T < w9.heap.size := Nat.lt_of_lt_of_le hTA v9.size
                      clear h9 v9 HDR y0 y1 y2 HTA HOA hn9 hl0 hnm
                      generalize hzs : xs.filter (fun m => !(dropB A B) m) = zs at *
                      clear hzs
                      as_aux_lemma =>
                        have hn9 := HD3.out.num
                        have HL9 : Hid ((zs).length = n1) := HD3.out.len
                        have hnm : n1 ≤ 101 := by have := HL9.out; omega
                        go_wp2
                        go_loopw [19, 217] (fun s i wq => ∃ j : Nat, j ≤ n1 ∧ i = .int .i64 j ∧ s = .int .i64 (((((zs).take j).filter (waitB A)).length : Nat) : Int) ∧ Aside (Below w9.heap.size w9 wq)) (fun _ i _ => n1 - (intOf i).toNat)
                        case atStart => exact ⟨0, Nat.zero_le _, rfl, rfl, Below.refl _ _⟩
                        case round =>
                          obtain ⟨j, hj, rfl, rfl, HQ⟩ := hrel
                          by_cases hjl : j < n1
                          · have hjz : (j : Int) < (n1 : Int) := by omega
                            obtain ⟨b3, o3, hb3, l3, m3⟩ := (HD3.out.mrow.below HQ.out).at_ (by have := HL9.out; omega)
                            obtain ⟨x0, x1, x2, x3, x4, x5⟩ := m3 j (by have := HL9.out; omega)
                            have q1q := (HQ.out.cell (p := ⟨T, 1, none⟩) hT3).trans q1
                            have HSN : Aside (_ = _) := filter_snoc (waitB A) ((zs).take j) (mget (zs) j)
                            rw [← mtake_at (by have := HL9.out; omega)] at HSN
                            have hcl : (((zs).take j).filter (waitB A)).length ≤ j := by
                              refine Nat.le_trans (List.length_filter_le _ _) ?_
                              rw [List.length_take]
                              omega
                            have hwq : waitB A (mget (zs) j) = (decide ((mget (zs) j).rma = A) && decide ((mget (zs) j).kind ≠ 1)) := rfl
                            rw [hwq] at HSN
                            clear m3 hwq
                            generalize mget (zs) j = m at *
                            obtain ⟨mk, mi, mr, mv, mt, mu⟩ := m
                            dsimp only at *
                            subst hb3
                            by_cases e1 : mr = A
                            · subst e1
                              by_cases e2 : mi = 1
                              · subst e2
                                have hE : Hid ((((zs).take (j + 1)).filter (waitB mr)).length = (((zs).take j).filter (waitB mr)).length) := by show _ = _; rw [HSN.out]; simp
                                go_wp2_with fail
                                go_quiet (fail)
                                go_wp2
                                go_roundw
                                case rel => exact ⟨j + 1, by omega, by go_num, by rw [hE.out], HQ.out.trans ⟨rfl, rfl, rfl, Nat.le_refl _, fun _ _ => rfl⟩⟩
                                case measure => simp [intOf]; omega
                              · have hne : (mi == 1) = false := by simpa using e2
                                have hE : Hid ((((zs).take (j + 1)).filter (waitB mr)).length = (((zs).take j).filter (waitB mr)).length + 1) := by show _ = _; rw [HSN.out]; simp [e2]
                                go_wp2_with fail
                                go_quiet (fail)
                                go_wp2
                                go_roundw
                                case rel => exact ⟨j + 1, by omega, by go_num, by rw [hE.out]; go_num, HQ.out.trans ⟨rfl, rfl, rfl, Nat.le_refl _, fun _ _ => rfl⟩⟩
                                case measure => simp [intOf]; omega
                            · have hne : (mr == A) = false := by simpa using e1
                              have hE : Hid ((((zs).take (j + 1)).filter (waitB A)).length = (((zs).take j).filter (waitB A)).length) := by show _ = _; rw [HSN.out]; simp [e1]
                              go_wp2_with fail
                              go_quiet (fail)
                              go_wp2
                              go_roundw
                              case rel => exact ⟨j + 1, by omega, by go_num, by rw [hE.out], HQ.out.trans ⟨rfl, rfl, rfl, Nat.le_refl _, fun _ _ => rfl⟩⟩
                              case measure => simp [intOf]; omega
                          · obtain ⟨WQ, hWQ⟩ : ∃ WQ, WQ = wr := ⟨_, rfl⟩
                            subst hWQ
                            have HD4 : Aside (Duo w0 WQ p S last (zs) a1 n1 c1 (k + 1)) := HD3.out.below HQ.out
                            have q1q := (HQ.out.cell (p := ⟨T, 1, none⟩) hT3).trans q1
                            have hT4 : T < WQ.heap.size := Nat.lt_of_lt_of_le hT3 HQ.out.size
                            have HFT : Hid ((((zs).take j).filter (waitB A)).length = ((zs).filter (waitB A)).length) := by show _ = _; rw [List.take_of_length_le (by have := HL9.out; omega)]
                            have HAL : Aside _ := out_all HD4.out.out HD4.out.rise (List.Perm.refl _)
                            clear HQ q1
                            go_wp2_with fail
                            refine Calls.mono HAL.out ?_
                            rintro e w21 ⟨a21, c21, rfl, r21, b21⟩
                            have HSM : Aside (Calls Try.prog 15 #[.slice a21 (zs).length c21, .slice a1 n1 c1] w21 fun e w' => e = .returned (.bool true) ∧ Below w21.heap.size w21 w') := by
                              have := law_same (n := (zs).length) (c := c21) (d := c1) (mrow_own r21 rfl) (HD4.out.mrow.below b21) rfl (by have := HL9.out; omega)
                              rw [← HL9.out]
                              exact this
                            have HB21 : Aside (Below WQ.heap.size WQ w21) := b21
                            clear r21 b21 HAL
                            go_wp2_with fail
                            refine Calls.mono HSM.out ?_
                            rintro e w22 ⟨rfl, b22⟩
                            have HB22 : Aside (Below WQ.heap.size WQ w22) := HB21.out.trans (b22.mono HB21.out.size)
                            have HNX : Aside (Calls Try.prog 17 #[.pointer (some ⟨p, 0, none⟩)] w22 fun e w' => e = .returned (.int .i64 (last + 1)) ∧ w22 = w') := out_next (OutSt.below HD4.out.out HB22.out) (by omega)
                            have HWT : Aside (Calls Try.prog 18 #[.pointer (some ⟨p, 0, none⟩), .int .i64 A] w22 fun e w' => e = .returned (.int .i64 (((zs).filter (waitB A)).length : Nat)) ∧ Below w22.heap.size w22 w') := out_waits (OutSt.below HD4.out.out HB22.out) A
                            have q22 := (HB22.out.cell (p := ⟨T, 1, none⟩) hT4).trans q1q
                            clear b22 HSM
                            go_wp2_with fail
                            refine Calls.mono HNX.out ?_
                            rintro e w23 ⟨rfl, rfl⟩
                            go_wp2_with fail
                            refine Calls.mono HWT.out ?_
                            rintro e w23 ⟨rfl, b23⟩
                            have HD5 : Aside (Duo w0 w23 p S last (zs) a1 n1 c1 (k + 1)) := HD4.out.below (HB22.out.trans (b23.mono HB22.out.size))
                            have hft := HFT.out
                            rw [hft]
                            clear b23 HNX HWT hft
                            go_wp2
                            go_roundw
                            case rel => exact ⟨k + 1, _, _, _, _, _, _, by omega, by go_num, rfl, rfl, HD5.out⟩
                            case measure => simp [intOf]; omega
                · have he5 : (K == 5) = false := by simpa using e5
                  have HOW : Aside (Calls Try.prog 13 #[.pointer (some ⟨p, 0, none⟩), .int .i64 D] w2 (AgainOf w2 p S last D xs)) := out_again HD2.out.out (fun q hq => (HD2.out.inn q hq).2) HD2.out.rise (fun m hm => by have := HD2.out.num.2.2 m hm; omega) (by omega) D (by omega)
                  go_wp2_with fail
                  refine Calls.mono HOW.out ?_
                  rintro e w9 ⟨a1, c1, a2, c2, S', rfl, r1, r2, h9, s9, v9⟩
                  have hTS := HST.out.1
                  have y1 := (v9.cell (p := ⟨T, 1, none⟩) HTL.out hTS).trans t1
                  have y4 := (v9.cell (p := ⟨T, 4, none⟩) HTL.out hTS).trans t4
                  have hT9 : T < w9.heap.size := Nat.lt_of_lt_of_le HTL.out v9.size
                  have HMR : Aside (MRow w9 am xs) := mrow_own (ownsRow_upd HD2.out.row v9 (fun q hq => HD2.out.off q hq)) HD2.out.len
                  have HLA : Aside (Calls Try.prog 14 #[.slice am nm cm, .int .i64 D] w9 (ModAgain w9 D xs)) := law_again HMR.out HD2.out.len (by omega) (fun m hm => by have := HD2.out.num.2.2 m hm; omega) D (by omega)
                  have HAG : Aside (OutAt w9 p S' last (agLeft D xs) ∧ (∀ q, S' q → (S q ∨ w2.heap.size ≤ q) ∧ q < w9.heap.size) ∧ Upd S w2 w9) := ⟨h9, s9, v9⟩
                  have HR1 : Aside (MRow w9 a1 (agSaid D (xs.filter (dueB D)))) := mrow_own r1 rfl
                  have HR2 : Aside (MRow w9 a2 (agOver (xs.filter (dueB D)))) := mrow_own r2 rfl
                  have hl1 : (agSaid D (xs.filter (dueB D))).length ≤ 900 := by
                    have h1 := List.length_filter_le (dueB D) xs
                    have h2 := List.length_filter_le (fun m => !overB m) (xs.filter (dueB D))
                    unfold agSaid
                    rw [List.length_map]
                    omega
                  have hl2 : (agOver (xs.filter (dueB D))).length ≤ 900 := by
                    have h1 := List.length_filter_le (dueB D) xs
                    have h2 := List.length_filter_le overB (xs.filter (dueB D))
                    unfold agOver
                    omega
                  clear r1 r2 h9 s9 v9 HOW HMR t0 t1 t2 t3 t4
                  go_wp2_with fail
                  refine Calls.mono HLA.out ?_
                  rintro e w8 ⟨a4, c4, a5, c5, a6, c6, rfl, htri⟩
                  have HTR : Aside (Tri w9 w8 a4 _ c4 _ a5 _ c5 _ a6 _ c6 _) := htri
                  have HB8 : Aside (Below w9.heap.size w9 w8) := htri.bl
                  have HSA : Aside (Calls Try.prog 15 #[.slice a1 (agSaid D (xs.filter (dueB D))).length c1, .slice a4 (agSaid D (xs.filter (dueB D))).length c4] w8 fun e w' => e = .returned (.bool true) ∧ Below w8.heap.size w8 w') := law_same (HR1.out.below htri.bl) (mrow_own htri.r1 rfl) rfl (by omega)
                  have HSB : Aside (∀ w', Below w8.heap.size w8 w' → Calls Try.prog 15 #[.slice a2 (agOver (xs.filter (dueB D))).length c2, .slice a5 (agOver (xs.filter (dueB D))).length c5] w' fun e w'' => e = .returned (.bool true) ∧ Below w'.heap.size w' w'') := fun w' hb => law_same (HR2.out.below (HB8.out.trans (hb.mono HB8.out.size))) ((mrow_own HTR.out.r2 rfl).below hb) rfl (by omega)
                  clear htri HLA HR1 HR2
                  generalize (agSaid D (xs.filter (dueB D))).length = N1 at *
                  generalize (agOver (xs.filter (dueB D))).length = N2 at *
                  go_wp2_with fail
                  refine Calls.mono HSA.out ?_
                  rintro e w11 ⟨rfl, b11⟩
                  have HB11 : Aside (Below w8.heap.size w8 w11) := b11
                  clear b11 HSA
                  go_wp2_with fail
                  refine Calls.mono (HSB.out _ HB11.out) ?_
                  rintro e w12 ⟨rfl, b12⟩
                  have HB12 : Aside (Below w8.heap.size w8 w12) := HB11.out.trans (b12.mono HB11.out.size)
                  have HB92 : Aside (Below w9.heap.size w9 w12) := HB8.out.trans (HB12.out.mono HB8.out.size)
                  have HD3 : Aside (Duo w0 w12 p S' last (agLeft D xs) a6 (agLeft D xs).length c6 (k + 1)) := HD2.out.again HAG.out.1 HAG.out.2.1 HAG.out.2.2 HB92.out (ownsRow_upd (S := fun _ => False) HTR.out.r3 (Upd.below HB12.out) (fun _ _ x => x))
                  have q1 := (HB92.out.cell (p := ⟨T, 1, none⟩) hT9).trans y1
                  have hT3 : T < w12.heap.size := Nat.lt_of_lt_of_le hT9 HB92.out.size
                  clear b12 HSB HB11 HB12 HB92 HTR HAG y1 y4 hn9 hl0 hl1 hl2
                  generalize hzs : agLeft D xs = zs at *
                  clear hzs
                  obtain ⟨n6, hn6⟩ : ∃ n6, n6 = zs.length := ⟨_, rfl⟩
                  rw [← hn6] at HD3 ⊢
                  clear hn6
                  as_aux_lemma =>
                    have hn9 := HD3.out.num
                    have HL9 : Hid ((zs).length = n6) := HD3.out.len
                    have hnm : n6 ≤ 101 := by have := HL9.out; omega
                    go_wp2
                    go_loopw [19, 217] (fun s i wq => ∃ j : Nat, j ≤ n6 ∧ i = .int .i64 j ∧ s = .int .i64 (((((zs).take j).filter (waitB A)).length : Nat) : Int) ∧ Aside (Below w12.heap.size w12 wq)) (fun _ i _ => n6 - (intOf i).toNat)
                    case atStart => exact ⟨0, Nat.zero_le _, rfl, rfl, Below.refl _ _⟩
                    case round =>
                      obtain ⟨j, hj, rfl, rfl, HQ⟩ := hrel
                      by_cases hjl : j < n6
                      · have hjz : (j : Int) < (n6 : Int) := by omega
                        obtain ⟨b3, o3, hb3, l3, m3⟩ := (HD3.out.mrow.below HQ.out).at_ (by have := HL9.out; omega)
                        obtain ⟨x0, x1, x2, x3, x4, x5⟩ := m3 j (by have := HL9.out; omega)
                        have q1q := (HQ.out.cell (p := ⟨T, 1, none⟩) hT3).trans q1
                        have HSN : Aside (_ = _) := filter_snoc (waitB A) ((zs).take j) (mget (zs) j)
                        rw [← mtake_at (by have := HL9.out; omega)] at HSN
                        have hcl : (((zs).take j).filter (waitB A)).length ≤ j := by
                          refine Nat.le_trans (List.length_filter_le _ _) ?_
                          rw [List.length_take]
                          omega
                        have hwq : waitB A (mget (zs) j) = (decide ((mget (zs) j).rma = A) && decide ((mget (zs) j).kind ≠ 1)) := rfl
                        rw [hwq] at HSN
                        clear m3 hwq
                        generalize mget (zs) j = m at *
                        obtain ⟨mk, mi, mr, mv, mt, mu⟩ := m
                        dsimp only at *
                        subst hb3
                        by_cases e1 : mr = A
                        · subst e1
                          by_cases e2 : mi = 1
                          · subst e2
                            have hE : Hid ((((zs).take (j + 1)).filter (waitB mr)).length = (((zs).take j).filter (waitB mr)).length) := by show _ = _; rw [HSN.out]; simp
                            go_wp2_with fail
                            go_quiet (fail)
                            go_wp2
                            go_roundw
                            case rel => exact ⟨j + 1, by omega, by go_num, by rw [hE.out], HQ.out.trans ⟨rfl, rfl, rfl, Nat.le_refl _, fun _ _ => rfl⟩⟩
                            case measure => simp [intOf]; omega
                          · have hne : (mi == 1) = false := by simpa using e2
                            have hE : Hid ((((zs).take (j + 1)).filter (waitB mr)).length = (((zs).take j).filter (waitB mr)).length + 1) := by show _ = _; rw [HSN.out]; simp [e2]
                            go_wp2_with fail
                            go_quiet (fail)
                            go_wp2
                            go_roundw
                            case rel => exact ⟨j + 1, by omega, by go_num, by rw [hE.out]; go_num, HQ.out.trans ⟨rfl, rfl, rfl, Nat.le_refl _, fun _ _ => rfl⟩⟩
                            case measure => simp [intOf]; omega
                        · have hne : (mr == A) = false := by simpa using e1
                          have hE : Hid ((((zs).take (j + 1)).filter (waitB A)).length = (((zs).take j).filter (waitB A)).length) := by show _ = _; rw [HSN.out]; simp [e1]
                          go_wp2_with fail
                          go_quiet (fail)
                          go_wp2
                          go_roundw
                          case rel => exact ⟨j + 1, by omega, by go_num, by rw [hE.out], HQ.out.trans ⟨rfl, rfl, rfl, Nat.le_refl _, fun _ _ => rfl⟩⟩
                          case measure => simp [intOf]; omega
                      · obtain ⟨WQ, hWQ⟩ : ∃ WQ, WQ = wr := ⟨_, rfl⟩
                        subst hWQ
                        have HD4 : Aside (Duo w0 WQ p S' last (zs) a6 n6 c6 (k + 1)) := HD3.out.below HQ.out
                        have q1q := (HQ.out.cell (p := ⟨T, 1, none⟩) hT3).trans q1
                        have hT4 : T < WQ.heap.size := Nat.lt_of_lt_of_le hT3 HQ.out.size
                        have HFT : Hid ((((zs).take j).filter (waitB A)).length = ((zs).filter (waitB A)).length) := by show _ = _; rw [List.take_of_length_le (by have := HL9.out; omega)]
                        have HAL : Aside _ := out_all HD4.out.out HD4.out.rise (List.Perm.refl _)
                        clear HQ q1
                        go_wp2_with fail
                        refine Calls.mono HAL.out ?_
                        rintro e w21 ⟨a21, c21, rfl, r21, b21⟩
                        have HSM : Aside (Calls Try.prog 15 #[.slice a21 (zs).length c21, .slice a6 n6 c6] w21 fun e w' => e = .returned (.bool true) ∧ Below w21.heap.size w21 w') := by
                          have := law_same (n := (zs).length) (c := c21) (d := c6) (mrow_own r21 rfl) (HD4.out.mrow.below b21) rfl (by have := HL9.out; omega)
                          rw [← HL9.out]
                          exact this
                        have HB21 : Aside (Below WQ.heap.size WQ w21) := b21
                        clear r21 b21 HAL
                        go_wp2_with fail
                        refine Calls.mono HSM.out ?_
                        rintro e w22 ⟨rfl, b22⟩
                        have HB22 : Aside (Below WQ.heap.size WQ w22) := HB21.out.trans (b22.mono HB21.out.size)
                        have HNX : Aside (Calls Try.prog 17 #[.pointer (some ⟨p, 0, none⟩)] w22 fun e w' => e = .returned (.int .i64 (last + 1)) ∧ w22 = w') := out_next (OutSt.below HD4.out.out HB22.out) (by omega)
                        have HWT : Aside (Calls Try.prog 18 #[.pointer (some ⟨p, 0, none⟩), .int .i64 A] w22 fun e w' => e = .returned (.int .i64 (((zs).filter (waitB A)).length : Nat)) ∧ Below w22.heap.size w22 w') := out_waits (OutSt.below HD4.out.out HB22.out) A
                        have q22 := (HB22.out.cell (p := ⟨T, 1, none⟩) hT4).trans q1q
                        clear b22 HSM
                        go_wp2_with fail
                        refine Calls.mono HNX.out ?_
                        rintro e w23 ⟨rfl, rfl⟩
                        go_wp2_with fail
                        refine Calls.mono HWT.out ?_
                        rintro e w23 ⟨rfl, b23⟩
                        have HD5 : Aside (Duo w0 w23 p S' last (zs) a6 n6 c6 (k + 1)) := HD4.out.below (HB22.out.trans (b23.mono HB22.out.size))
                        have hft := HFT.out
                        rw [hft]
                        clear b23 HNX HWT hft
                        go_wp2
                        go_roundw
                        case rel => exact ⟨k + 1, _, _, _, _, _, _, by omega, by go_num, rfl, rfl, HD5.out⟩
                        case measure => simp [intOf]; omega
      · obtain rfl : k = n := by omega
        have HF : Aside (Below w.heap.size w wr) := HB0.out.trans (HD.out.up.mono HB0.out.size)
        clear HD
        go_wp2
        go_ret
        exact ⟨rfl, HF.out⟩

theorem outboxPlays_contract (W : World) (args : Array Value) (h : Each Try.prog W Try.f3.params.toList args.toList) :
    Calls Try.prog 3 args W fun e W' => e = .returned (.bool true) ∧ Below W.heap.size W W' := by
  rw [Try.params3] at h
  obtain ⟨v0, r0, e0, ⟨_, o0⟩, d0, h⟩ := h.cons
  obtain rfl := h.nil
  obtain ⟨args⟩ := args
  obtain rfl : args = [v0] := e0
  obtain ⟨sa0, sn0, sc0, rfl, hsc0⟩ := val_slice o0 Try.underlying22
  rw [hsc0] at d0
  obtain ⟨g0, hg0, hw0⟩ := oacts_of d0
  exact outboxPlays_law _ _ _ g0 W hg0 hw0

theorem outboxPlays_lifted (os : Os) (started : os.Started) (H : Type) (enc : TypeId × Value → H) :
    ReturnsInHanded {} Try.checked os 3 .any (Rows.outboxPlaysSpec.pre6 enc Try.prog Try.f3 Rows.outboxPlaysRow.domain false) (Rows.outboxPlaysSpec.post enc Try.prog Try.f3 false true false false) :=
  law_lifted (C := Try.checked) seat_own seat_laid (by kernel_rfl) Try.func3 rfl (tb := 4) rfl Try.underlying4
    (by
      rw [Try.params3]; intro t ht; simp at ht
      obtain rfl := ht; exact ⟨by kernel_rfl, of_decide_eq_true (by kernel_rfl)⟩)
    (fun H ds hl => by
      rw [Try.params3] at hl
      match ds, hl with
      | [d1], _ => rfl)
    os started H enc
    (ChangeSpec.witness6 (enc := enc) (C := Try.checked) false ⟨#[], #[.slice none 0 0], []⟩ 8 (by kernel_rfl) (by kernel_rfl) (by kernel_rfl) (by kernel_rfl))
    outboxPlays_contract

theorem outboxPlays_holds : Rows.OutboxPlaysSaid :=
  OpenClaim.holds_of_wide 3 Try.f3 rfl rfl rfl rfl rfl rfl rfl ⟨rfl, rfl, rfl, rfl, rfl⟩ rfl rfl rfl rfl rfl (by kernel_rfl) Try.func3 (by kernel_rfl)
    (of_decide_eq_true (by kernel_rfl)) (by unfold Func.isWrapper; first | (rw [if_pos (by decide +kernel)]; kernel_rfl) | (rw [if_neg (by decide +kernel)]; exact ⟨rfl, rfl⟩))
    (fun os started H enc _ => outboxPlays_lifted os started H enc)
#print axioms outboxPlays_holds
end Go.Proofs.Ytcnheikckfhniaa
