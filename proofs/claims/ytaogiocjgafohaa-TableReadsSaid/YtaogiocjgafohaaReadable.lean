/-
  The statements' reading of a table: recouplaw08.readable. Conditions: those of each theorem.
-/
import Derived.Test.YtaogiocjgafohaaPolRow
import Derived.Deep.RegionHeld3
import Derived.StillTailTactics
namespace Go.Proofs.Ytaogiocjgafohaa
open Go.RowKit
set_option maxRecDepth 100000

theorem info_polz : (Try.prog.info? 40).map (fun i => (i.zero, i.size, i.bytes)) = some (some (.agg (Pol.arr ⟨0, false, false, false, fun _ => 0, fun _ => 0, fun _ => 0⟩)), 16, 112) := by kernel_rfl
theorem pol_one (p : Pol) : ∀ u ∈ p.arr.toList, u.oneCell' = true := by
  intro u hu
  simp only [Pol.arr, List.mem_cons, List.not_mem_nil, or_false] at hu
  rcases hu with rfl | rfl | rfl | rfl | rfl | rfl | rfl | rfl | rfl | rfl | rfl | rfl | rfl | rfl | rfl | rfl <;> rfl
theorem pol_news (w : World) (p : Pol) (t : TypeId) : ∀ j u, p.arr.toList[j]? = some u → (w.alloc (.cells p.arr t)).cell? ((⟨w.heap.size, 0, none⟩ : Addr).add j) = some u := by
  intro j u hj
  have e : (⟨w.heap.size, 0, none⟩ : Addr).add j = ⟨w.heap.size, 0 + j, none⟩ := by unfold Addr.add; split <;> simp_all
  rw [e]
  exact (pol_new w p t).cells j u (by rwa [Array.getElem?_toList] at hj)
theorem polsBytes_snoc (ps : List Pol) (p : Pol) : polsBytes (ps ++ [p]) = polsBytes ps ++ polBytes p := by simp [polsBytes]
/-- The policy as it begins. -/
def polStart (V f : Nat) : Pol := { win := V, fin := bits .and .u8 (f : Int) 1 == 1, exc := bits .and .u8 (f : Int) 2 == 2, cre := bits .and .u8 (f : Int) 4 == 4, fee := fun _ => 0, share := fun _ => 0, dest := fun _ => 0 }
theorem polStart_flags (V f : Nat) (h : f ≤ 7) : (polStart V f).flags = f := by
  have key : ∀ f : Fin 8, ((if (bits .and .u8 ((f : Nat) : Int) 1 == 1) = true then 1 else 0) + (if (bits .and .u8 ((f : Nat) : Int) 2 == 2) = true then 2 else 0) + (if (bits .and .u8 ((f : Nat) : Int) 4 == 4) = true then 4 else 0) : Int) = ((f : Nat) : Int) := by decide +kernel
  exact key ⟨f, by omega⟩
theorem seg_len {xs : List UInt8} {i n : Nat} (h : i + n ≤ xs.length) : ((xs.drop i).take n).length = n := by simp; omega
theorem seg_step (xs : List UInt8) (a n m : Nat) : (xs.drop a).take (n + m) = (xs.drop a).take n ++ (xs.drop (a + n)).take m := by
  rw [List.take_add, List.drop_drop]
theorem seg_one {xs : List UInt8} {i : Nat} (h : i < xs.length) : (xs.drop i).take 1 = [xs[i]] := by
  rw [List.drop_eq_getElem_cons h]
  rfl
theorem u8of_nat (x : UInt8) : u8of ((x.toNat : Nat) : Int) = x := by
  unfold u8of
  simp
theorem fee_step {p : Pol} {xs : List UInt8} {j A a : Nat} (h : feeBytes p j = (xs.drop a).take (2 * j)) (hA : A = a + 2 * j) (hl : ((xs.drop A).take 2).length = 2) :
    feeBytes (p.setFee j ((numLe ((xs.drop A).take 2) : Nat) : Int)) (j + 1) = (xs.drop a).take (2 * (j + 1)) := by
  show feeBytes (p.setFee j _) j ++ le (putAt p.fee j _ j) 2 = _
  rw [feeBytes_set p j _ j (Nat.le_refl _), putAt_same, le_two hl, h, show 2 * (j + 1) = 2 * j + 2 by omega, seg_step, ← hA]
theorem grade_step {p : Pol} {xs : List UInt8} {j B a : Nat} (h : gradeBytes p j = (xs.drop a).take (3 * j)) (hB : B = a + 3 * j) (hl : ((xs.drop B).take 2).length = 2) (hi : B + 2 < xs.length) :
    gradeBytes (p.setGrade j ((numLe ((xs.drop B).take 2) : Nat) : Int) ((xs[B + 2].toNat : Nat) : Int)) (j + 1) = (xs.drop a).take (3 * (j + 1)) := by
  show gradeBytes (p.setGrade j _ _) j ++ (le (putAt p.share j _ j) 2 ++ [u8of (putAt p.dest j _ j)]) = _
  rw [gradeBytes_set p j _ _ j (Nat.le_refl _), putAt_same, putAt_same, le_two hl, u8of_nat, h, show 3 * (j + 1) = 3 * j + (2 + 1) by omega, seg_step, ← hB, seg_step, seg_one hi]
theorem pol_whole {p : Pol} {xs : List UInt8} {I : Nat} (hl : I + 23 ≤ xs.length) (hw : p.win = ((numLe ((xs.drop I).take 2) : Nat) : Int)) (hf : p.flags = (((xs[I + 2]'(by omega)).toNat : Nat) : Int))
    (h3 : feeBytes p 4 = (xs.drop (I + 3)).take 8) (h4 : gradeBytes p 4 = (xs.drop (I + 11)).take 12) : polBytes p = (xs.drop I).take 23 := by
  unfold polBytes
  rw [hw, hf, le_two (seg_len (by omega)), u8of_nat, h3, h4, ← seg_one (show I + 2 < xs.length by omega)]
  rw [show (23 : Nat) = 2 + (1 + (8 + 12)) from rfl, seg_step, seg_step, seg_step]
theorem table_whole {ps : List Pol} {xs : List UInt8} {N : Nat} (hl : xs.length = 2 + 23 * N) (hn : ps.length = N) (hN : numLe ((xs.drop 0).take 2) = N) (hp : polsBytes ps = (xs.drop 2).take (23 * N)) : tableBytes ps = xs := by
  unfold tableBytes
  have e : (xs.drop 2).take (23 * N) = xs.drop 2 := List.take_of_length_le (by simp; omega)
  rw [hn, ← hN, le_two (seg_len (by omega)), hp, e, List.drop_zero, List.take_append_drop]
theorem upd_setg {w w' : World} {g j : Nat} {u : Value} (h : Upd (fun k => k = g) w w') : Upd (fun k => k = g) w (w'.setCell ⟨g, j, none⟩ u) := h.setCell (p := ⟨g, j, none⟩) (.inl rfl) u
theorem wrap_plus {a : Int} (h : -9223372036854775808 ≤ a ∧ a ≤ 9223372036854775807) : IntKind.i64.wrap a = a := by
  rw [IntKind.wrap_i64]
  omega
theorem below_alloc1 {w w' : World} (h : Below w.heap.size w w') (o : Obj) : Below w.heap.size w (w'.alloc o) := h.alloc h.size o
theorem seg {w : World} {b off : Nat} {xs : List UInt8} (hb : b < w.heap.size) (hc : ∀ i (h : i < xs.length), w.cell? ⟨b, off + i, none⟩ = some (.int .u8 (xs[i].toNat : Int))) (i n : Nat) : IsBytes w (some ⟨b, off + i, none⟩) ((xs.drop i).take n) := by
  refine .inr ⟨b, off + i, rfl, hb, fun j hj => ?_⟩
  have hj2 : i + j < xs.length := by simp at hj; omega
  rw [List.getElem_take, List.getElem_drop, Nat.add_assoc]
  exact hc (i + j) hj2
theorem num_small {xs : List UInt8} (h : xs.length = 2) : numLe xs < 65536 := by have := numLe_lt xs; rw [h] at this; simpa using this
theorem u64r_two {xs : List UInt8} (h : xs.length = 2) : u64r (numLe xs) = numLe xs := u64r_small (by have := num_small h; omega)
theorem number_two {a : Option Addr} {xs : List UInt8} {c : Nat} {w : World} (hm : xs.length = 2) (hx : IsBytes w a xs) :
    Calls Try.prog 28 #[.slice a 2 c] w fun e w' => e = .returned (.int .u64 ((numLe xs : Nat) : Int)) ∧ w = w' := by
  have := number_ref a xs 2 c w hm hx (by decide)
  rwa [u64r_two hm] at this

set_option maxHeartbeats 4000000 in
theorem ref_readable (a : Option Addr) (xs : List UInt8) (m c : Nat) (w : World) (hm : xs.length = m) (hx : IsBytes w a xs) (hmc : m ≤ c) (hcm : c ≤ maxLen) (hl : m ≤ 5000) :
    Calls Try.prog 15 #[.slice a m c] w fun e w' => (∃ r : Bool, e = .returned (.bool r) ∧ (r = true → ∃ ps, rightT ps = true ∧ tableBytes ps = xs)) ∧ Below w.heap.size w w' := by
  unfold maxLen at hcm
  have HM := Lib.hid hm
  by_cases h2 : m < 2
  · have h2' : (m : Int) < 2 := by omega
    clear hm
    go_enter Try.func15, Try.ntmps15
    go_wp2
    go_ret
    exact ⟨⟨false, rfl, fun h => by cases h⟩, Below.refl _ _⟩
  · have h2' : ¬ (m : Int) < 2 := by omega
    rcases hx with rfl | ⟨b, off, rfl, hb, hc⟩
    · simp at hm; omega
    have HN2 : Hid (((xs.drop 0).take 2).length = 2) := seg_len (by omega)
    have HS : Aside (IsBytes w (some ⟨b, off + 0, none⟩) ((xs.drop 0).take 2)) := seg hb hc 0 2
    have hNs := num_small HN2.out
    have HNum : Aside _ := @number_two (some ⟨b, off, none⟩) ((xs.drop 0).take 2) c w HN2.out HS.out
    generalize hN : numLe ((xs.drop 0).take 2) = N at *
    have HN := Lib.hid hN
    clear hm hN
    by_cases hq : m = 2 + 23 * N
    · have hq' : ((m : Int) != 2 + 23 * (N : Int)) = false := by simp; omega
      have HQ := Lib.hid hq
      clear hq
      go_enter Try.func15, Try.ntmps15
      go_wp2_with fail
      refine Calls.mono HNum.out ?_
      rintro e w1 ⟨rfl, rfl⟩
      go_wp2
      go_loopw [3, 4] (fun s i wr => ∃ (k I : Nat) (ps : List Pol) (a' : Option Addr) (c' : Nat), k ≤ N ∧ Hid (I = 2 + 23 * k) ∧ i = .int .i64 (I : Nat) ∧ s = .slice a' k c' ∧ Aside (wr.ownsRow w.heap.size 40 16 (.slice a' k c') k (polCells ps)) ∧ Aside (Below w.heap.size w wr) ∧ Hid (polsBytes ps = (xs.drop 2).take (23 * k))) (fun _ i _ => m - (intOf i).toNat)
      case atStart => exact ⟨0, 2, [], none, 0, Nat.zero_le _, rfl, rfl, rfl, World.ownsRow_nil _ _ _ _, Below.refl _ _, rfl⟩
      case round =>
        obtain ⟨k, I, ps, a', c', hk, HI, rfl, rfl, HO, HB, HP⟩ := hrel
        by_cases hlt : k < N
        · have hI23 : I + 23 ≤ m := by have := HI.out; have := HQ.out; omega
          have hIm : (I : Int) < (m : Int) := by omega
          have hI2 : (I : Int) + 2 < (m : Int) := by omega
          have hIc : (I : Int) + 2 ≤ (c : Int) := by omega
          have hIl : I + 2 < xs.length := by rw [HM.out]; omega
          have hbr : b < wr.heap.size := Nat.lt_of_lt_of_le hb HB.out.size
          have cf := hc (I + 2) hIl
          rw [← HB.out.cell (p := ⟨b, off + (I + 2), none⟩) hb] at cf
          have hf8 : xs[I + 2].toNat < 256 := xs[I + 2].toNat_lt
          generalize hf : xs[I + 2].toNat = f at *
          have HF := Lib.hid hf
          clear hf
          have HL1 : Hid (((xs.drop I).take 2).length = 2) := seg_len (by rw [HM.out]; omega)
          have HS1 : Aside (IsBytes wr (some ⟨b, off + I, none⟩) ((xs.drop I).take 2)) := (seg hb hc I 2).below HB.out
          have hVs := num_small HL1.out
          have HN1 : Aside (∀ (W : World) (cc : Nat), Below wr.heap.size wr W → Calls Try.prog 28 #[.slice (some ⟨b, off + I, none⟩) 2 cc] W fun e w' => e = .returned (.int .u64 ((numLe ((xs.drop I).take 2) : Nat) : Int)) ∧ W = w') :=
            fun W cc h => number_two HL1.out (HS1.out.below h)
          generalize hV : numLe ((xs.drop I).take 2) = V at *
          have HV := Lib.hid hV
          clear hV
          have b0 := Below.refl wr.heap.size wr
          have hI0 : (0 : Int) ≤ (I : Int) := by omega
          have hI1 : (I : Int) ≤ (I : Int) + 2 := by omega
          have hI3 : (0 : Int) ≤ (I : Int) + 2 := by omega
          have hne : ¬ c = I := by omega
          have hT : ((I : Int) + 2).toNat = I + 2 := by omega
          have hwI : IntKind.i64.wrap ((I : Int) + 2) = (I : Int) + 2 := wrap_plus (by omega)
          have hwV : IntKind.i64.wrap (V : Int) = (V : Int) := wrap_plus (by omega)
          obtain ⟨p0, hp0⟩ : ∃ p0 : Pol, p0 = polStart V f := ⟨_, rfl⟩
          have HP0 := Lib.hid hp0
          clear hp0
          go_upto_region 7 with (fail)
          go_cut [5] (fun s5 wx => s5 = .pointer (some ⟨wr.heap.size, 0, none⟩) ∧ wx = (wr.alloc (.cells p0.arr 40)).drew)
          case first =>
            as_aux_lemma =>
              go_region_held3 (fun w' => Below wr.heap.size wr w' ∧ w'.cell? ⟨b, off + (I + 2), none⟩ = some (.int .u8 (f : Int)))
                (refine ⟨?_, (Below.cell (p := ⟨b, off + (I + 2), none⟩) (B := wr.heap.size) ?_ hbr).trans cf⟩ <;> (with_reducible (repeat (first | assumption | refine Below.drew ?_ | refine below_alloc1 ?_ _))))
                ((go_at_call 28; refine Calls.mono (HN1.out _ _ ?_) ?_; (with_reducible (repeat (first | assumption | refine Below.drew ?_ | refine below_alloc1 ?_ _))); rintro e w3 ⟨rfl, rfl⟩))
              all_goals
                go_wp2_with fail
                go_meet
                exact ⟨rfl, by rw [HP0.out]; rfl⟩
          case rest =>
            obtain ⟨rfl, rfl⟩ := hcut
            have hBX : Aside (PolBox (wr.alloc (.cells p0.arr 40)).drew wr.heap.size p0) := (polBox_new wr p0 _).drew
            have hRW : Aside ((wr.alloc (.cells p0.arr 40)).drew.ownsRow w.heap.size 40 16 (.slice a' k c') k (polCells ps)) := ownsRow_upd HO.out (below_upd (fun _ => False) (upd_box _).drew) (fun _ _ x => x)
            have hAP : Hid (∀ b, (Value.slice a' k c').ownBlock = some b → b ≠ wr.heap.size) := fun b hb => Nat.ne_of_lt (own_lt HO.out hb)
            have hBB : Aside (Below w.heap.size w (wr.alloc (.cells p0.arr 40)).drew) := (HB.out.alloc HB.out.size _).drew
            have hgB : Hid (w.heap.size ≤ wr.heap.size) := HB.out.size
            clear HO HB b0 HN1 HS1 hwI hwV hT
            generalize (wr.alloc (.cells p0.arr 40)).drew = w2 at *
            generalize wr.heap.size = g at *
            have hbr2 : b < w2.heap.size := Nat.lt_of_lt_of_le hb hBB.out.size
            have cf2 : w2.cell? ⟨b, off + (I + 2), none⟩ = some (.int .u8 (f : Int)) := by rw [hBB.out.cell (p := ⟨b, _, none⟩) hb]; have := hc (I + 2) hIl; rw [HF.out] at this; exact this
            by_cases h7 : f ≤ 7
            · have h7' : ¬ (7 : Int) < (f : Int) := by omega
              go_wp2
              clear cf2
              go_loopw [62] (fun i wq => ∃ (j : Nat) (p : Pol), j ≤ 4 ∧ i = .int .i64 j ∧ Aside (PolBox wq g p) ∧ Hid (p.win = p0.win ∧ p.flags = p0.flags ∧ feeBytes p j = (xs.drop (I + 3)).take (2 * j) ∧ gradeBytes p j = (xs.drop (I + 11)).take (3 * j)) ∧ Aside (wq.ownsRow w.heap.size 40 16 (.slice a' k c') k (polCells ps)) ∧ Aside (Below w.heap.size w wq)) (fun i _ => 4 - (intOf i).toNat)
              case atStart => exact ⟨0, p0, by omega, rfl, hBX, ⟨rfl, rfl, rfl, rfl⟩, hRW, hBB⟩
              case round =>
                clear hBX hRW hBB
                obtain ⟨j, p, hj, rfl, HX, HPJ, HO, HB⟩ := hrel
                by_cases hj4 : j < 4
                · have hj4' : (j : Int) < 4 := by omega
                  obtain ⟨A, hA⟩ : ∃ A, A = I + 3 + 2 * j := ⟨_, rfl⟩
                  have q1 : (0 : Int) ≤ (I : Int) + 3 + 2 * (j : Int) := by omega
                  have q2 : (I : Int) + 3 + 2 * (j : Int) ≤ (I : Int) + 5 + 2 * (j : Int) := by omega
                  have q3 : (I : Int) + 5 + 2 * (j : Int) ≤ (c : Int) := by omega
                  have q4 : ((I : Int) + 3 + 2 * (j : Int)).toNat = A := by omega
                  have q5 : ((I : Int) + 5 + 2 * (j : Int)).toNat = A + 2 := by omega
                  have q6 : ¬ c = A := by omega
                  have HA := Lib.hid hA
                  have hbq : b < wr.heap.size := Nat.lt_of_lt_of_le hb HB.out.size
                  have HL2 : Hid (((xs.drop A).take 2).length = 2) := seg_len (by rw [HM.out]; omega)
                  have HS2 : Aside (IsBytes wr (some ⟨b, off + A, none⟩) ((xs.drop A).take 2)) := (seg hb hc A 2).below HB.out
                  have hFs := num_small HL2.out
                  have HNA : Aside (∀ cc, Calls Try.prog 28 #[.slice (some ⟨b, off + A, none⟩) 2 cc] wr fun e w' => e = .returned (.int .u64 ((numLe ((xs.drop A).take 2) : Nat) : Int)) ∧ wr = w') := fun cc => number_two HL2.out HS2.out
                  have HFS : Hid (feeBytes (p.setFee j ((numLe ((xs.drop A).take 2) : Nat) : Int)) (j + 1) = (xs.drop (I + 3)).take (2 * (j + 1))) := fee_step HPJ.out.2.2.1 hA HL2.out
                  generalize numLe ((xs.drop A).take 2) = fe at *
                  have hwF : IntKind.i64.wrap (fe : Int) = (fe : Int) := wrap_plus (by omega)
                  have xc := HX.out.at0.fee j hj4
                  have xf := HX.out.fz
                  clear hA
                  go_wp2_with fail
                  refine (HNA.out _).mono ?_
                  rintro e w3 ⟨rfl, rfl⟩
                  go_upto_region 14 with (fail)
                  have HX2 : Aside (PolBox (wr.setCell ⟨g, 4 + j, none⟩ (.int .i64 (fe : Int))) g (p.setFee j fe)) := HX.out.setFee j hj4 fe
                  have HO2 : Aside ((wr.setCell ⟨g, 4 + j, none⟩ (.int .i64 (fe : Int))).ownsRow w.heap.size 40 16 (.slice a' k c') k (polCells ps)) := ownsRow_upd HO.out (upd_set (w := wr) (p := g) (4 + j) _) (fun b hb e => hAP.out b hb e)
                  have HB2 : Aside (Below w.heap.size w (wr.setCell ⟨g, 4 + j, none⟩ (.int .i64 (fe : Int)))) := HB.out.setCell hgB.out _
                  clear HX HO HB xc xf q1 q2 q3 q4 q5 q6 hwF HNA HS2 hbq
                  generalize wr.setCell ⟨g, 4 + j, none⟩ (.int .i64 (fe : Int)) = w3 at *
                  obtain ⟨B, hBe⟩ : ∃ B, B = I + 11 + 3 * j := ⟨_, rfl⟩
                  have q1 : (0 : Int) ≤ (I : Int) + 11 + 3 * (j : Int) := by omega
                  have q2 : (I : Int) + 11 + 3 * (j : Int) ≤ (I : Int) + 13 + 3 * (j : Int) := by omega
                  have q3 : (I : Int) + 13 + 3 * (j : Int) ≤ (c : Int) := by omega
                  have q4 : ((I : Int) + 11 + 3 * (j : Int)).toNat = B := by omega
                  have q5 : ((I : Int) + 13 + 3 * (j : Int)).toNat = B + 2 := by omega
                  have q6 : ¬ c = B := by omega
                  have q7 : (I : Int) + 13 + 3 * (j : Int) < (m : Int) := by omega
                  have q8 : (0 : Int) ≤ (I : Int) + 13 + 3 * (j : Int) := by omega
                  have hBl : B + 2 < xs.length := by rw [HM.out]; omega
                  have HL3 : Hid (((xs.drop B).take 2).length = 2) := seg_len (by omega)
                  have HS3 : Aside (IsBytes w3 (some ⟨b, off + B, none⟩) ((xs.drop B).take 2)) := (seg hb hc B 2).below HB2.out
                  have hSs := num_small HL3.out
                  have hbg : Hid (b ≠ g) := by have := hgB.out; show _ ≠ _; omega
                  have hb3 : b < w3.heap.size := Nat.lt_of_lt_of_le hb HB2.out.size
                  have HNB : Aside (∀ W cc, Upd (fun k => k = g) w3 W → Calls Try.prog 28 #[.slice (some ⟨b, off + B, none⟩) 2 cc] W fun e w' => e = .returned (.int .u64 ((numLe ((xs.drop B).take 2) : Nat) : Int)) ∧ W = w') :=
                    fun W cc h => number_two HL3.out (HS3.out.upd h (fun _ x hx e => by injection hx with hx; subst hx; exact hbg.out e))
                  have HGS : Hid (gradeBytes ((p.setFee j fe).setGrade j ((numLe ((xs.drop B).take 2) : Nat) : Int) ((xs[B + 2].toNat : Nat) : Int)) (j + 1) = (xs.drop (I + 11)).take (3 * (j + 1))) :=
                    grade_step (p := p.setFee j fe) (by rw [gradeBytes_setFee]; exact HPJ.out.2.2.2) hBe HL3.out hBl
                  have xb := hc (B + 2) hBl
                  rw [← HB2.out.cell (p := ⟨b, off + (B + 2), none⟩) hb] at xb
                  have hT8 : xs[B + 2].toNat < 256 := xs[B + 2].toNat_lt
                  generalize numLe ((xs.drop B).take 2) = sh at *
                  generalize xs[B + 2].toNat = ds at *
                  have hwS : IntKind.i64.wrap (sh : Int) = (sh : Int) := wrap_plus (by omega)
                  have hwD : IntKind.i64.wrap (ds : Int) = (ds : Int) := wrap_plus (by omega)
                  have y1 := HX2.out.at0.share j hj4
                  have y2 := HX2.out.at0.dest j hj4
                  have yf := HX2.out.fz
                  clear hBe
                  have HQJ : Hid (((p.setFee j fe).setGrade j sh ds).win = p0.win ∧ ((p.setFee j fe).setGrade j sh ds).flags = p0.flags ∧ feeBytes ((p.setFee j fe).setGrade j sh ds) (j + 1) = (xs.drop (I + 3)).take (2 * (j + 1)) ∧ gradeBytes ((p.setFee j fe).setGrade j sh ds) (j + 1) = (xs.drop (I + 11)).take (3 * (j + 1))) :=
                    ⟨HPJ.out.1, HPJ.out.2.1, by rw [feeBytes_setGrade]; exact HFS.out, HGS.out⟩
                  have HX4 : Aside (PolBox _ g ((p.setFee j fe).setGrade j sh ds)) := (HX2.out.setGrade j hj4 sh ds).drew
                  have HO4 : Aside (((w3.setCell ⟨g, 8 + j * 2, none⟩ (.int .i64 (sh : Int))).setCell ⟨g, 8 + j * 2 + 1, none⟩ (.int .i64 (ds : Int))).drew.ownsRow w.heap.size 40 16 (.slice a' k c') k (polCells ps)) :=
                    ownsRow_upd HO2.out (upd_setg (upd_setg (Upd.refl (fun k => k = g) w3))).drew (fun b hb e => hAP.out b hb e)
                  have HB4 : Aside (Below w.heap.size w ((w3.setCell ⟨g, 8 + j * 2, none⟩ (.int .i64 (sh : Int))).setCell ⟨g, 8 + j * 2 + 1, none⟩ (.int .i64 (ds : Int))).drew) := ((HB2.out.setCell hgB.out _).setCell hgB.out _).drew
                  clear HGS HFS HPJ HX2 HO2 HB2
                  have u0 := Upd.refl (fun k => k = g) w3
                  have v1 : IntKind.i64.wrap ((I : Int) + 11) = (I : Int) + 11 := wrap_plus (by omega)
                  have v2 : IntKind.i64.wrap (3 * (j : Int)) = 3 * (j : Int) := wrap_plus (by omega)
                  have v3 : IntKind.i64.wrap ((I : Int) + 11 + 3 * (j : Int)) = (I : Int) + 11 + 3 * (j : Int) := wrap_plus (by omega)
                  have v4 : IntKind.i64.wrap ((I : Int) + 13) = (I : Int) + 13 := wrap_plus (by omega)
                  have v5 : IntKind.i64.wrap ((I : Int) + 13 + 3 * (j : Int)) = (I : Int) + 13 + 3 * (j : Int) := wrap_plus (by omega)
                  go_region_held3 (fun w' => Upd (fun k => k = g) w3 w' ∧ w'.cell? ⟨b, off + (B + 2), none⟩ = some (.int .u8 (ds : Int)))
                    (refine ⟨?_, (Upd.cell (S := fun k => k = g) (w := w3) (p := ⟨b, off + (B + 2), none⟩) ?_ hb3 hbg.out).trans xb⟩ <;> (with_reducible (repeat (first | assumption | refine upd_setg ?_ | refine Upd.drew ?_))))
                    ((go_at_call 28; refine Calls.mono (HNB.out _ _ ?_) ?_; (with_reducible (repeat (first | assumption | refine Upd.drew ?_))); rintro e w4 ⟨rfl, rfl⟩))
                  all_goals
                    go_wp2_with fail
                    go_roundw
                    case rel => exact ⟨j + 1, _, hj4, by go_num, HX4, HQJ, HO4, HB4⟩
                    case measure => simp [intOf]; omega
                · have hj4' : ¬ (j : Int) < 4 := by omega
                  have hjE : j = 4 := by omega
                  have HPB : Hid (polsBytes (ps ++ [p]) = (xs.drop 2).take (23 * (k + 1))) := by
                    show _ = _
                    have h9 := HPJ.out
                    rw [hjE] at h9
                    rw [polsBytes_snoc, HP.out, pol_whole (p := p) (xs := xs) (I := I) (by rw [HM.out]; exact hI23) (by rw [h9.1, HP0.out, HV.out]; rfl) (by rw [h9.2.1, HP0.out, polStart_flags V f h7, HF.out]) h9.2.2.1 h9.2.2.2]
                    rw [show 23 * (k + 1) = 23 * k + 23 by omega, seg_step, ← HI.out]
                  have hall := HX.out.at0.all
                  simp only [Nat.zero_add] at hall
                  obtain ⟨z0, z1, z2, z3, z4, z5, z6, z7, z8, z9, za, zb, zc, zd, ze, zf⟩ := hall
                  clear hjE HPJ
                  have HRW : (wr.alloc (.cells p.arr 40)).ownsRow w.heap.size 40 16 (.slice a' k c') k (polCells ps) := ownsRow_upd HO.out (below_upd (fun _ => False) (upd_box _)) (fun _ _ x => x)
                  have hK9 : k + 1 ≤ 1000 := by have := HQ.out; omega
                  have HBA : Below w.heap.size w (wr.alloc (.cells p.arr 40)) := HB.out.alloc HB.out.size _
                  go_wp2_with (at_builtin; refine wpList_append_full rfl _ _ 22 rfl w.heap.size 40 _ 16 112 Try.underlying22 info_polz rfl (by decide) (.slice a' k c') k _ rfl HRW ⟨wr.heap.size, 0, none⟩ 1 1 p.arr.toList rfl rfl (pol_news wr p 40) (pol_one p) (by unfold maxLen; omega) (by omega) HBA.size ?_; intro a9 c9 w9 r1 r2 r3)
                  have HR9 : Aside (w9.ownsRow w.heap.size 40 16 (.slice a9 (k + 1) c9) (k + 1) (polCells (ps ++ [p]))) := by
                    show World.ownsRow _ _ _ _ _ _ _
                    rw [polCells_snoc]
                    exact r1
                  have HB9 : Aside (Below w.heap.size w w9) := HBA.grown r2 HBA.size (fun g hg => own_ge HRW hg)
                  clear r1 r2 r3 HRW HBA z0 z1 z2 z3 z4 z5 z6 z7 z8 z9 za zb zc zd ze zf
                  go_roundw
                  case rel => exact ⟨k + 1, I + 23, ps ++ [p], a9, c9, hlt, by have := HI.out; show _ = _; omega, by go_num, rfl, HR9, HB9, HPB⟩
                  case measure => simp [intOf]; omega
            · have h7' : (7 : Int) < (f : Int) := by omega
              go_wp2
              go_ret
              exact ⟨⟨false, rfl, fun h => by cases h⟩, hBB.out⟩
        · have hkN : k = N := by omega
          have hIm : ¬ (I : Int) < (m : Int) := by have := HI.out; have := HQ.out; omega
          obtain ⟨hpa, hpl⟩ := polsAt_of_row HO.out
          have HRT : Aside _ := ref_rightTable a' ps k c' wr hpl hpa (by unfold maxLen; have := HQ.out; omega)
          have HTW : Hid (tableBytes ps = xs) := table_whole (N := N) (by rw [HM.out]; exact HQ.out) (by rw [hpl, hkN]) HN.out (by rw [HP.out, hkN])
          clear hkN hpa hpl
          go_wp2_with fail
          refine Calls.mono HRT.out ?_
          rintro e w9 ⟨rfl, b9⟩
          go_wp2
          go_ret
          exact ⟨⟨rightT ps, rfl, fun h => ⟨ps, h, HTW.out⟩⟩, HB.out.trans (b9.mono HB.out.size)⟩
    · have hq' : ((m : Int) != 2 + 23 * (N : Int)) = true := by simp; omega
      clear hq
      go_enter Try.func15, Try.ntmps15
      go_wp2_with fail
      refine Calls.mono HNum.out ?_
      rintro e w1 ⟨rfl, rfl⟩
      go_wp2
      go_ret
      exact ⟨⟨false, rfl, fun h => by cases h⟩, Below.refl _ _⟩
end Go.Proofs.Ytaogiocjgafohaa
