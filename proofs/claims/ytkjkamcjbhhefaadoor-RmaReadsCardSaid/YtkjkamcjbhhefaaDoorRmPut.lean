/-
  Package rma: Put. Conditions: those of each theorem.
-/
import Derived.Test.YtkjkamcjbhhefaaDoorRmOut
import Derived.Test.YtkjkamcjbhhefaaDoorRmLaw
import Derived.Test.YtkjkamcjbhhefaaDoorRmRight
namespace Go.Proofs.YtkjkamcjbhhefaaDoor
open Go.RowKit
set_option maxRecDepth 100000

theorem i64_wrap (v : Int) : I64 (wrap64 v) := by unfold I64 wrap64; omega
theorem fits_wrap {v : Int} {n : Nat} (h : I64 v) (hf : fits (v + 1) n = true) (hn : n ≤ 2) : wrap64 (v + 1) = v + 1 := by
  unfold fits at hf
  simp only [Bool.and_eq_true, decide_eq_true_eq] at hf
  have h2 : (2 : Int) ^ (8 * n) ≤ 65536 := by
    match n, hn with
    | 0, _ => decide
    | 1, _ => decide
    | 2, _ => decide
  unfold wrap64
  unfold I64 at h
  omega
theorem getElem_fit {us : List Int} (h : ∀ x ∈ us, I64 x) {k : Nat} (hk : k < us.length) : I64 us[k] := h _ (List.getElem_mem hk)

set_option maxHeartbeats 8000000 in
theorem rma_put (r : Ret) (us gs : List Int) {w : World} {p : Nat} {S : Nat → Prop} {ys : List UInt8} (h : OutAt w p S ys false) (hr : RetAt w r us gs) (hf : Fit64 r us gs) (hu : r.uN ≤ 300) (hg : r.gN ≤ 300) (hy : ys.length ≤ 900000)
    (hau : 0 < r.uN → ∀ b o, r.uA = some ⟨b, o, none⟩ → ¬ S b) (hag : 0 < r.gN → ∀ b o, r.gA = some ⟨b, o, none⟩ → ¬ S b) :
    Calls Tryd.prog 23 #[.pointer (some ⟨p, 0, none⟩), .agg #[.int .i64 r.num, .int .i64 r.ord, .int .i64 r.rea, .int .i64 r.want, .int .i64 r.res, .bool r.cred, .int .i64 r.st, .int .i64 r.day, .slice r.uA r.uN r.uC, .slice r.gA r.gN r.gC, .int .i64 r.wor, .int .i64 r.pai, .int .i64 r.cre, .int .i64 r.giv]] w fun e w' => e = .returned (.tuple #[]) ∧ ∃ W, Below w.heap.size w W ∧ OutRun W p S ys (FitR r us gs) (rmaBytes r us gs) 700 w' := by
  obtain ⟨n0, n1, n2, n3, n4, n5, n6, n7, uA, uN, uC, gA, gN, gC, n10, n11, n12, n13⟩ := r
  dsimp only at *
  obtain ⟨W, hW, hs2, hb2, X1⟩ := one_box w 32 ⟨n0, n1, n2, n3, n4, n5, n6, n7, uA, uN, uC, gA, gN, gC, n10, n11, n12, n13⟩
  dsimp only at hW
  have HX : Aside (RetBox W w.heap.size 32 ⟨n0, n1, n2, n3, n4, n5, n6, n7, uA, uN, uC, gA, gN, gC, n10, n11, n12, n13⟩) := X1
  have HNG : Hid (¬ S w.heap.size) := fun x => Nat.lt_irrefl _ (h.lt _ x)
  have HB : Aside (Below w.heap.size w W) := hb2
  obtain ⟨Q, hQ⟩ : ∃ Q, Q = FitR ⟨n0, n1, n2, n3, n4, n5, n6, n7, uA, uN, uC, gA, gN, gC, n10, n11, n12, n13⟩ us gs := ⟨_, rfl⟩
  rw [← hQ]
  have HQ : Hid (Q → FitR ⟨n0, n1, n2, n3, n4, n5, n6, n7, uA, uN, uC, gA, gN, gC, n10, n11, n12, n13⟩ us gs) := fun q => hQ ▸ q
  have H0 : Aside (OutRun W p S ys Q [] 0 W) := OutRun.start (h.below hb2)
  clear hQ
  have HU : Aside (LiAt W uA uN uC us) := hr.u.below hb2
  have HG : Aside (LiAt W gA gN gC gs) := hr.g.below hb2
  have HAU : Hid (0 < uN → ∀ b o, uA = some ⟨b, o, none⟩ → ¬ S b) := hau
  have HAG : Hid (0 < gN → ∀ b o, gA = some ⟨b, o, none⟩ → ¬ S b) := hag
  have HF : Aside (Fit64 ⟨n0, n1, n2, n3, n4, n5, n6, n7, uA, uN, uC, gA, gN, gC, n10, n11, n12, n13⟩ us gs) := hf
  clear h hr hf hau hag X1 hb2 hs2
  go_enter Tryd.func23, Tryd.ntmps23
  go_upto_region 1 with (fail)
  rw [← hW]
  clear hW
  obtain ⟨g1, hg1⟩ : ∃ g, g = w.heap.size := ⟨_, rfl⟩
  rw [← hg1] at HX HNG ⊢
  clear hg1
  have HLU : Hid (us.length = uN) := HU.out.len
  have HLG : Hid (gs.length = gN) := HG.out.len
  have HC : Aside _ := H0.out.u8 n0 HF.out.num (by omega) (fun q => (HQ.out q).num)
  obtain ⟨y0, y1, y2, y3, y4, y5, y6, y7, y8, y9, y10, y11, y12, y13⟩ := (HX.out.upd H0.out.upd HNG.out).cells
  have hl1 := (HX.out.upd H0.out.upd HNG.out).lt
  dsimp only at y0 y1 y2 y3 y4 y5 y6 y7 y8 y9 y10 y11 y12 y13
  go_wp2_with fail
  refine Calls.mono HC.out ?_
  rintro e w1 ⟨rfl, ho⟩
  have H1 : Aside (OutRun W p S ys Q (le n0 1) 1 w1) := OutRun.conv ho (fun _ => by rw [List.nil_append])
  clear HC ho
  clear y0 y1 y2 y3 y4 y5 y6 y7 y8 y9 y10 y11 y12 y13 hl1
  have HC : Aside _ := H1.out.u8 n1 HF.out.ord (by omega) (fun q => (HQ.out q).ord)
  obtain ⟨y0, y1, y2, y3, y4, y5, y6, y7, y8, y9, y10, y11, y12, y13⟩ := (HX.out.upd H1.out.upd HNG.out).cells
  have hl1 := (HX.out.upd H1.out.upd HNG.out).lt
  dsimp only at y0 y1 y2 y3 y4 y5 y6 y7 y8 y9 y10 y11 y12 y13
  go_wp2_with fail
  refine Calls.mono HC.out ?_
  rintro e w2 ⟨rfl, ho⟩
  have H2 : Aside (OutRun W p S ys Q (le n0 1 ++ le n1 1) 2 w2) := ho
  clear HC ho H1
  clear y0 y1 y2 y3 y4 y5 y6 y7 y8 y9 y10 y11 y12 y13 hl1
  have HC : Aside _ := H2.out.u8 n2 HF.out.rea (by omega) (fun q => (HQ.out q).rea)
  obtain ⟨y0, y1, y2, y3, y4, y5, y6, y7, y8, y9, y10, y11, y12, y13⟩ := (HX.out.upd H2.out.upd HNG.out).cells
  have hl1 := (HX.out.upd H2.out.upd HNG.out).lt
  dsimp only at y0 y1 y2 y3 y4 y5 y6 y7 y8 y9 y10 y11 y12 y13
  go_wp2_with fail
  refine Calls.mono HC.out ?_
  rintro e w3 ⟨rfl, ho⟩
  have H3 : Aside (OutRun W p S ys Q (le n0 1 ++ le n1 1 ++ le n2 1) 3 w3) := ho
  clear HC ho H2
  clear y0 y1 y2 y3 y4 y5 y6 y7 y8 y9 y10 y11 y12 y13 hl1
  have HC : Aside _ := H3.out.u16 n3 HF.out.want (by omega) (fun q => (HQ.out q).want)
  obtain ⟨y0, y1, y2, y3, y4, y5, y6, y7, y8, y9, y10, y11, y12, y13⟩ := (HX.out.upd H3.out.upd HNG.out).cells
  have hl1 := (HX.out.upd H3.out.upd HNG.out).lt
  dsimp only at y0 y1 y2 y3 y4 y5 y6 y7 y8 y9 y10 y11 y12 y13
  go_wp2_with fail
  refine Calls.mono HC.out ?_
  rintro e w4 ⟨rfl, ho⟩
  have H4 : Aside (OutRun W p S ys Q (le n0 1 ++ le n1 1 ++ le n2 1 ++ le n3 2) 5 w4) := ho
  clear HC ho H3
  clear y0 y1 y2 y3 y4 y5 y6 y7 y8 y9 y10 y11 y12 y13 hl1
  have HC : Aside _ := H4.out.u16 (wrap64 (n4 + 1)) (i64_wrap _) (by omega) (fun q => by rw [fits_wrap HF.out.res (HQ.out q).res (by decide)]; exact (HQ.out q).res)
  obtain ⟨y0, y1, y2, y3, y4, y5, y6, y7, y8, y9, y10, y11, y12, y13⟩ := (HX.out.upd H4.out.upd HNG.out).cells
  have hl1 := (HX.out.upd H4.out.upd HNG.out).lt
  dsimp only at y0 y1 y2 y3 y4 y5 y6 y7 y8 y9 y10 y11 y12 y13
  go_wp2_with fail
  refine Calls.mono HC.out ?_
  rintro e w5 ⟨rfl, ho⟩
  have H5 : Aside (OutRun W p S ys Q (le n0 1 ++ le n1 1 ++ le n2 1 ++ le n3 2 ++ le (n4 + 1) 2) 7 w5) := OutRun.conv ho (fun q => by rw [fits_wrap HF.out.res (HQ.out q).res (by decide)])
  clear HC ho H4
  clear y0 y1 y2 y3 y4 y5 y6 y7 y8 y9 y10 y11 y12 y13 hl1
  have HC : Aside _ := H5.out.flag n5 (by omega)
  obtain ⟨y0, y1, y2, y3, y4, y5, y6, y7, y8, y9, y10, y11, y12, y13⟩ := (HX.out.upd H5.out.upd HNG.out).cells
  have hl1 := (HX.out.upd H5.out.upd HNG.out).lt
  dsimp only at y0 y1 y2 y3 y4 y5 y6 y7 y8 y9 y10 y11 y12 y13
  go_wp2_with fail
  refine Calls.mono HC.out ?_
  rintro e w6 ⟨rfl, ho⟩
  have H6 : Aside (OutRun W p S ys Q (le n0 1 ++ le n1 1 ++ le n2 1 ++ le n3 2 ++ le (n4 + 1) 2 ++ le (flagI n5) 1) 8 w6) := ho
  clear HC ho H5
  clear y0 y1 y2 y3 y4 y5 y6 y7 y8 y9 y10 y11 y12 y13 hl1
  have HC : Aside _ := H6.out.u8 n6 HF.out.st (by omega) (fun q => (HQ.out q).st)
  obtain ⟨y0, y1, y2, y3, y4, y5, y6, y7, y8, y9, y10, y11, y12, y13⟩ := (HX.out.upd H6.out.upd HNG.out).cells
  have hl1 := (HX.out.upd H6.out.upd HNG.out).lt
  dsimp only at y0 y1 y2 y3 y4 y5 y6 y7 y8 y9 y10 y11 y12 y13
  go_wp2_with fail
  refine Calls.mono HC.out ?_
  rintro e w7 ⟨rfl, ho⟩
  have H7 : Aside (OutRun W p S ys Q (le n0 1 ++ le n1 1 ++ le n2 1 ++ le n3 2 ++ le (n4 + 1) 2 ++ le (flagI n5) 1 ++ le n6 1) 9 w7) := ho
  clear HC ho H6
  clear y0 y1 y2 y3 y4 y5 y6 y7 y8 y9 y10 y11 y12 y13 hl1
  have HC : Aside _ := H7.out.u32 n7 HF.out.day (by omega) (fun q => (HQ.out q).day)
  obtain ⟨y0, y1, y2, y3, y4, y5, y6, y7, y8, y9, y10, y11, y12, y13⟩ := (HX.out.upd H7.out.upd HNG.out).cells
  have hl1 := (HX.out.upd H7.out.upd HNG.out).lt
  dsimp only at y0 y1 y2 y3 y4 y5 y6 y7 y8 y9 y10 y11 y12 y13
  go_wp2_with fail
  refine Calls.mono HC.out ?_
  rintro e w8 ⟨rfl, ho⟩
  have H8 : Aside (OutRun W p S ys Q (le n0 1 ++ le n1 1 ++ le n2 1 ++ le n3 2 ++ le (n4 + 1) 2 ++ le (flagI n5) 1 ++ le n6 1 ++ le n7 4) 13 w8) := ho
  clear HC ho H7
  clear y0 y1 y2 y3 y4 y5 y6 y7 y8 y9 y10 y11 y12 y13 hl1
  have HC : Aside _ := H8.out.u16 (uN : Int) (by unfold I64; omega) (by omega) (fun q => (by have := (HQ.out q).len; rw [HLU.out] at this; exact this))
  obtain ⟨y0, y1, y2, y3, y4, y5, y6, y7, y8, y9, y10, y11, y12, y13⟩ := (HX.out.upd H8.out.upd HNG.out).cells
  have hl1 := (HX.out.upd H8.out.upd HNG.out).lt
  dsimp only at y0 y1 y2 y3 y4 y5 y6 y7 y8 y9 y10 y11 y12 y13
  go_wp2_with fail
  refine Calls.mono HC.out ?_
  rintro e w9 ⟨rfl, ho⟩
  have H9 : Aside (OutRun W p S ys Q (le n0 1 ++ le n1 1 ++ le n2 1 ++ le n3 2 ++ le (n4 + 1) 2 ++ le (flagI n5) 1 ++ le n6 1 ++ le n7 4 ++ le (uN : Int) 2) 15 w9) := ho
  clear HC ho H8
  clear y0 y1 y2 y3 y4 y5 y6 y7 y8 y9 y10 y11 y12 y13 hl1
  obtain ⟨bsA, hbsA⟩ : ∃ b, b = le n0 1 ++ le n1 1 ++ le n2 1 ++ le n3 2 ++ le (n4 + 1) 2 ++ le (flagI n5) 1 ++ le n6 1 ++ le n7 4 ++ le (uN : Int) 2 := ⟨_, rfl⟩
  rw [← hbsA] at H9
  have HBA := Lib.hid hbsA
  clear hbsA H0
  obtain ⟨y0, y1, y2, y3, y4, y5, y6, y7, y8, y9, y10, y11, y12, y13⟩ := (HX.out.upd H9.out.upd HNG.out).cells
  have hl1 := (HX.out.upd H9.out.upd HNG.out).lt
  dsimp only at y0 y1 y2 y3 y4 y5 y6 y7 y8 y9 y10 y11 y12 y13
  have HPV := H9
  go_wp2
  clear y0 y1 y2 y3 y4 y5 y6 y7 y8 y9 y10 y11 y12 y13 hl1
  go_loopw [5, 49] (fun _ i wr => ∃ k : Nat, k ≤ uN ∧ i = .int .i64 k ∧ Aside (OutRun W p S ys Q (bsA ++ listB 0 (us.take k)) (15 + k) wr)) (fun _ i _ => uN - (intOf i).toNat)
  case atStart => exact ⟨0, Nat.zero_le _, rfl, OutRun.conv HPV.out (fun _ => by rw [List.take_zero, listB, List.append_nil])⟩
  case round =>
    clear HPV H9
    obtain ⟨k, hk, rfl, HO⟩ := hrel
    by_cases hlt : k < uN
    · have hkn : (k : Int) < (uN : Int) := by omega
      have hk0 : (0 : Int) ≤ (k : Int) := by omega
      have hl1 : k < us.length := by rw [HLU.out]; exact hlt
      have HLW : Aside (IsInts wr uA us) := HU.out.at'.upd HO.out.upd (fun b o e _ => HAU.out (by omega) b o e)
      rcases HLW.out with e | ⟨b, off, hA, hb, hcs⟩
      · rw [e] at hl1; exact absurd hl1 (Nat.not_lt_zero _)
      have hck := hcs k hl1
      have HIX : Hid (I64 us[k]) := HF.out.us _ (List.getElem_mem hl1)
      have HFX : Hid (Q → fits (us[k] + 0) 1 = true) := fun q => (HQ.out q).us _ (List.getElem_mem hl1)
      have HTX : Hid (bsA ++ listB 0 (us.take (k + 1)) = bsA ++ listB 0 (us.take k) ++ le (us[k] + 0) 1) := by
        show _ = _
        rw [listB_take 0 us k hl1, List.append_assoc]
      clear hcs
      generalize us[k] = x at *
      subst hA
      have HC : Aside _ := HO.out.u8 x HIX.out (by omega) (fun q => by have := HFX.out q; rwa [Int.add_zero] at this)
      go_wp2_with fail
      refine Calls.mono HC.out ?_
      rintro e w20 ⟨rfl, ho⟩
      have HO2 : Aside (OutRun W p S ys Q (bsA ++ listB 0 (us.take (k + 1))) (15 + (k + 1)) w20) := OutRun.conv ho (fun _ => by rw [HTX.out, Int.add_zero])
      clear HC ho HO HLW hck
      go_wp2
      go_roundw
      case rel => exact ⟨k + 1, by omega, by go_num, HO2.out⟩
      case measure => simp [intOf]; omega
    · obtain rfl : uN = k := by omega
      have HE : Aside (OutRun W p S ys Q (bsA ++ listB 0 us) (15 + uN) wr) := by
        have := HO.out
        rwa [List.take_of_length_le (by rw [HLU.out]; exact Nat.le_refl _)] at this
      clear HO
      obtain ⟨bsB, hbsB⟩ : ∃ b, b = bsA ++ listB 0 us := ⟨_, rfl⟩
      rw [← hbsB] at HE
      have HBB := Lib.hid hbsB
      clear hbsB
      have HE1 : Aside (OutRun W p S ys Q bsB (15 + uN) wr) := HE.out
      clear HE
      obtain ⟨y0, y1, y2, y3, y4, y5, y6, y7, y8, y9, y10, y11, y12, y13⟩ := (HX.out.upd HE1.out.upd HNG.out).cells
      have hl1 := (HX.out.upd HE1.out.upd HNG.out).lt
      dsimp only at y0 y1 y2 y3 y4 y5 y6 y7 y8 y9 y10 y11 y12 y13
      have HPV := HE1
      go_wp2
      clear y0 y1 y2 y3 y4 y5 y6 y7 y8 y9 y10 y11 y12 y13 hl1
      go_loopw [7, 60] (fun _ i wr => ∃ k : Nat, k ≤ gN ∧ i = .int .i64 k ∧ Aside (OutRun W p S ys Q (bsB ++ listB 1 (gs.take k)) ((15 + uN) + k) wr)) (fun _ i _ => gN - (intOf i).toNat)
      case atStart => exact ⟨0, Nat.zero_le _, rfl, OutRun.conv HPV.out (fun _ => by rw [List.take_zero, listB, List.append_nil])⟩
      case round =>
        clear HPV HE1
        obtain ⟨k, hk, rfl, HO⟩ := hrel
        by_cases hlt : k < gN
        · have hkn : (k : Int) < (gN : Int) := by omega
          have hk0 : (0 : Int) ≤ (k : Int) := by omega
          have hl2 : k < gs.length := by rw [HLG.out]; exact hlt
          have HLW : Aside (IsInts wr gA gs) := HG.out.at'.upd HO.out.upd (fun b o e _ => HAG.out (by omega) b o e)
          rcases HLW.out with e | ⟨b, off, hA, hb, hcs⟩
          · rw [e] at hl2; exact absurd hl2 (Nat.not_lt_zero _)
          have hck := hcs k hl2
          have HIX : Hid (I64 gs[k]) := HF.out.gs _ (List.getElem_mem hl2)
          have HFX : Hid (Q → fits (gs[k] + 1) 1 = true) := fun q => (HQ.out q).gs _ (List.getElem_mem hl2)
          have HTX : Hid (bsB ++ listB 1 (gs.take (k + 1)) = bsB ++ listB 1 (gs.take k) ++ le (gs[k] + 1) 1) := by
            show _ = _
            rw [listB_take 1 gs k hl2, List.append_assoc]
          clear hcs
          generalize gs[k] = x at *
          subst hA
          have HC : Aside _ := HO.out.u8 (wrap64 (x + 1)) (i64_wrap _) (by omega) (fun q => by rw [fits_wrap HIX.out (HFX.out q) (by decide)]; exact HFX.out q)
          go_wp2_with fail
          refine Calls.mono HC.out ?_
          rintro e w20 ⟨rfl, ho⟩
          have HO2 : Aside (OutRun W p S ys Q (bsB ++ listB 1 (gs.take (k + 1))) ((15 + uN) + (k + 1)) w20) := OutRun.conv ho (fun q => by rw [HTX.out, fits_wrap HIX.out (HFX.out q) (by decide)])
          clear HC ho HO HLW hck
          go_wp2
          go_roundw
          case rel => exact ⟨k + 1, by omega, by go_num, HO2.out⟩
          case measure => simp [intOf]; omega
        · obtain rfl : gN = k := by omega
          have HE : Aside (OutRun W p S ys Q (bsB ++ listB 1 gs) ((15 + uN) + gN) wr) := by
            have := HO.out
            rwa [List.take_of_length_le (by rw [HLG.out]; exact Nat.le_refl _)] at this
          clear HO
          have HC : Aside _ := HE.out.i64 n10 (by omega)
          obtain ⟨y0, y1, y2, y3, y4, y5, y6, y7, y8, y9, y10, y11, y12, y13⟩ := (HX.out.upd HE.out.upd HNG.out).cells
          have hl1 := (HX.out.upd HE.out.upd HNG.out).lt
          dsimp only at y0 y1 y2 y3 y4 y5 y6 y7 y8 y9 y10 y11 y12 y13
          go_wp2_with fail
          refine Calls.mono HC.out ?_
          rintro e w30 ⟨rfl, ho⟩
          have HI0 : Aside (OutRun W p S ys Q (bsB ++ listB 1 gs ++ le (IntKind.u64.wrap n10) 8) (15 + uN + gN + 8) w30) := ho
          clear HC ho HE
          clear y0 y1 y2 y3 y4 y5 y6 y7 y8 y9 y10 y11 y12 y13 hl1
          have HC : Aside _ := HI0.out.i64 n11 (by omega)
          obtain ⟨y0, y1, y2, y3, y4, y5, y6, y7, y8, y9, y10, y11, y12, y13⟩ := (HX.out.upd HI0.out.upd HNG.out).cells
          have hl1 := (HX.out.upd HI0.out.upd HNG.out).lt
          dsimp only at y0 y1 y2 y3 y4 y5 y6 y7 y8 y9 y10 y11 y12 y13
          go_wp2_with fail
          refine Calls.mono HC.out ?_
          rintro e w31 ⟨rfl, ho⟩
          have HI1 : Aside (OutRun W p S ys Q (bsB ++ listB 1 gs ++ le (IntKind.u64.wrap n10) 8 ++ le (IntKind.u64.wrap n11) 8) (15 + uN + gN + 16) w31) := ho
          clear HC ho HI0
          clear y0 y1 y2 y3 y4 y5 y6 y7 y8 y9 y10 y11 y12 y13 hl1
          have HC : Aside _ := HI1.out.i64 n12 (by omega)
          obtain ⟨y0, y1, y2, y3, y4, y5, y6, y7, y8, y9, y10, y11, y12, y13⟩ := (HX.out.upd HI1.out.upd HNG.out).cells
          have hl1 := (HX.out.upd HI1.out.upd HNG.out).lt
          dsimp only at y0 y1 y2 y3 y4 y5 y6 y7 y8 y9 y10 y11 y12 y13
          go_wp2_with fail
          refine Calls.mono HC.out ?_
          rintro e w32 ⟨rfl, ho⟩
          have HI2 : Aside (OutRun W p S ys Q (bsB ++ listB 1 gs ++ le (IntKind.u64.wrap n10) 8 ++ le (IntKind.u64.wrap n11) 8 ++ le (IntKind.u64.wrap n12) 8) (15 + uN + gN + 24) w32) := ho
          clear HC ho HI1
          clear y0 y1 y2 y3 y4 y5 y6 y7 y8 y9 y10 y11 y12 y13 hl1
          have HC : Aside _ := HI2.out.i64 n13 (by omega)
          obtain ⟨y0, y1, y2, y3, y4, y5, y6, y7, y8, y9, y10, y11, y12, y13⟩ := (HX.out.upd HI2.out.upd HNG.out).cells
          have hl1 := (HX.out.upd HI2.out.upd HNG.out).lt
          dsimp only at y0 y1 y2 y3 y4 y5 y6 y7 y8 y9 y10 y11 y12 y13
          go_wp2_with fail
          refine Calls.mono HC.out ?_
          rintro e w33 ⟨rfl, ho⟩
          have HI3 : Aside (OutRun W p S ys Q (bsB ++ listB 1 gs ++ le (IntKind.u64.wrap n10) 8 ++ le (IntKind.u64.wrap n11) 8 ++ le (IntKind.u64.wrap n12) 8 ++ le (IntKind.u64.wrap n13) 8) (15 + uN + gN + 32) w33) := ho
          clear HC ho HI2
          clear y0 y1 y2 y3 y4 y5 y6 y7 y8 y9 y10 y11 y12 y13 hl1
          have HFIN : Aside (OutRun W p S ys Q (rmaBytes ⟨n0, n1, n2, n3, n4, n5, n6, n7, uA, uN, uC, gA, gN, gC, n10, n11, n12, n13⟩ us gs) 700 w33) := OutRun.more (OutRun.conv HI3.out (fun _ => by rw [HBB.out, HBA.out, rmaBytes, HLU.out])) (by omega)
          clear HI3 HX HU HG HAU HAG HF
          go_wp2
          go_end0
          exact ⟨rfl, W, HB.out, HFIN.out⟩
end Go.Proofs.YtkjkamcjbhhefaaDoor
