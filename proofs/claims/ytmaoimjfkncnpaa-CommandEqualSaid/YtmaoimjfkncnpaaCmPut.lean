/-
  Package command: putRequest, put. Conditions: those of each theorem.
-/
import Derived.Test.YtmaoimjfkncnpaaCmOut
namespace Go.Proofs.Ytmaoimjfkncnpaa
open Go.RowKit
set_option maxRecDepth 100000

set_option maxHeartbeats 8000000 in
theorem cm_putReq (r : Com) (us : List Int) {w : World} {p : Nat} {S : Nat → Prop} {ys : List UInt8} {bad : Bool} (h : OutAt w p S ys bad) (hr : LiAt w r.uA r.uN r.uC us) (hf : Fit64 r us) (hu : r.uN ≤ 300) (hy : ys.length ≤ 900000)
    (hau : 0 < r.uN → ∀ b o, r.uA = some ⟨b, o, none⟩ → ¬ S b) :
    Calls Try.prog 37 #[.pointer (some ⟨p, 0, none⟩), .agg #[.int .i64 r.kind, .int .i64 r.ord, .slice r.uA r.uN r.uC, .int .i64 r.rea, .int .i64 r.want, .bool r.cred, .int .i64 r.rma, .int .i64 r.unit, .int .i64 r.grd, .int .i64 r.days, .int .i64 r.key, .bool r.yes]] w fun e w' => e = .returned (.tuple #[]) ∧ ∃ W, Below w.heap.size w W ∧ OutRun W p S ys (bad = false ∧ FitQ r us) (reqBytes r us) 400 w' := by
  obtain ⟨n0, n1, uA, uN, uC, n3, n4, n5, n6, n7, n8, n9, n10, n11⟩ := r
  dsimp only at *
  obtain ⟨W, hW, hs2, hb2, X1⟩ := one_box w 30 ⟨n0, n1, uA, uN, uC, n3, n4, n5, n6, n7, n8, n9, n10, n11⟩
  dsimp only at hW
  have HX : Aside (ComBox W w.heap.size 30 ⟨n0, n1, uA, uN, uC, n3, n4, n5, n6, n7, n8, n9, n10, n11⟩) := X1
  have HNG : Hid (¬ S w.heap.size) := fun x => Nat.lt_irrefl _ (h.lt _ x)
  have HB : Aside (Below w.heap.size w W) := hb2
  have H0 : Aside (OutRun W p S ys (bad = false ∧ FitQ ⟨n0, n1, uA, uN, uC, n3, n4, n5, n6, n7, n8, n9, n10, n11⟩ us) [] 0 W) := OutRun.go (h.below hb2)
  obtain ⟨Q, hQ⟩ : ∃ Q, Q = (bad = false ∧ FitQ ⟨n0, n1, uA, uN, uC, n3, n4, n5, n6, n7, n8, n9, n10, n11⟩ us) := ⟨_, rfl⟩
  rw [← hQ] at H0 ⊢
  have HQ : Hid (Q → FitQ ⟨n0, n1, uA, uN, uC, n3, n4, n5, n6, n7, n8, n9, n10, n11⟩ us) := fun q => (hQ ▸ q : bad = false ∧ FitQ ⟨n0, n1, uA, uN, uC, n3, n4, n5, n6, n7, n8, n9, n10, n11⟩ us).2
  clear hQ
  have HU : Aside (LiAt W uA uN uC us) := hr.below hb2
  have HAU : Hid (0 < uN → ∀ b o, uA = some ⟨b, o, none⟩ → ¬ S b) := hau
  have HF : Aside (Fit64 ⟨n0, n1, uA, uN, uC, n3, n4, n5, n6, n7, n8, n9, n10, n11⟩ us) := hf
  clear h hr hf hau X1 hb2 hs2
  go_enter Try.func37, Try.ntmps37
  go_upto_region 1 with (fail)
  rw [← hW]
  clear hW
  obtain ⟨g1, hg1⟩ : ∃ g, g = w.heap.size := ⟨_, rfl⟩
  rw [← hg1] at HX HNG ⊢
  clear hg1
  have HLU : Hid (us.length = uN) := HU.out.len
  obtain ⟨y0, y1, y2, y3, y4, y5, y6, y7, y8, y9, y10, y11⟩ := (HX.out.upd H0.out.upd HNG.out).cells
  have hl1 := (HX.out.upd H0.out.upd HNG.out).lt
  dsimp only at y0 y1 y2 y3 y4 y5 y6 y7 y8 y9 y10 y11
  have HC : Aside _ := H0.out.u8 n1 (HF.out.ord) (by omega) (fun q => (HQ.out q).ord)
  go_wp2_with fail
  refine Calls.mono HC.out ?_
  rintro e w1 ⟨rfl, ho⟩
  have H1 : Aside (OutRun W p S ys Q (le (n1) 1) (1) w1) := OutRun.conv ho (fun _ => List.nil_append _)
  clear HC ho H0
  clear y0 y1 y2 y3 y4 y5 y6 y7 y8 y9 y10 y11 hl1
  obtain ⟨y0, y1, y2, y3, y4, y5, y6, y7, y8, y9, y10, y11⟩ := (HX.out.upd H1.out.upd HNG.out).cells
  have hl1 := (HX.out.upd H1.out.upd HNG.out).lt
  dsimp only at y0 y1 y2 y3 y4 y5 y6 y7 y8 y9 y10 y11
  have HC : Aside _ := H1.out.u8 (uN : Int) (by unfold I64; omega) (by omega) (fun q => (by have := (HQ.out q).len; rw [HLU.out] at this; exact this))
  go_wp2_with fail
  refine Calls.mono HC.out ?_
  rintro e w2 ⟨rfl, ho⟩
  have H2 : Aside (OutRun W p S ys Q (le (n1) 1 ++ le ((uN : Int)) 1) (2) w2) := ho
  clear HC ho H1
  clear y0 y1 y2 y3 y4 y5 y6 y7 y8 y9 y10 y11 hl1
  obtain ⟨bsA, hbsA⟩ : ∃ b, b = le (n1) 1 ++ le ((uN : Int)) 1 := ⟨_, rfl⟩
  rw [← hbsA] at H2
  have HBA := Lib.hid hbsA
  clear hbsA
  obtain ⟨y0, y1, y2, y3, y4, y5, y6, y7, y8, y9, y10, y11⟩ := (HX.out.upd H2.out.upd HNG.out).cells
  have hl1 := (HX.out.upd H2.out.upd HNG.out).lt
  dsimp only at y0 y1 y2 y3 y4 y5 y6 y7 y8 y9 y10 y11
  have HPV := H2
  go_upto_region 4 with (fail)
  clear y0 y1 y2 y3 y4 y5 y6 y7 y8 y9 y10 y11 hl1
  go_loopw [5, 18] (fun _ i wr => ∃ k : Nat, k ≤ uN ∧ i = .int .i64 k ∧ Aside (OutRun W p S ys Q (bsA ++ listB 0 (us.take k)) (2 + k) wr)) (fun _ i _ => uN - (intOf i).toNat)
  case atStart => exact ⟨0, Nat.zero_le _, rfl, OutRun.conv HPV.out (fun _ => by rw [List.take_zero, listB, List.append_nil])⟩
  case round =>
    clear HPV H2
    obtain ⟨k, hk, rfl, HO⟩ := hrel
    by_cases hlt : k < uN
    · have hkn : (k : Int) < (uN : Int) := by omega
      have hk0 : (0 : Int) ≤ (k : Int) := by omega
      have hl1 : k < us.length := by rw [HLU.out]; exact hlt
      have HLW : Aside (IsInts wr uA us) := HU.out.at'.upd HO.out.upd (fun b o e _ => HAU.out (by omega) b o e)
      rcases HLW.out with e | ⟨b, off, hA, hb, hcs⟩
      · rw [e] at hl1; exact absurd hl1 (Nat.not_lt_zero _)
      have hck := hcs k hl1
      have HIX : Hid (I64 us[k]) := HF.out.us _ (List.getElem_mem hl1)
      have HFX : Hid (Q → fits (us[k] + 0) 1 = true) := fun q => (HQ.out q).us _ (List.getElem_mem hl1)
      have HTX : Hid (bsA ++ listB 0 (us.take (k + 1)) = bsA ++ listB 0 (us.take k) ++ le (us[k] + 0) 1) := by
        show _ = _
        rw [listB_take 0 us k hl1, List.append_assoc]
      clear hcs
      generalize us[k] = x at *
      subst hA
      have HC : Aside _ := HO.out.u8 x HIX.out (by omega) (fun q => by have := HFX.out q; rwa [Int.add_zero] at this)
      go_wp2_with fail
      refine Calls.mono HC.out ?_
      rintro e w20 ⟨rfl, ho⟩
      have HO2 : Aside (OutRun W p S ys Q (bsA ++ listB 0 (us.take (k + 1))) (2 + (k + 1)) w20) := OutRun.conv ho (fun _ => by rw [HTX.out, Int.add_zero])
      clear HC ho HO HLW hck
      go_wp2
      go_roundw
      case rel => exact ⟨k + 1, by omega, by go_num, HO2.out⟩
      case measure => simp [intOf]; omega
    · obtain rfl : uN = k := by omega
      have HE : Aside (OutRun W p S ys Q (bsA ++ listB 0 us) (2 + uN) wr) := by
        have := HO.out
        rwa [List.take_of_length_le (by rw [HLU.out]; exact Nat.le_refl _)] at this
      clear HO
      obtain ⟨bsB, hbsB⟩ : ∃ b, b = bsA ++ listB 0 us := ⟨_, rfl⟩
      rw [← hbsB] at HE
      have HBB := Lib.hid hbsB
      clear hbsB
      have H9 : Aside (OutRun W p S ys Q bsB (2 + uN) wr) := HE.out
      clear HE
      obtain ⟨y0, y1, y2, y3, y4, y5, y6, y7, y8, y9, y10, y11⟩ := (HX.out.upd H9.out.upd HNG.out).cells
      have hl1 := (HX.out.upd H9.out.upd HNG.out).lt
      dsimp only at y0 y1 y2 y3 y4 y5 y6 y7 y8 y9 y10 y11
      have HC : Aside _ := H9.out.u8 n3 (HF.out.rea) (by omega) (fun q => (HQ.out q).rea)
      go_wp2_with fail
      refine Calls.mono HC.out ?_
      rintro e w10 ⟨rfl, ho⟩
      have H10 : Aside (OutRun W p S ys Q (bsB ++ le (n3) 1) (2 + uN + 1) w10) := ho
      clear HC ho H9
      clear y0 y1 y2 y3 y4 y5 y6 y7 y8 y9 y10 y11 hl1
      obtain ⟨y0, y1, y2, y3, y4, y5, y6, y7, y8, y9, y10, y11⟩ := (HX.out.upd H10.out.upd HNG.out).cells
      have hl1 := (HX.out.upd H10.out.upd HNG.out).lt
      dsimp only at y0 y1 y2 y3 y4 y5 y6 y7 y8 y9 y10 y11
      have HC : Aside _ := H10.out.u16 n4 (HF.out.want) (by omega) (fun q => (HQ.out q).want)
      go_wp2_with fail
      refine Calls.mono HC.out ?_
      rintro e w11 ⟨rfl, ho⟩
      have H11 : Aside (OutRun W p S ys Q (bsB ++ le (n3) 1 ++ le (n4) 2) (2 + uN + 1 + 2) w11) := ho
      clear HC ho H10
      clear y0 y1 y2 y3 y4 y5 y6 y7 y8 y9 y10 y11 hl1
      obtain ⟨y0, y1, y2, y3, y4, y5, y6, y7, y8, y9, y10, y11⟩ := (HX.out.upd H11.out.upd HNG.out).cells
      have hl1 := (HX.out.upd H11.out.upd HNG.out).lt
      dsimp only at y0 y1 y2 y3 y4 y5 y6 y7 y8 y9 y10 y11
      have HC : Aside _ := H11.out.flag n5 (by omega)
      go_wp2_with fail
      refine Calls.mono HC.out ?_
      rintro e w12 ⟨rfl, ho⟩
      have H12 : Aside (OutRun W p S ys Q (bsB ++ le (n3) 1 ++ le (n4) 2 ++ le (flagI n5) 1) (2 + uN + 1 + 2 + 1) w12) := ho
      clear HC ho H11
      clear y0 y1 y2 y3 y4 y5 y6 y7 y8 y9 y10 y11 hl1
      have HFIN : Aside (OutRun W p S ys Q (reqBytes ⟨n0, n1, uA, uN, uC, n3, n4, n5, n6, n7, n8, n9, n10, n11⟩ us) 400 w12) := OutRun.more (OutRun.conv H12.out (fun _ => by rw [HBB.out, HBA.out, reqBytes, HLU.out])) (by omega)
      clear H12 HX HU HAU HF
      go_wp2
      go_end0
      exact ⟨rfl, W, HB.out, HFIN.out⟩

theorem cm_kinds {k : Int} (h : 1 ≤ k ∧ k ≤ 8) : k = 1 ∨ k = 2 ∨ k = 3 ∨ k = 4 ∨ k = 5 ∨ k = 6 ∨ k = 7 ∨ k = 8 := by omega
set_option maxHeartbeats 8000000 in
theorem cm_put (r : Com) (us : List Int) {w : World} {p : Nat} {S : Nat → Prop} {ys : List UInt8} (h : OutAt w p S ys false) (hr : LiAt w r.uA r.uN r.uC us) (hf : Fit64 r us) (hk : 1 ≤ r.kind ∧ r.kind ≤ 8) (hu : r.kind = 1 → r.uN ≤ 300) (hy : ys.length ≤ 800000)
    (hau : 0 < r.uN → ∀ b o, r.uA = some ⟨b, o, none⟩ → ¬ S b) :
    Calls Try.prog 24 #[.pointer (some ⟨p, 0, none⟩), .agg #[.int .i64 r.kind, .int .i64 r.ord, .slice r.uA r.uN r.uC, .int .i64 r.rea, .int .i64 r.want, .bool r.cred, .int .i64 r.rma, .int .i64 r.unit, .int .i64 r.grd, .int .i64 r.days, .int .i64 r.key, .bool r.yes]] w fun e w' => e = .returned (.tuple #[]) ∧ ∃ W, Below w.heap.size w W ∧ OutRun W p S ys (FitC r us) (comBytes r us) 410 w' := by
  obtain ⟨n0, n1, uA, uN, uC, n3, n4, n5, n6, n7, n8, n9, n10, n11⟩ := r
  dsimp only at *
  obtain ⟨W, hW, hs2, hb2, X1⟩ := one_box w 30 ⟨n0, n1, uA, uN, uC, n3, n4, n5, n6, n7, n8, n9, n10, n11⟩
  dsimp only at hW
  have HX : Aside (ComBox W w.heap.size 30 ⟨n0, n1, uA, uN, uC, n3, n4, n5, n6, n7, n8, n9, n10, n11⟩) := X1
  have HNG : Hid (¬ S w.heap.size) := fun x => Nat.lt_irrefl _ (h.lt _ x)
  have HB : Aside (Below w.heap.size w W) := hb2
  obtain ⟨Q, hQ⟩ : ∃ Q, Q = FitC ⟨n0, n1, uA, uN, uC, n3, n4, n5, n6, n7, n8, n9, n10, n11⟩ us := ⟨_, rfl⟩
  rw [← hQ]
  have HQ : Hid (Q → FitC ⟨n0, n1, uA, uN, uC, n3, n4, n5, n6, n7, n8, n9, n10, n11⟩ us) := fun q => hQ ▸ q
  have H0 : Aside (OutRun W p S ys Q [] 0 W) := OutRun.start (h.below hb2)
  clear hQ
  have HU : Aside (LiAt W uA uN uC us) := hr.below hb2
  have HAU : Hid (0 < uN → ∀ b o, uA = some ⟨b, o, none⟩ → ¬ S b) := hau
  have HF : Aside (Fit64 ⟨n0, n1, uA, uN, uC, n3, n4, n5, n6, n7, n8, n9, n10, n11⟩ us) := hf
  have HKF : Hid (fits n0 1 = true) := by show fits n0 1 = true; simp [fits]; omega
  have HUB : Hid (n0 = 1 → uN ≤ 300) := hu
  clear h hr hf hau X1 hb2 hs2 hu
  go_enter Try.func24, Try.ntmps24
  go_upto_region 1 with (fail)
  rw [← hW]
  clear hW
  obtain ⟨g1, hg1⟩ : ∃ g, g = w.heap.size := ⟨_, rfl⟩
  rw [← hg1] at HX HNG ⊢
  clear hg1
  have HLU : Hid (us.length = uN) := HU.out.len
  obtain ⟨y0, y1, y2, y3, y4, y5, y6, y7, y8, y9, y10, y11⟩ := (HX.out.upd H0.out.upd HNG.out).cells
  have hl1 := (HX.out.upd H0.out.upd HNG.out).lt
  dsimp only at y0 y1 y2 y3 y4 y5 y6 y7 y8 y9 y10 y11
  have HC : Aside _ := H0.out.u8 n0 (HF.out.kind) (by omega) (fun q => HKF.out)
  go_wp2_with fail
  refine Calls.mono HC.out ?_
  rintro e w1 ⟨rfl, ho⟩
  have H1 : Aside (OutRun W p S ys Q (le (n0) 1) (1) w1) := OutRun.conv ho (fun _ => List.nil_append _)
  clear HC ho H0
  clear y0 y1 y2 y3 y4 y5 y6 y7 y8 y9 y10 y11 hl1
  have HKN := Lib.hid hk
  clear hk
  rcases cm_kinds HKN.out with rfl | rfl | rfl | rfl | rfl | rfl | rfl | rfl
  · as_aux_lemma =>
      have HU1 : Hid (uN ≤ 300) := HUB.out rfl
      obtain ⟨S1, zs, bad, o1, l1, k1, join⟩ := H1.out.join
      have hyz : zs.length ≤ 900000 := by omega
      have HAU1 : Hid (0 < uN → ∀ b o, uA = some ⟨b, o, none⟩ → ¬ S1 b) := fun h0 b o e hs => by
        rcases k1 b hs with x | x
        · exact HAU.out h0 b o e x
        · rcases HU.out.at' with z | ⟨b', o', e', hb', _⟩
          · have := HLU.out; rw [z] at this; simp at this; omega
          · rw [e] at e'
            injection e' with e'
            injection e' with e' _
            omega
      have HJ := Lib.hid join
      have HUW : Aside (LiAt w1 uA uN uC us) := by
        by_cases h0 : 0 < uN
        · exact HU.out.upd H1.out.upd (fun b o e _ hs => HAU.out h0 b o e hs)
        · exact ⟨HU.out.len, HU.out.cap, HU.out.most, HU.out.nil, .inl (List.length_eq_zero_iff.1 (by have := HLU.out; omega))⟩
      have HC : Aside _ := cm_putReq ⟨1, n1, uA, uN, uC, n3, n4, n5, n6, n7, n8, n9, n10, n11⟩ us o1 HUW.out HF.out HU1.out hyz HAU1.out
      obtain ⟨y0, y1, y2, y3, y4, y5, y6, y7, y8, y9, y10, y11⟩ := (HX.out.upd H1.out.upd HNG.out).cells
      have hl1 := (HX.out.upd H1.out.upd HNG.out).lt
      dsimp only at y0 y1 y2 y3 y4 y5 y6 y7 y8 y9 y10 y11
      go_wp2_with fail
      refine Calls.mono HC.out ?_
      rintro e w2 ⟨rfl, W2, b2, ho⟩
      have HFIN : Aside (OutRun W p S ys Q (comBytes ⟨1, n1, uA, uN, uC, n3, n4, n5, n6, n7, n8, n9, n10, n11⟩ us) 410 w2) := OutRun.more (OutRun.conv (HJ.out (FitQ ⟨1, n1, uA, uN, uC, n3, n4, n5, n6, n7, n8, n9, n10, n11⟩ us) W2 _ _ _ (fun q => (HQ.out q).req rfl) b2 ho) (fun _ => by simp [comBytes])) (by omega)
      clear HC ho H1 HJ HX HU HAU HF
      clear y0 y1 y2 y3 y4 y5 y6 y7 y8 y9 y10 y11 hl1
      go_wp2
      go_end0
      exact ⟨rfl, W, HB.out, HFIN.out⟩
  · as_aux_lemma =>
      obtain ⟨y0, y1, y2, y3, y4, y5, y6, y7, y8, y9, y10, y11⟩ := (HX.out.upd H1.out.upd HNG.out).cells
      have hl1 := (HX.out.upd H1.out.upd HNG.out).lt
      dsimp only at y0 y1 y2 y3 y4 y5 y6 y7 y8 y9 y10 y11
      have HC : Aside _ := H1.out.u16 n6 (HF.out.rma) (by omega) (fun q => (HQ.out q).rma (by dsimp only; omega) (by dsimp only; omega))
      go_wp2_with fail
      refine Calls.mono HC.out ?_
      rintro e w2 ⟨rfl, ho⟩
      have H2 : Aside (OutRun W p S ys Q (le (2 : Int) 1 ++ le (n6) 2) (3) w2) := ho
      clear HC ho H1
      clear y0 y1 y2 y3 y4 y5 y6 y7 y8 y9 y10 y11 hl1
      have HFIN : Aside (OutRun W p S ys Q (comBytes ⟨2, n1, uA, uN, uC, n3, n4, n5, n6, n7, n8, n9, n10, n11⟩ us) 410 w2) := OutRun.more (OutRun.conv H2.out (fun _ => by simp [comBytes])) (by omega)
      clear H2 HX HU HAU HF
      go_wp2
      go_end0
      exact ⟨rfl, W, HB.out, HFIN.out⟩
  · as_aux_lemma =>
      obtain ⟨y0, y1, y2, y3, y4, y5, y6, y7, y8, y9, y10, y11⟩ := (HX.out.upd H1.out.upd HNG.out).cells
      have hl1 := (HX.out.upd H1.out.upd HNG.out).lt
      dsimp only at y0 y1 y2 y3 y4 y5 y6 y7 y8 y9 y10 y11
      have HC : Aside _ := H1.out.u16 n6 (HF.out.rma) (by omega) (fun q => (HQ.out q).rma (by dsimp only; omega) (by dsimp only; omega))
      go_wp2_with fail
      refine Calls.mono HC.out ?_
      rintro e w2 ⟨rfl, ho⟩
      have H2 : Aside (OutRun W p S ys Q (le (3 : Int) 1 ++ le (n6) 2) (3) w2) := ho
      clear HC ho H1
      clear y0 y1 y2 y3 y4 y5 y6 y7 y8 y9 y10 y11 hl1
      have HFIN : Aside (OutRun W p S ys Q (comBytes ⟨3, n1, uA, uN, uC, n3, n4, n5, n6, n7, n8, n9, n10, n11⟩ us) 410 w2) := OutRun.more (OutRun.conv H2.out (fun _ => by simp [comBytes])) (by omega)
      clear H2 HX HU HAU HF
      go_wp2
      go_end0
      exact ⟨rfl, W, HB.out, HFIN.out⟩
  · as_aux_lemma =>
      obtain ⟨y0, y1, y2, y3, y4, y5, y6, y7, y8, y9, y10, y11⟩ := (HX.out.upd H1.out.upd HNG.out).cells
      have hl1 := (HX.out.upd H1.out.upd HNG.out).lt
      dsimp only at y0 y1 y2 y3 y4 y5 y6 y7 y8 y9 y10 y11
      have HC : Aside _ := H1.out.u16 n6 (HF.out.rma) (by omega) (fun q => (HQ.out q).rma (by dsimp only; omega) (by dsimp only; omega))
      go_wp2_with fail
      refine Calls.mono HC.out ?_
      rintro e w2 ⟨rfl, ho⟩
      have H2 : Aside (OutRun W p S ys Q (le (4 : Int) 1 ++ le (n6) 2) (3) w2) := ho
      clear HC ho H1
      clear y0 y1 y2 y3 y4 y5 y6 y7 y8 y9 y10 y11 hl1
      have HFIN : Aside (OutRun W p S ys Q (comBytes ⟨4, n1, uA, uN, uC, n3, n4, n5, n6, n7, n8, n9, n10, n11⟩ us) 410 w2) := OutRun.more (OutRun.conv H2.out (fun _ => by simp [comBytes])) (by omega)
      clear H2 HX HU HAU HF
      go_wp2
      go_end0
      exact ⟨rfl, W, HB.out, HFIN.out⟩
  · as_aux_lemma =>
      obtain ⟨y0, y1, y2, y3, y4, y5, y6, y7, y8, y9, y10, y11⟩ := (HX.out.upd H1.out.upd HNG.out).cells
      have hl1 := (HX.out.upd H1.out.upd HNG.out).lt
      dsimp only at y0 y1 y2 y3 y4 y5 y6 y7 y8 y9 y10 y11
      have HC : Aside _ := H1.out.u16 n6 (HF.out.rma) (by omega) (fun q => (HQ.out q).rma (by dsimp only; omega) (by dsimp only; omega))
      go_wp2_with fail
      refine Calls.mono HC.out ?_
      rintro e w2 ⟨rfl, ho⟩
      have H2 : Aside (OutRun W p S ys Q (le (5 : Int) 1 ++ le (n6) 2) (3) w2) := ho
      clear HC ho H1
      clear y0 y1 y2 y3 y4 y5 y6 y7 y8 y9 y10 y11 hl1
      have HFIN : Aside (OutRun W p S ys Q (comBytes ⟨5, n1, uA, uN, uC, n3, n4, n5, n6, n7, n8, n9, n10, n11⟩ us) 410 w2) := OutRun.more (OutRun.conv H2.out (fun _ => by simp [comBytes])) (by omega)
      clear H2 HX HU HAU HF
      go_wp2
      go_end0
      exact ⟨rfl, W, HB.out, HFIN.out⟩
  · as_aux_lemma =>
      obtain ⟨y0, y1, y2, y3, y4, y5, y6, y7, y8, y9, y10, y11⟩ := (HX.out.upd H1.out.upd HNG.out).cells
      have hl1 := (HX.out.upd H1.out.upd HNG.out).lt
      dsimp only at y0 y1 y2 y3 y4 y5 y6 y7 y8 y9 y10 y11
      have HC : Aside _ := H1.out.u16 n6 (HF.out.rma) (by omega) (fun q => (HQ.out q).rma (by dsimp only; omega) (by dsimp only; omega))
      go_wp2_with fail
      refine Calls.mono HC.out ?_
      rintro e w2 ⟨rfl, ho⟩
      have H2 : Aside (OutRun W p S ys Q (le (6 : Int) 1 ++ le (n6) 2) (3) w2) := ho
      clear HC ho H1
      clear y0 y1 y2 y3 y4 y5 y6 y7 y8 y9 y10 y11 hl1
      obtain ⟨y0, y1, y2, y3, y4, y5, y6, y7, y8, y9, y10, y11⟩ := (HX.out.upd H2.out.upd HNG.out).cells
      have hl1 := (HX.out.upd H2.out.upd HNG.out).lt
      dsimp only at y0 y1 y2 y3 y4 y5 y6 y7 y8 y9 y10 y11
      have HC : Aside _ := H2.out.u8 n7 (HF.out.unit) (by omega) (fun q => ((HQ.out q).grd rfl).1)
      go_wp2_with fail
      refine Calls.mono HC.out ?_
      rintro e w3 ⟨rfl, ho⟩
      have H3 : Aside (OutRun W p S ys Q (le (6 : Int) 1 ++ le (n6) 2 ++ le (n7) 1) (4) w3) := ho
      clear HC ho H2
      clear y0 y1 y2 y3 y4 y5 y6 y7 y8 y9 y10 y11 hl1
      obtain ⟨y0, y1, y2, y3, y4, y5, y6, y7, y8, y9, y10, y11⟩ := (HX.out.upd H3.out.upd HNG.out).cells
      have hl1 := (HX.out.upd H3.out.upd HNG.out).lt
      dsimp only at y0 y1 y2 y3 y4 y5 y6 y7 y8 y9 y10 y11
      have HC : Aside _ := H3.out.u8 n8 (HF.out.grd) (by omega) (fun q => ((HQ.out q).grd rfl).2)
      go_wp2_with fail
      refine Calls.mono HC.out ?_
      rintro e w4 ⟨rfl, ho⟩
      have H4 : Aside (OutRun W p S ys Q (le (6 : Int) 1 ++ le (n6) 2 ++ le (n7) 1 ++ le (n8) 1) (5) w4) := ho
      clear HC ho H3
      clear y0 y1 y2 y3 y4 y5 y6 y7 y8 y9 y10 y11 hl1
      have HFIN : Aside (OutRun W p S ys Q (comBytes ⟨6, n1, uA, uN, uC, n3, n4, n5, n6, n7, n8, n9, n10, n11⟩ us) 410 w4) := OutRun.more (OutRun.conv H4.out (fun _ => by simp [comBytes])) (by omega)
      clear H4 HX HU HAU HF
      go_wp2
      go_end0
      exact ⟨rfl, W, HB.out, HFIN.out⟩
  · as_aux_lemma =>
      obtain ⟨y0, y1, y2, y3, y4, y5, y6, y7, y8, y9, y10, y11⟩ := (HX.out.upd H1.out.upd HNG.out).cells
      have hl1 := (HX.out.upd H1.out.upd HNG.out).lt
      dsimp only at y0 y1 y2 y3 y4 y5 y6 y7 y8 y9 y10 y11
      have HC : Aside _ := H1.out.u16 n9 (HF.out.days) (by omega) (fun q => (HQ.out q).day rfl)
      go_wp2_with fail
      refine Calls.mono HC.out ?_
      rintro e w2 ⟨rfl, ho⟩
      have H2 : Aside (OutRun W p S ys Q (le (7 : Int) 1 ++ le (n9) 2) (3) w2) := ho
      clear HC ho H1
      clear y0 y1 y2 y3 y4 y5 y6 y7 y8 y9 y10 y11 hl1
      have HFIN : Aside (OutRun W p S ys Q (comBytes ⟨7, n1, uA, uN, uC, n3, n4, n5, n6, n7, n8, n9, n10, n11⟩ us) 410 w2) := OutRun.more (OutRun.conv H2.out (fun _ => by simp [comBytes])) (by omega)
      clear H2 HX HU HAU HF
      go_wp2
      go_end0
      exact ⟨rfl, W, HB.out, HFIN.out⟩
  · as_aux_lemma =>
      obtain ⟨y0, y1, y2, y3, y4, y5, y6, y7, y8, y9, y10, y11⟩ := (HX.out.upd H1.out.upd HNG.out).cells
      have hl1 := (HX.out.upd H1.out.upd HNG.out).lt
      dsimp only at y0 y1 y2 y3 y4 y5 y6 y7 y8 y9 y10 y11
      have HC : Aside _ := H1.out.u32 n10 (HF.out.key) (by omega) (fun q => (HQ.out q).key rfl)
      go_wp2_with fail
      refine Calls.mono HC.out ?_
      rintro e w2 ⟨rfl, ho⟩
      have H2 : Aside (OutRun W p S ys Q (le (8 : Int) 1 ++ le (n10) 4) (5) w2) := ho
      clear HC ho H1
      clear y0 y1 y2 y3 y4 y5 y6 y7 y8 y9 y10 y11 hl1
      obtain ⟨y0, y1, y2, y3, y4, y5, y6, y7, y8, y9, y10, y11⟩ := (HX.out.upd H2.out.upd HNG.out).cells
      have hl1 := (HX.out.upd H2.out.upd HNG.out).lt
      dsimp only at y0 y1 y2 y3 y4 y5 y6 y7 y8 y9 y10 y11
      have HC : Aside _ := H2.out.flag n11 (by omega)
      go_wp2_with fail
      refine Calls.mono HC.out ?_
      rintro e w3 ⟨rfl, ho⟩
      have H3 : Aside (OutRun W p S ys Q (le (8 : Int) 1 ++ le (n10) 4 ++ le (flagI n11) 1) (6) w3) := ho
      clear HC ho H2
      clear y0 y1 y2 y3 y4 y5 y6 y7 y8 y9 y10 y11 hl1
      have HFIN : Aside (OutRun W p S ys Q (comBytes ⟨8, n1, uA, uN, uC, n3, n4, n5, n6, n7, n8, n9, n10, n11⟩ us) 410 w3) := OutRun.more (OutRun.conv H3.out (fun _ => by simp [comBytes])) (by omega)
      clear H3 HX HU HAU HF
      go_wp2
      go_end0
      exact ⟨rfl, W, HB.out, HFIN.out⟩
end Go.Proofs.Ytmaoimjfkncnpaa
