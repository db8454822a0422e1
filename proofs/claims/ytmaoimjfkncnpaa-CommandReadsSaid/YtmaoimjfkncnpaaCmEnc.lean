/-
  Package command: Encode. Conditions: those of each theorem.
-/
import Derived.Test.YtmaoimjfkncnpaaCmPut
import Derived.Test.YtmaoimjfkncnpaaCmRead
import Derived.Deep.RegionHeld3
import Derived.Deep.DeepCutAuto
namespace Go.Proofs.Ytmaoimjfkncnpaa
open Go.RowKit
set_option maxRecDepth 100000

theorem out_made (w : World) : OutAt (w.alloc (.cells #[.slice none 0 0, .bool false] 52)) w.heap.size (fun k => k = w.heap.size) [] false := by
  refine ⟨(fun x => by cases x), rfl, fun k hk => by subst hk; simp, ⟨_, heap_alloc_new w _, rfl⟩, ⟨none, 0, by rw [cell_of_row _ _ 0 _ _ _ (heap_alloc_new w _)]; rfl, World.ownsRow_nil _ _ _ _, fun g hg => by simp [Value.ownBlock] at hg⟩, by rw [cell_of_row _ _ 1 _ _ _ (heap_alloc_new w _)]; rfl⟩
/-- What End answers behind a run of puts: whatever bytes, and if all fits these. -/
theorem out_end2 {w W : World} {p n : Nat} {S : Nat → Prop} {bs : List UInt8} {Q : Prop} (h : OutRun w p S [] Q bs n W) (hn : n ≤ 1000000) :
    Calls Try.prog 25 #[.pointer (some ⟨p, 0, none⟩)] W fun e w' => (∃ a m c bad zs, e = .returned (.tuple #[.slice a m c, .int .i64 (endE bad)]) ∧ zs.length = m ∧ IsBytes w' a zs ∧ (a = none → c = 0) ∧ m ≤ c ∧ c ≤ maxLen ∧ m ≤ n ∧ (Q → bad = false ∧ zs = bs)) ∧ Below W.heap.size W w' := by
  obtain ⟨S', zs, bad, h1, h2, h3, h4, h5⟩ := h
  refine (end_in h1 (by simp at h4; omega)).mono ?_
  rintro e w' ⟨⟨a, c, rfl, hr⟩, hb⟩
  obtain ⟨g1, -, g3, g4, g5⟩ := bytes_of_row hr
  refine ⟨⟨a, zs.length, c, bad, zs, rfl, rfl, g1, g5, g3, g4, by simpa using h4, fun q => ?_⟩, hb⟩
  obtain ⟨q1, q2⟩ := h5 q
  exact ⟨q1, by simpa using q2⟩
theorem sameB_true {r s : Com} {us vs : List Int} (h : sameB r s us vs = true) : r.kind = s.kind ∧ r.ord = s.ord ∧ us = vs ∧ r.rea = s.rea ∧ r.want = s.want ∧ r.cred = s.cred ∧ r.rma = s.rma ∧ r.unit = s.unit ∧ r.grd = s.grd ∧ r.days = s.days ∧ r.key = s.key ∧ r.yes = s.yes := by
  unfold sameB eqInts at h
  simpa only [Bool.and_eq_true, beq_iff_eq, decide_eq_true_eq] using h
theorem Loose.same {r s : Com} {us vs : List Int} (h : sameB r s us vs = true) (hl : Loose r us) : Loose s vs := by
  obtain ⟨k, ⟨q1, q2, q3, q4, q5⟩, ⟨z1, z2, z3, z4, z5⟩⟩ := hl
  obtain ⟨e0, e1, rfl, e3, e4, e5, e6, e7, e8, e9, e10, e11⟩ := sameB_true h
  obtain ⟨r0, r1, ra, rn, rc, r3, r4, r5, r6, r7, r8, r9, r10, r11⟩ := r
  obtain ⟨s0, s1, sa, sn, sc, s3, s4, s5, s6, s7, s8, s9, s10, s11⟩ := s
  dsimp only at *
  subst e0 e1 e3 e4 e5 e6 e7 e8 e9 e10 e11
  exact ⟨k, ⟨fun h => ⟨(q1 h).ord, (q1 h).len, (q1 h).us, (q1 h).rea, (q1 h).want⟩, q2, q3, q4, q5⟩, ⟨z1, z2, z3, z4, z5⟩⟩
theorem FormedC.same {r s : Com} {us vs : List Int} (h : sameB r s us vs = true) (hl : FormedC r us) : FormedC s vs := by
  obtain ⟨e0, -, e2, -⟩ := sameB_true h
  exact ⟨hl.1.same h, fun k => by rw [← e2]; exact hl.2 (by rw [e0]; exact k)⟩
theorem sameB_sym {r s : Com} {us vs : List Int} (h : sameB r s us vs = true) : sameB s r vs us = true := by
  obtain ⟨e0, e1, e2, e3, e4, e5, e6, e7, e8, e9, e10, e11⟩ := sameB_true h
  simp [sameB, eqInts, e0, e1, e2, e3, e4, e5, e6, e7, e8, e9, e10, e11]
theorem comBytes_same {r s : Com} {us vs : List Int} (h : sameB r s us vs = true) : comBytes r us = comBytes s vs := by
  obtain ⟨e0, e1, e2, e3, e4, e5, e6, e7, e8, e9, e10, e11⟩ := sameB_true h
  simp only [comBytes, reqBytes, e0, e1, e2, e3, e4, e5, e6, e7, e8, e9, e10, e11]

/-- What Encode answers. -/
def EncE (c : Com) (us : List Int) (e : Ending) (w' : World) : Prop :=
  (FormedC c us ∧ ∃ a n cc, e = .returned (.tuple #[.slice a n cc, .int .i64 0]) ∧ (comBytes c us).length = n ∧ IsBytes w' a (comBytes c us) ∧ (a = none → cc = 0) ∧ n ≤ cc ∧ cc ≤ maxLen ∧ n ≤ 410) ∨ (¬ FormedC c us ∧ e = .returned (.tuple #[.slice none 0 0, .int .i64 1]))

set_option maxHeartbeats 8000000 in
theorem cm_encode (r : Com) (us : List Int) {w : World} (hr : LiAt w r.uA r.uN r.uC us) (hf : Fit64 r us) (hu : r.uN ≤ 100000) :
    Calls Try.prog 9 #[.agg #[.int .i64 r.kind, .int .i64 r.ord, .slice r.uA r.uN r.uC, .int .i64 r.rea, .int .i64 r.want, .bool r.cred, .int .i64 r.rma, .int .i64 r.unit, .int .i64 r.grd, .int .i64 r.days, .int .i64 r.key, .bool r.yes]] w fun e w' => EncE r us e w' ∧ Below w.heap.size w w' := by
  obtain ⟨n0, n1, uA, uN, uC, n3, n4, n5, n6, n7, n8, n9, n10, n11⟩ := r
  dsimp only at *
  have HKD : Aside (∀ X, Calls Try.prog 22 #[.int .i64 n0] X fun e w' => e = .returned (.bool (fromB 1 n0 8)) ∧ X = w') := fun X => cm_isKind n0 X
  have HCT : Aside (∀ X, Calls Try.prog 23 #[.int .i64 (uN : Int)] X fun e w' => e = .returned (.bool (fromB 1 (uN : Int) 60)) ∧ X = w') := fun X => cm_isCount uN X
  have HK0 : Hid (fromB 1 n0 8 = true → 1 ≤ n0 ∧ n0 ≤ 8) := fun h => fromB_true.1 h
  have HK1 : Hid (fromB 1 n0 8 = false → ¬ FormedC ⟨n0, n1, uA, uN, uC, n3, n4, n5, n6, n7, n8, n9, n10, n11⟩ us) := fun h hc => by
    have := hc.1.kind
    dsimp only at this
    rw [fromB_yes this.1 this.2] at h
    cases h
  have HT0 : Hid (fromB 1 (uN : Int) 60 = true → 1 ≤ us.length ∧ us.length ≤ 60) := fun h => by
    have h1 := fromB_true.1 h
    have h2 := hr.len
    omega
  have HT1 : Hid (n0 = 1 → fromB 1 (uN : Int) 60 = false → ¬ FormedC ⟨n0, n1, uA, uN, uC, n3, n4, n5, n6, n7, n8, n9, n10, n11⟩ us) := fun h1 h hc => by
    have := hc.2 h1
    have h2 := hr.len
    rw [fromB_yes (by omega) (by omega)] at h
    cases h
  generalize fromB 1 n0 8 = qk at *
  generalize fromB 1 (uN : Int) 60 = qc at *
  obtain ⟨W, hW, hs2, hb2, X1⟩ := one_box w 30 ⟨n0, n1, uA, uN, uC, n3, n4, n5, n6, n7, n8, n9, n10, n11⟩
  dsimp only at hW
  have HX : Aside (ComBox W w.heap.size 30 ⟨n0, n1, uA, uN, uC, n3, n4, n5, n6, n7, n8, n9, n10, n11⟩) := X1
  have HB : Aside (Below w.heap.size w W) := hb2
  have HU : Aside (LiAt W uA uN uC us) := hr.below hb2
  have HF : Aside (Fit64 ⟨n0, n1, uA, uN, uC, n3, n4, n5, n6, n7, n8, n9, n10, n11⟩ us) := hf
  clear hr hf X1 hb2 hs2
  go_enter Try.func9, Try.ntmps9
  go_upto_region 1 with (fail)
  rw [← hW]
  clear hW
  obtain ⟨g1, hg1⟩ : ∃ g, g = w.heap.size := ⟨_, rfl⟩
  rw [← hg1] at HX ⊢
  have HG1 : Hid (w.heap.size ≤ g1) := by show _ ≤ _; omega
  clear hg1
  obtain ⟨bt, hbt⟩ : ∃ b, b = (!qk || ((n0 == 1) && !qc)) := ⟨_, rfl⟩
  have HBT := Lib.hid hbt
  clear hbt
  go_cut [22] (fun s22 wx => s22 = .bool bt ∧ W = wx)
  case first =>
    as_aux_lemma =>
      obtain ⟨y0, y1, y2, y3, y4, y5, y6, y7, y8, y9, y10, y11⟩ := HX.out.cells
      have hl1 := HX.out.lt
      dsimp only at y0 y1 y2 y3 y4 y5 y6 y7 y8 y9 y10 y11
      go_wp2_with fail
      refine Calls.mono (HKD.out _) ?_
      rintro e w1 ⟨rfl, rfl⟩
      clear HKD
      cases qk with
      | false =>
        go_wp2
        go_meet
        exact ⟨by rw [HBT.out]; rfl, rfl⟩
      | true =>
        by_cases h : n0 = 1
        · have e1 : (n0 == 1) = true := by simpa using h
          clear h
          go_wp2_with fail
          refine Calls.mono (HCT.out _) ?_
          rintro e w1 ⟨rfl, rfl⟩
          cases qc with
          | false =>
            go_wp2
            go_meet
            exact ⟨by rw [HBT.out, e1]; rfl, rfl⟩
          | true =>
            go_wp2
            go_meet
            exact ⟨by rw [HBT.out, e1]; rfl, rfl⟩
        · have e1 : (n0 == 1) = false := by simpa using h
          clear h
          go_wp2
          go_meet
          exact ⟨by rw [HBT.out, e1]; rfl, rfl⟩
  case rest =>
    obtain ⟨rfl, rfl⟩ := hcut
    cases bt with
    | true =>
      as_aux_lemma =>
        have HN : Hid (¬ FormedC ⟨n0, n1, uA, uN, uC, n3, n4, n5, n6, n7, n8, n9, n10, n11⟩ us) := by
          have h := HBT.out
          cases qk with
          | false => exact HK1.out rfl
          | true =>
            by_cases h1 : n0 = 1
            · cases qc with
              | false => exact HT1.out h1 rfl
              | true => simp at h
            · have : (n0 == 1) = false := by simpa using h1
              rw [this] at h
              simp at h
        go_wp2
        go_ret2
        exact ⟨.inr ⟨HN.out, rfl⟩, HB.out⟩
    | false =>
      have HOK : Hid ((1 ≤ n0 ∧ n0 ≤ 8) ∧ (n0 = 1 → 1 ≤ us.length ∧ us.length ≤ 60)) := by
        have h := HBT.out
        cases qk with
        | false => simp at h
        | true =>
          refine ⟨HK0.out rfl, fun h1 => ?_⟩
          have e1 : (n0 == 1) = true := by simpa using h1
          rw [e1] at h
          cases qc with
          | false => simp at h
          | true => exact HT0.out rfl
      clear HK0 HK1 HT0 HT1 HBT HKD HCT
      go_upto_region 4 with (fail)
      have HB3 : Aside (Below w.heap.size w (W.alloc (.cells #[.slice none 0 0, .bool false] 52))) := blw_alloc HB.out _
      have X3 : Aside (ComBox (W.alloc (.cells #[.slice none 0 0, .bool false] 52)) g1 30 ⟨n0, n1, uA, uN, uC, n3, n4, n5, n6, n7, n8, n9, n10, n11⟩) := HX.out.below (upd_box _)
      have O3 : Aside (OutAt (W.alloc (.cells #[.slice none 0 0, .bool false] 52)) W.heap.size (fun k => k = W.heap.size) [] false) := out_made W
      have U3 : Aside (LiAt (W.alloc (.cells #[.slice none 0 0, .bool false] 52)) uA uN uC us) := HU.out.below (upd_box _)
      have HUP : Hid (0 < uN → ∀ b o, uA = some ⟨b, o, none⟩ → ¬ b = W.heap.size) := fun h0 b o e h => by
        rcases HU.out.at' with z | ⟨b', o', e', hb', _⟩
        · have := HU.out.len; rw [z] at this; simp at this; omega
        · rw [e] at e'
          injection e' with e'
          injection e' with e' _
          omega
      obtain ⟨po, hpo⟩ : ∃ g, g = W.heap.size := ⟨_, rfl⟩
      rw [← hpo] at O3 HUP ⊢
      have HPW : Hid (w.heap.size ≤ po ∧ g1 ≠ po) := ⟨by have := HB.out.size; omega, by have := HX.out.lt; omega⟩
      clear hpo HB HX HU
      generalize W.alloc (.cells #[.slice none 0 0, .bool false] 52) = w3 at *
      obtain ⟨y0, y1, y2, y3, y4, y5, y6, y7, y8, y9, y10, y11⟩ := X3.out.cells
      have hl1 := X3.out.lt
      dsimp only at y0 y1 y2 y3 y4 y5 y6 y7 y8 y9 y10 y11
      have HC : Aside _ := cm_put ⟨n0, n1, uA, uN, uC, n3, n4, n5, n6, n7, n8, n9, n10, n11⟩ us O3.out U3.out HF.out HOK.out.1 (fun h => by have := HOK.out.2 h; have := U3.out.len; show uN ≤ _; omega) (by simp) HUP.out
      go_wp2_with fail
      refine Calls.mono HC.out ?_
      rintro e w6 ⟨rfl, W6, b6, ho⟩
      have u6 : Upd (fun k => k = po) w3 w6 := ((Upd.below b6 (S := fun k => k = po))).trans ho.upd (fun _ _ x => x)
      have HB6 : Aside (Below w.heap.size w w6) := HB3.out.trans (u6.toBelow HB3.out.size (fun k hk e => by have := HPW.out; omega))
      have X6 : Aside (ComBox w6 g1 30 ⟨n0, n1, uA, uN, uC, n3, n4, n5, n6, n7, n8, n9, n10, n11⟩) := X3.out.upd u6 HPW.out.2
      have U6 : Aside (LiAt w6 uA uN uC us) := by
        by_cases h0 : 0 < uN
        · exact U3.out.upd u6 (fun b o e _ hs => HUP.out h0 b o e hs)
        · exact ⟨U3.out.len, U3.out.cap, U3.out.most, U3.out.nil, .inl (List.length_eq_zero_iff.1 (by have := U3.out.len; omega))⟩
      have O6 : Aside (OutRun W6 po (fun k => k = po) [] (FitC ⟨n0, n1, uA, uN, uC, n3, n4, n5, n6, n7, n8, n9, n10, n11⟩ us) (comBytes ⟨n0, n1, uA, uN, uC, n3, n4, n5, n6, n7, n8, n9, n10, n11⟩ us) 410 w6) := ho
      clear HC b6 ho u6 HB3 X3 O3 U3 HUP HPW y0 y1 y2 y3 y4 y5 y6 y7 y8 y9 y10 y11 hl1
      have HC : Aside _ := out_end2 O6.out (by decide)
      go_wp2_with fail
      refine Calls.mono HC.out ?_
      rintro e w7 ⟨⟨a, m, cc, bad, zs, rfl, z1, z2, z3, z4, z5, z6, z7⟩, b7⟩
      have HB7 : Aside (Below w.heap.size w w7) := HB6.out.trans (b7.mono HB6.out.size)
      have X7 : Aside (ComBox w7 g1 30 ⟨n0, n1, uA, uN, uC, n3, n4, n5, n6, n7, n8, n9, n10, n11⟩) := X6.out.below b7
      have U7 : Aside (LiAt w7 uA uN uC us) := U6.out.below b7
      have HZ : Hid (zs.length = m ∧ (a = none → cc = 0) ∧ m ≤ cc ∧ cc ≤ maxLen ∧ m ≤ 410) := ⟨z1, z3, z4, z5, z6⟩
      have HZB : Aside (IsBytes w7 a zs) := z2
      have HQ : Hid (FitC ⟨n0, n1, uA, uN, uC, n3, n4, n5, n6, n7, n8, n9, n10, n11⟩ us → bad = false ∧ zs = comBytes ⟨n0, n1, uA, uN, uC, n3, n4, n5, n6, n7, n8, n9, n10, n11⟩ us) := z7
      clear HC b7 z1 z2 z3 z4 z5 z6 z7 HB6 X6 U6 O6
      cases bad with
      | true =>
        as_aux_lemma =>
          have HN : Hid (¬ FormedC ⟨n0, n1, uA, uN, uC, n3, n4, n5, n6, n7, n8, n9, n10, n11⟩ us) := fun h => by
            have := (HQ.out h.1.fit).1
            cases this
          have e2 : endE true = 2 := rfl
          rw [e2]
          clear X7 U7 HZ HZB HQ
          go_upto_region 6 with (fail)
          go_quiet (fail)
          go_wp2
          go_ret2
          exact ⟨.inr ⟨HN.out, rfl⟩, below_drawn HB7.out _⟩
      | false =>
        have e2 : endE false = 0 := rfl
        rw [e2]
        clear e2
        go_upto_region 6 with (fail)
        have HIN : Aside (∀ X, Below w7.heap.size w7 X → Calls Try.prog 27 #[.slice a m cc] X fun e w' => ∃ p S, e = .returned (.pointer (some ⟨p, 0, none⟩)) ∧ InAt w' p S zs false ∧ (∀ k, S k → w7.heap.size ≤ k) ∧ Below w7.heap.size w7 w') := fun X hX => by
          refine (in_new a zs m cc X HZ.out.1 (HZB.out.below hX) HZ.out.2.1 (by have := HZ.out.2.2.2.2; omega)).mono ?_
          rintro e w' ⟨p, S, rfl, hi, hb, hs⟩
          exact ⟨p, S, rfl, hi, fun k hk => Nat.le_trans hX.size (hs k hk), hX.trans (hb.mono hX.size)⟩
        have HRD : Aside (∀ X p S, Below w7.heap.size w7 X → InAt X p S zs false → (∀ k, S k → w7.heap.size ≤ k) → Calls Try.prog 26 #[.pointer (some ⟨p, 0, none⟩)] X fun e w' => ∃ (m0 m1 : Int) (xA : Option Addr) (xN xC : Nat) (m3 m4 : Int) (m5 : Bool) (m6 m7 m8 m9 m10 : Int) (m11 : Bool) (vs : List Int) (rest' : List UInt8) (bad' : Bool), e = .returned (.agg #[.int .i64 m0, .int .i64 m1, .slice xA xN xC, .int .i64 m3, .int .i64 m4, .bool m5, .int .i64 m6, .int .i64 m7, .int .i64 m8, .int .i64 m9, .int .i64 m10, .bool m11]) ∧ LiAt w' xA xN xC vs ∧ xN < 256 ∧ ReadP zs false ⟨m0, m1, xA, xN, xC, m3, m4, m5, m6, m7, m8, m9, m10, m11⟩ vs rest' bad' ∧ Below w7.heap.size w7 w') := fun X p S hX hi hs => by
          refine (cm_read hi).mono ?_
          rintro e w' ⟨r, vs, rest', bad', rfl, hn, -, hu, hl, -, hp⟩
          obtain ⟨m0, m1, xA, xN, xC, m3, m4, m5, m6, m7, m8, m9, m10, m11⟩ := r
          exact ⟨m0, m1, xA, xN, xC, m3, m4, m5, m6, m7, m8, m9, m10, m11, vs, rest', bad', rfl, hn.li, hl, hp, hX.trans (hu.toBelow hX.size (fun k hk e => by have := hs p hi.own; have e : k = p := e; omega))⟩
        have HEQ : Aside (∀ X m0 m1 xA xN xC m3 m4 m5 m6 m7 m8 m9 m10 m11 vs, Below w7.heap.size w7 X → LiAt X xA xN xC vs → xN < 256 → Calls Try.prog 18 #[.agg #[.int .i64 m0, .int .i64 m1, .slice xA xN xC, .int .i64 m3, .int .i64 m4, .bool m5, .int .i64 m6, .int .i64 m7, .int .i64 m8, .int .i64 m9, .int .i64 m10, .bool m11], .agg #[.int .i64 n0, .int .i64 n1, .slice uA uN uC, .int .i64 n3, .int .i64 n4, .bool n5, .int .i64 n6, .int .i64 n7, .int .i64 n8, .int .i64 n9, .int .i64 n10, .bool n11]] X fun e w' => e = .returned (.bool (sameB ⟨m0, m1, xA, xN, xC, m3, m4, m5, m6, m7, m8, m9, m10, m11⟩ ⟨n0, n1, uA, uN, uC, n3, n4, n5, n6, n7, n8, n9, n10, n11⟩ vs us)) ∧ Below w7.heap.size w7 w') := fun X m0 m1 xA xN xC m3 m4 m5 m6 m7 m8 m9 m10 m11 vs hX hv hl => by
          refine (cm_equal ⟨m0, m1, xA, xN, xC, m3, m4, m5, m6, m7, m8, m9, m10, m11⟩ ⟨n0, n1, uA, uN, uC, n3, n4, n5, n6, n7, n8, n9, n10, n11⟩ vs us X hv (U7.out.below hX) (by show xN ≤ _; omega) hu).mono ?_
          rintro e w' ⟨rfl, hb⟩
          exact ⟨rfl, hX.trans (hb.mono hX.size)⟩
        have hl1 := X7.out.lt
        obtain ⟨y0, y1, y2, y3, y4, y5, y6, y7, y8, y9, y10, y11⟩ := X7.out.cells
        dsimp only at y0 y1 y2 y3 y4 y5 y6 y7 y8 y9 y10 y11
        have b0 := Below.refl w7.heap.size w7
        clear X7 U7
        go_region_held3 (fun w' => Below w7.heap.size w7 w' ∧ (∀ o, w'.cell? ⟨g1, o, none⟩ = w7.cell? ⟨g1, o, none⟩))
          (refine ⟨?_, fun o => Below.cell (p := ⟨g1, o, none⟩) ?_ hl1⟩ <;> (with_reducible (repeat (first | assumption | refine Below.drew ?_))))
          ((first
            | (go_at_call 27; with_reducible refine Calls.mono (HIN.out _ ?_) ?_; (with_reducible (repeat (first | assumption | refine Below.drew ?_))); rintro e w31 ⟨pi, Si, rfl, i31, s31, b31⟩)
            | (go_at_call 26; with_reducible refine Calls.mono (HRD.out _ _ _ ?_ (InAt.below i31 (by repeat (first | exact Below.refl _ _ | refine Below.drew ?_))) s31) ?_; (with_reducible (repeat (first | assumption | refine Below.drew ?_))); rintro e w32 ⟨m0, m1, xA, xN, xC, m3, m4, m5, m6, m7, m8, m9, m10, m11, vs, rest', bad', rfl, L32, hN32, P32, b32⟩; have HP32 := Lib.hid P32; have HN32 := Lib.hid hN32; clear P32 hN32)
            | (go_at_call 18; with_reducible refine Calls.mono (HEQ.out _ _ _ _ _ _ _ _ _ _ _ _ _ _ _ _ ?_ (LiAt.below L32 (by repeat (first | exact Below.refl _ _ | refine Below.drew ?_))) HN32.out) ?_; (with_reducible (repeat (first | assumption | refine Below.drew ?_))); rintro e w33 ⟨rfl, b33⟩)))
        all_goals
          have HBF : Aside (Below w.heap.size w w33) := HB7.out.trans (b33.mono HB7.out.size)
          have HZF : Aside (IsBytes w33 a zs) := HZB.out.below b33
          obtain ⟨q, hq⟩ : ∃ q, sameB ⟨m0, m1, xA, xN, xC, m3, m4, m5, m6, m7, m8, m9, m10, m11⟩ ⟨n0, n1, uA, uN, uC, n3, n4, n5, n6, n7, n8, n9, n10, n11⟩ vs us = q := ⟨_, rfl⟩
          rw [hq]
          have HE : Hid (EncE ⟨n0, n1, uA, uN, uC, n3, n4, n5, n6, n7, n8, n9, n10, n11⟩ us (.returned (.tuple (if q = true then #[.slice a m cc, .int .i64 0] else #[.slice none 0 0, .int .i64 1]))) w33) := by
            cases q with
            | true =>
              have hf : FormedC ⟨n0, n1, uA, uN, uC, n3, n4, n5, n6, n7, n8, n9, n10, n11⟩ us := by
                refine ⟨?_, HOK.out.2⟩
                rcases HP32.out.shape with h | ⟨h, -⟩
                · exact h.same hq
                · have h1 := (sameB_true hq).1
                  rw [h] at h1
                  have := HOK.out.1
                  have h1 : (0 : Int) = n0 := h1
                  omega
              obtain ⟨-, rfl⟩ := HQ.out hf.1.fit
              exact .inl ⟨hf, a, m, cc, rfl, HZ.out.1, HZF.out, HZ.out.2.1, HZ.out.2.2.1, HZ.out.2.2.2.1, HZ.out.2.2.2.2⟩
            | false =>
              refine .inr ⟨fun hf => ?_, rfl⟩
              obtain ⟨-, rfl⟩ := HQ.out hf.1.fit
              obtain ⟨h1, -, -⟩ := HP32.out.bwd ⟨n0, n1, uA, uN, uC, n3, n4, n5, n6, n7, n8, n9, n10, n11⟩ us [] rfl hf.1 (by rw [List.append_nil])
              rw [h1] at hq
              cases hq
          clear hq HP32 HN32 L32 b31 b32 b33 s31 i31 HIN HRD HEQ HZB HQ HZ HB7 y0 y1 y2 y3 y4 y5 y6 y7 y8 y9 y10 y11 b0
          cases q with
          | true =>
            go_wp2
            go_ret2
            exact ⟨HE.out, HBF.out⟩
          | false =>
            go_wp2
            go_ret2
            exact ⟨HE.out, HBF.out⟩
end Go.Proofs.Ytmaoimjfkncnpaa
