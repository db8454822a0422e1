/-
  The document's Shares. Conditions: those of the theorems.
-/
import Derived.Test.YtbiompjhenkieaaRefAsked
import Derived.Test.YtbiompjhenkieaaRefBest
import Derived.Deep.DeepCutAuto
namespace Go.Proofs.Ytbiompjhenkieaa
open Go.RowKit
set_option maxRecDepth 100000

theorem wt_take {ws : List Int} {k : Nat} (h : k < ws.length) : wt ws k = ws[k] := by simp [wt, List.getD, h]
theorem partial_sum {ws : List Int} (h : ws.all okW = true) (h1 : ws.sum ≤ 1125899906842624) (k : Nat) (hk : k ≤ ws.length) : 0 ≤ sumTo (wt ws) k ∧ sumTo (wt ws) k ≤ 1125899906842624 := by
  have h2 := sumTo_mono ws.length (fun t _ => all_okW h t) k hk
  rw [all_sum] at h2
  exact ⟨sumTo_nonneg k (fun t _ => all_okW h t), by omega⟩

def rowQ (s : Int) (vs : List Int) (A : Int) (j : Nat) : List Value := (List.range j).map fun t => .int .i64 (quo s vs A t)
def rowR (s : Int) (vs : List Int) (A : Int) (j : Nat) : List Value := (List.range j).map fun t => .int .u64 (rst s vs A t)
theorem rowQ_next (s : Int) (vs : List Int) (A : Int) (j : Nat) : rowQ s vs A j ++ [.int .i64 (quo s vs A j)] = rowQ s vs A (j + 1) := by simp [rowQ, List.range_succ]
theorem rowR_next (s : Int) (vs : List Int) (A : Int) (j : Nat) : rowR s vs A j ++ [.int .u64 (rst s vs A j)] = rowR s vs A (j + 1) := by simp [rowR, List.range_succ]
theorem made_one (z : Value) (hz : z.cells = #[z]) (n : Nat) : madeCells z.cells (n * 1) = Array.replicate n z := by
  apply Array.ext
  · simp [size_madeCells]
  · intro i h1 h2
    simp [madeCells, hz, Nat.mod_one]
theorem make_bools (n : Nat) (hn : n ≤ 1000000) (W : World) :
    (Instr.makeSlice 83 (.int .i64 (n : Int)) (.int .i64 (n : Int))).run Try.prog W = .ok (.slice (some ⟨W.heap.size, 0, none⟩) n n) (W.alloc (.cells (Array.replicate n (.bool false)) 4)) := by
  obtain ⟨i, h1, h2, h3, h4⟩ := info_parts (P := Try.prog) (e := 4) (z := .bool false) (size := 1) (bytes := 1) (by kernel_rfl)
  have := run_make (P := Try.prog) W 83 4 i (.bool false) Try.underlying83 h1 h2 .i64 .i64 (n : Int) (n : Int) (by omega) (Int.le_refl _) (by rw [h4]; omega) (by omega)
  rw [Int.toNat_natCast, h3, made_one _ rfl] at this
  exact this
theorem sharesOf_at {s : Int} {ws : List Int} {t : Nat} (h : t < (sharesOf s ws).length) : (sharesOf s ws)[t] = shareAt s (wsOf ws) (wsOf ws).sum t := sharesBy_get s (wsOf ws) (wsOf ws).sum t h
def RefEnd (s : Int) (ws : List Int) (n : Nat) (w : World) (e : Ending) (w' : World) : Prop :=
  ∃ O c : Nat, e = .returned (.slice (some ⟨O, 0, none⟩) n c) ∧ Below w.heap.size w w' ∧ IsInts w' (some ⟨O, 0, none⟩) (sharesOf s ws) ∧ w.heap.size ≤ O
/-- Two rows in different blocks. -/
def Apart (v u : Value) : Prop := ∀ g, v.ownBlock = some g → u.ownBlock = some g → False

/-- The long division, of a sum by weights. -/
theorem ref_divided_wt {s A : Int} {vs : List Int} (H : Weights s vs A) (j : Nat) (w : World) :
    Calls Try.prog 37 #[.int .i64 s, .int .i64 (wt vs j), .int .i64 A] w fun e w' => e = .returned (.tuple #[.int .i64 (quo s vs A j), .int .u64 (rst s vs A j)]) ∧ w = w' := by
  obtain ⟨S, hS⟩ := Int.eq_ofNat_of_zero_le H.s0
  obtain ⟨X, hX⟩ := Int.eq_ofNat_of_zero_le (H.w0 j)
  obtain ⟨O, hO⟩ := Int.eq_ofNat_of_zero_le (Int.le_of_lt H.a0)
  have h1 := H.s1
  have h2 := H.wa j
  have h3 := H.a0
  have h4 := H.a1
  have e1 : quo s vs A j = ((S * X / O : Nat) : Int) := by rw [quo, hX, hS, hO, Int.natCast_ediv, Int.natCast_mul]
  have e2 : rst s vs A j = ((S * X % O : Nat) : Int) := by
    rw [rst, e1, hX, hS, hO, Int.natCast_emod, Int.natCast_mul, Int.emod_def, Int.natCast_ediv, Int.natCast_mul, Int.mul_comm (O : Int)]
  rw [e1, e2, hX, hS, hO]
  exact ref_divided S X O (by omega) (by omega) (by omega) (by omega) w

set_option maxHeartbeats 4000000 in
theorem ref_shares (b off n c : Nat) (s : Int) (ws : List Int) (w : World) (hn : ws.length = n) (hr : rightW ws = true) (hs : okW s = true) (hm : ws.sum ≤ 1125899906842624) (hb : b < w.heap.size) (hx : ∀ i (h : i < ws.length), w.cell? ⟨b, off + i, none⟩ = some (.int .i64 ws[i])) :
    Calls Try.prog 24 #[.int .i64 s, .slice (some ⟨b, off, none⟩) n c] w fun e w' => RefEnd s ws n w e w' := by
  have HX : Aside (∀ i (h : i < ws.length), w.cell? ⟨b, off + i, none⟩ = some (.int .i64 ws[i])) := hx
  have HR := Lib.hid hr
  have HS := Lib.hid hs
  have HM := Lib.hid hm
  have hn1 := (rightW_few hr).1
  have hn2 := (rightW_few hr).2
  rw [hn] at hn1 hn2
  have HN := Lib.hid hn
  clear hx hr hs hm hn
  go_enter Try.func24, Try.ntmps24
  go_wp2
  go_loop [5, 20] (fun v i => ∃ (k : Nat) (t : Int), k ≤ n ∧ v = .int .i64 t ∧ i = .int .i64 k ∧ Hid (t = sumTo (wt ws) k)) (fun _ i => n - (intOf i).toNat)
  case atStart => exact ⟨0, 0, Nat.zero_le _, rfl, rfl, rfl⟩
  case round =>
    obtain ⟨k, t, hk, rfl, rfl, HT⟩ := hrel
    by_cases hlt : k < n
    · have hlk : k < ws.length := by rw [HN.out]; exact hlt
      have hck := HX.out k hlk
      have hkn : (k : Int) < (n : Int) := by omega
      have hw := wt_take hlk
      have hp := partial_sum (rightW_all HR.out) HM.out k (by omega)
      have hp2 := partial_sum (rightW_all HR.out) HM.out (k + 1) (by omega)
      rw [← HT.out] at hp
      have HP2 : Hid (sumTo (wt ws) (k + 1) = t + ws[k]) := by show _ = _; rw [sumTo, hw, HT.out]
      rw [HP2.out] at hp2
      obtain ⟨p1, p2⟩ := hp
      obtain ⟨p3, p4⟩ := hp2
      generalize ws[k] = x at *
      clear hw
      go_wp2
      go_round
      case rel => exact ⟨k + 1, t + x, by omega, rfl, by go_num, HP2.out.symm⟩
      case measure => simp [intOf]; omega
    · obtain rfl : k = n := by omega
      have hts : t = ws.sum := by rw [HT.out, ← all_sum, HN.out]
      have HTS := Lib.hid hts
      clear hts HT
      have hown : (w.alloc (.cells #[] 2)).ownsRow w.heap.size 2 1 (.slice (some ⟨w.heap.size, 0, none⟩) 0 0) 0 [] :=
        ⟨rfl, .inr ⟨w.heap.size, 0, #[], rfl, Nat.le_refl _, by show (w.heap.push _)[w.heap.size]? = _; rw [Array.getElem?_push_size], Nat.le_refl _, Nat.zero_le _, rfl, rfl⟩⟩
      have hnews : ∀ j u, (ws.map (Value.int .i64))[j]? = some u → (w.alloc (.cells #[] 2)).cell? ((⟨b, off, none⟩ : Addr).add j) = some u := fun j u hj => by
        rw [List.getElem?_map] at hj
        by_cases hjl : j < ws.length
        · rw [List.getElem?_eq_getElem hjl] at hj
          simp only [Option.map_some, Option.some.injEq] at hj
          rw [show (⟨b, off, none⟩ : Addr).add j = ⟨b, off + j, none⟩ from by unfold Addr.add; split <;> simp_all]
          rw [((Below.refl w.heap.size w).alloc (Nat.le_refl _) _).cell (p := ⟨b, off + j, none⟩) hb, HX.out j hjl, hj]
        · rw [List.getElem?_eq_none (by omega)] at hj; cases hj
      have HO : Aside _ := hown
      have HNE : Aside _ := hnews
      clear hown hnews
      go_upto_if 34 with (at_builtin; refine wpList_append_full rfl _ _ 58 rfl w.heap.size 2 (.int .i64 0) 1 8 Try.underlying58 (by kernel_rfl) rfl (by decide) (.slice (some ⟨w.heap.size, 0, none⟩) 0 0) 0 [] rfl HO.out ⟨b, off, none⟩ k c (ws.map (.int .i64)) rfl (by rw [List.length_map, HN.out, Nat.mul_one]) HNE.out (by intro u hu; obtain ⟨x, _, rfl⟩ := List.mem_map.1 hu; rfl) (by unfold maxLen; omega) (by omega) (by simp) ?_; intro a' c' w2 ho2 hg2 _)
      simp only [Nat.zero_add, List.nil_append] at ho2
      have b2 : Below w.heap.size w w2 := ((Below.refl _ _).alloc (Nat.le_refl _) _).grown hg2 (by simp) (fun g hg => by simp only [Value.ownBlock, Option.some.injEq] at hg; omega)
      obtain ⟨Wb, rfl, hkc, hrow⟩ := RowV.owned ho2 (by omega)
      have hrow2 : RowV w.heap.size Wb k (fun t => .int .i64 (wt ws t)) w2 := hrow.congr fun t ht => by
        have hl : t < ws.length := by rw [HN.out]; exact ht
        simp [wt, List.getD, hl]
      have R2 : Aside (RowV w.heap.size Wb k (fun t => .int .i64 (wt ws t)) w2) := hrow2
      have B2 : Aside (Below w.heap.size w w2) := b2
      have hA0 := sum_nonneg (rightW_all HR.out)
      have HWS : Hid ((wsOf ws).sum = if ws.sum = 0 then (k : Int) else ws.sum) := by
        show _ = _
        unfold wsOf
        split
        · rw [ones_sum, HN.out]
        · rfl
      obtain ⟨A, hA⟩ : ∃ A, A = (wsOf ws).sum := ⟨_, rfl⟩
      have HA := Lib.hid hA
      clear ho2 hg2 hrow hrow2 b2 HO HNE hA hA0
      go_cut [5] (fun v5 wx => v5 = .int .i64 A ∧ Aside (RowV w.heap.size Wb k (fun t => .int .i64 (wt (wsOf ws) t)) wx) ∧ Aside (Below w.heap.size w wx))
      case first =>
        by_cases ht : t = 0
        · have hz : ws.sum = 0 := by rw [← HTS.out]; exact ht
          subst ht
          have hw1 : Hid (∀ i, i < k → wt (wsOf ws) i = 1) := fun i hi => by
            have : wsOf ws = List.replicate ws.length 1 := by unfold wsOf; rw [if_pos hz]
            rw [this, HN.out]
            simp [wt, List.getD, hi]
          have HAK : Hid (A = (k : Int)) := by show A = _; rw [HA.out, HWS.out, if_pos hz]
          clear hz
          go_wp2
          go_loopw [37] (fun i wr => ∃ j : Nat, i = .int .i64 j ∧ j ≤ k ∧ Aside (RowV w.heap.size Wb k (fun t => .int .i64 (if t < j then 1 else wt ws t)) wr) ∧ Aside (Below w.heap.size w wr)) (fun i _ => k - (intOf i).toNat)
          case atStart => exact ⟨0, rfl, Nat.zero_le _, R2.out.congr fun t _ => by simp, B2.out⟩
          case round =>
            clear R2 B2
            obtain ⟨j, rfl, hj, RJ, BJ⟩ := hrel
            by_cases hlt2 : j < k
            · have hlt3 : (j : Int) < (k : Int) := by omega
              have c1 := RJ.out.cs j hlt2
              have f1 := RJ.out.fs j hlt2
              generalize (if j < j then (1 : Int) else wt ws j) = y at c1
              go_wp2
              go_roundw
              case rel =>
                refine ⟨j + 1, by go_num, hlt2, (RJ.out.put j hlt2 (.int .i64 1)).congr fun t _ => ?_, BJ.out.setCell RJ.out.new _⟩
                unfold updV
                by_cases e : t = j
                · rw [if_pos e, if_pos (by omega)]
                · rw [if_neg e]
                  show Value.int .i64 (if t < j then 1 else wt ws t) = _
                  by_cases e2 : t < j
                  · rw [if_pos e2, if_pos (by omega)]
                  · rw [if_neg e2, if_neg (by omega)]
              case measure => simp [intOf]; omega
            · obtain rfl : j = k := by omega
              go_wp2_with fail
              go_meet
              exact ⟨by rw [HAK.out], RJ.out.congr fun t ht => by rw [if_pos ht, hw1.out t ht], BJ.out⟩
        · have hz : ¬ ws.sum = 0 := by rw [← HTS.out]; exact ht
          have hw1 : Hid (wsOf ws = ws) := by show wsOf ws = ws; unfold wsOf; rw [if_neg hz]
          have HAK : Hid (A = t) := by show A = t; rw [HA.out, hw1.out, HTS.out]
          clear hz
          go_wp2_with fail
          go_meet
          exact ⟨by rw [HAK.out], by rw [hw1.out]; exact R2.out, B2.out⟩
      case rest =>
        clear R2 B2
        obtain ⟨rfl, RW, BW⟩ := hcut
        have hsok := okW_yes HS.out
        have hWW : Weights s (wsOf ws) A := by
          have hall : (wsOf ws).all okW = true := by
            unfold wsOf
            split
            · rw [List.all_replicate]; split <;> rfl
            · exact rightW_all HR.out
          refine ⟨hsok.1, hsok.2, all_okW hall, by rw [all_sum, HA.out], ?_, ?_⟩
          · have h1 := sum_nonneg (rightW_all HR.out)
            rw [HA.out, HWS.out]; split <;> omega
          · have h1 := HM.out
            rw [HA.out, HWS.out]; split <;> omega
        have WW : Aside (Weights s (wsOf ws) A) := hWW
        have a0 := hWW.a0
        have a1 := hWW.a1
        have s0 := hsok.1
        have s1 := hsok.2
        have HLW : Hid ((wsOf ws).length = k) := by show _ = k; rw [wsOf_length, HN.out]
        obtain ⟨vs, hvs⟩ : ∃ vs, vs = wsOf ws := ⟨_, rfl⟩
        have HVS := Lib.hid hvs
        rw [← hvs] at RW WW HLW HA
        generalize wc = w3 at RW BW ⊢
        clear hsok hWW hvs HX HTS HWS HM
        go_wp2
        go_loopw [9, 10, 11, 49] (fun v9 v10 v11 v49 wr => ∃ (j : Nat) (ao ar : Option Addr) (co cr : Nat) (L : Int), v9 = .slice ao j co ∧ v10 = .slice ar j cr ∧ v11 = .int .i64 L ∧ v49 = .int .i64 j ∧ j ≤ k ∧ Hid (L = s - sumTo (quo s vs A) j) ∧
            Hid (wr.ownsRow w3.heap.size 2 1 (.slice ao j co) j (rowQ s vs A j)) ∧ Hid (wr.ownsRow w3.heap.size 80 1 (.slice ar j cr) j (rowR s vs A j)) ∧ Aside (Apart (.slice ao j co) (.slice ar j cr)) ∧ Aside (Below w3.heap.size w3 wr)) (fun _ _ _ v49 _ => k - (intOf v49).toNat)
        case atStart => exact ⟨0, none, none, 0, 0, s, rfl, rfl, rfl, rfl, Nat.zero_le _, by show s = _; rw [sumTo]; omega, ⟨rfl, .inl ⟨rfl, rfl⟩⟩, ⟨rfl, .inl ⟨rfl, rfl⟩⟩, (fun g h => by cases h), Below.refl _ _⟩
        case round =>
          obtain ⟨j, ao, ar, co, cr, L, rfl, rfl, rfl, rfl, hj, HL, HQ, HRr, AP, BJ⟩ := hrel
          by_cases hlt2 : j < k
          · have hlt3 : (j : Int) < (k : Int) := by omega
            have hcj := (RW.out.after BJ.out).cs j hlt2
            have hD := ref_divided_wt WW.out j wr
            have hq := WW.out.quo j
            have hL : -1125899906842624000 ≤ L ∧ L ≤ 1125899906842624 := by
              have h1 := sumTo_nonneg (f := quo s vs A) j (fun t _ => (WW.out.quo t).1)
              have h2 := sumTo_le (f := quo s vs A) (b := 1125899906842624) j (fun t _ => by have := (WW.out.quo t).2; omega)
              have := HL.out
              omega
            obtain ⟨hL1, hL2⟩ := hL
            have HQN := Lib.hid (rowQ_next s vs A j)
            have HRN := Lib.hid (rowR_next s vs A j)
            have HLN : Hid (L - quo s vs A j = s - sumTo (quo s vs A) (j + 1)) := by show _ = _; rw [sumTo, HL.out]; omega
            obtain ⟨q, hq1⟩ : ∃ q, q = quo s vs A j := ⟨_, rfl⟩
            obtain ⟨r, hr1⟩ : ∃ r, r = rst s vs A j := ⟨_, rfl⟩
            obtain ⟨x, hx1⟩ : ∃ x, x = wt vs j := ⟨_, rfl⟩
            rw [← hq1] at hq HQN HLN
            rw [← hr1] at HRN
            rw [← hq1, ← hr1, ← hx1] at hD
            rw [← hx1] at hcj
            obtain ⟨q0, q1⟩ := hq
            have hz := BJ.out.size
            clear hq1 hr1 hx1
            go_wp2_with fail
            refine hD.mono ?_
            rintro e w4 ⟨rfl, rfl⟩
            clear hD
            have ho1 : Aside _ := ownsRow_alloc HQ.out (.cells #[.int .i64 q] 2)
            have hb1 : Aside _ := BJ.out.alloc hz (.cells #[.int .i64 q] 2)
            go_upto_region 23 with (at_builtin; refine wpList_append_elem rfl _ _ 58 rfl w3.heap.size 2 (.int .i64 0) 8 Try.underlying58 (by kernel_rfl) rfl (.slice ao j co) j _ rfl ho1.out (.int .i64 q) rfl ⟨wr.heap.size, 0, none⟩ 1 rfl (by simp) (j + 1) rfl (by unfold maxLen; omega) (by omega) (by simp; omega) w3.heap.size w3 hb1.out (Nat.le_refl _) ?_; intro a1 c1 w5 ho5 hb5 hu5 hn5)
            have hz5 := hb5.size
            have hrest5 : w5.ownsRow w3.heap.size 80 1 (.slice ar j cr) j (rowR s vs A j) := ownsRow_upd (ownsRow_alloc HRr.out _) hu5 (fun g hg hg2 => AP.out g hg2 hg)
            have hap5 : Apart (.slice a1 (j + 1) c1) (.slice ar j cr) := fun g hg hg2 => by
              rcases hn5 g hg with h | h
              · exact AP.out g h hg2
              · have := own_in HRr.out hg2
                simp at h; omega
            have HQ5 : Hid (w5.ownsRow w3.heap.size 2 1 (.slice a1 (j + 1) c1) (j + 1) (rowQ s vs A (j + 1))) := by
              have := ho5.out
              rw [HQN.out] at this
              exact this
            have ho6 : Aside _ := ownsRow_alloc hrest5 (.cells #[.int .u64 r] 80)
            have hb6 : Aside _ := hb5.alloc hz5 (.cells #[.int .u64 r] 80)
            have HAP5 : Aside (Apart (.slice a1 (j + 1) c1) (.slice ar j cr)) := hap5
            have HR5 : Hid (w5.ownsRow w3.heap.size 80 1 (.slice ar j cr) j (rowR s vs A j)) := hrest5
            clear ho5 hb5 hu5 hn5 hrest5 hap5 ho1 hb1 HQ HRr AP HQN
            go_wp2_with (at_builtin; refine wpList_append_elem rfl _ _ 79 rfl w3.heap.size 80 (.int .u64 0) 8 Try.underlying79 (by kernel_rfl) rfl (.slice ar j cr) j _ rfl ho6.out (.int .u64 r) rfl ⟨w5.heap.size, 0, none⟩ 1 rfl (by simp) (j + 1) rfl (by unfold maxLen; omega) (by omega) (by simp; omega) w3.heap.size w3 hb6.out (Nat.le_refl _) ?_; intro a2 c2 w6 ho7 hb7 hu7 hn7)
            have HR7 : Hid (w6.ownsRow w3.heap.size 80 1 (.slice a2 (j + 1) c2) (j + 1) (rowR s vs A (j + 1))) := by
              have := ho7.out
              rw [HRN.out] at this
              exact this
            have HQ7 : Hid (w6.ownsRow w3.heap.size 2 1 (.slice a1 (j + 1) c1) (j + 1) (rowQ s vs A (j + 1))) := ownsRow_upd (ownsRow_alloc HQ5.out _) hu7 (fun g hg hg2 => HAP5.out g hg hg2)
            have HAP7 : Aside (Apart (.slice a1 (j + 1) c1) (.slice a2 (j + 1) c2)) := fun g hg hg2 => by
              rcases hn7 g hg2 with h | h
              · exact HAP5.out g hg h
              · have := own_in HQ5.out hg
                simp at h; omega
            have HB7 : Aside (Below w3.heap.size w3 w6) := hb7
            clear ho7 hb7 hu7 hn7 ho6 hb6 HQ5 HR5 HAP5 HRN
            go_roundw
            case rel => exact ⟨j + 1, a1, a2, c1, c2, L - q, rfl, rfl, rfl, by go_num, hlt2, HLN.out, HQ7.out, HR7.out, HAP7.out, HB7.out⟩
            case measure => simp [intOf]; omega
          · obtain rfl : j = k := by omega
            obtain ⟨O, rfl, hoc, hrowO⟩ := RowV.owned HQ.out (by omega)
            obtain ⟨R, rfl, hrc, hrowR⟩ := RowV.owned HRr.out (by omega)
            have hOR : ¬ O = R := fun e => AP.out O rfl (by rw [e]; rfl)
            have RO : Aside (RowV w3.heap.size O j (fun t => .int .i64 (quo s vs A t)) wr) := hrowO.congr fun t ht => by simp [rowQ, List.getD, ht]
            have RR : Aside (RowV w3.heap.size R j (fun t => .int .u64 (rst s vs A t)) wr) := hrowR.congr fun t ht => by simp [rowR, List.getD, ht]
            have hleft := WW.out.left
            have hLv : left s vs A = L := by rw [HL.out, left, HLW.out]
            rw [hLv, HLW.out] at hleft
            obtain ⟨M, rfl⟩ := Int.eq_ofNat_of_zero_le hleft.1
            have hMj : M < j := by omega
            have HLV := Lib.hid hLv
            clear hrowO hrowR HQ HRr AP HL hLv hleft
            have hmk := fun W => make_bools j (by omega) W
            have HMK : Aside _ := hmk
            go_wp2
            obtain ⟨Gb, hGb⟩ : ∃ q, q = wr.heap.size := ⟨_, rfl⟩
            have hrG : RowV w3.heap.size Gb j (fun _ => .bool false) (wr.alloc (.cells (Array.replicate j (.bool false)) 4)) := by
              rw [hGb]
              exact ⟨BJ.out.size, by simp, fun t ht => by simp [ht], fun t ht => by simp⟩
            have hbn : Below wr.heap.size wr (wr.alloc (.cells (Array.replicate j (.bool false)) 4)) := (Below.refl _ _).alloc (Nat.le_refl _) _
            have RG1 : Aside _ := hrG
            have RO1 : Aside _ := RO.out.after hbn
            have RR1 : Aside _ := RR.out.after hbn
            have B1 : Aside _ := BJ.out.trans (hbn.mono BJ.out.size)
            have hGO : ¬ Gb = O := by have := RO.out.lt; omega
            have hGR : ¬ Gb = R := by have := RR.out.lt; omega
            rw [← hGb]
            generalize wr.alloc (.cells (Array.replicate j (.bool false)) 4) = w8 at RG1 RO1 RR1 B1 ⊢
            have HGB := Lib.hid hGb
            clear hmk HMK hrG hbn RO RR BJ hGb
            go_loopw [11] (fun v11 wr => ∃ (G : Nat → Bool) (cnt l : Nat), v11 = .int .i64 l ∧ l + cnt ≤ M ∧ M ≤ l + cnt ∧ Hid ((List.range j).countP G = cnt) ∧ Aside (UC (rst s vs A) j G) ∧
                Aside (RowV w3.heap.size O j (fun t => .int .i64 (quo s vs A t + if G t then 1 else 0)) wr) ∧ Aside (RowV w3.heap.size Gb j (fun t => .bool (G t)) wr) ∧ Aside (RowV w3.heap.size R j (fun t => .int .u64 (rst s vs A t)) wr) ∧ Aside (Below w3.heap.size w3 wr)) (fun v11 _ => (intOf v11).toNat)
            case atStart => exact ⟨fun _ => false, 0, M, rfl, by omega, by omega, by show _ = _; simp, (fun _ _ _ _ h _ => by cases h), RO1.out.congr (fun t _ => by simp), RG1.out, RR1.out, B1.out⟩
            case round =>
              clear RO1 RG1 RR1 B1
              obtain ⟨G, cnt, l, rfl, hl1, hl2, HC, HU, RO, RG, RR, BJ⟩ := hrel
              by_cases hlt4 : 0 < l
              · have hlt5 : 0 < (l : Int) := by omega
                generalize wr = wo at *
                go_wp2
                go_loopw [16, 81] (fun v16 v81 wr2 => ∃ (i : Nat) (B : Int), v16 = .int .i64 B ∧ v81 = .int .i64 i ∧ i ≤ j ∧ Aside (Best (rst s vs A) G i B) ∧ Aside (Below wo.heap.size wo wr2)) (fun _ v81 _ => j - (intOf v81).toNat)
                case atStart => exact ⟨0, -1, rfl, rfl, Nat.zero_le _, Best.zero _ _, Below.refl _ _⟩
                case round =>
                  obtain ⟨i, B, rfl, rfl, hij, HB, BB⟩ := hrel
                  have hRR2 := RR.out.after BB.out
                  have hRG2 := RG.out.after BB.out
                  by_cases hlt6 : i < j
                  · have hlt7 : (i : Int) < (j : Int) := by omega
                    have cg := hRG2.cs i hlt6
                    cases hg : G i with
                    | true =>
                      rw [hg] at cg
                      have HBN : Aside (Best (rst s vs A) G (i + 1) B) := HB.out.skip hg
                      clear hRR2 hRG2 HB hg
                      go_wp2_with fail
                      go_quiet (fail)
                      have BN : Aside (Below wo.heap.size wo (wr.drewN nq)) := below_drawn' BB.out nq
                      clear BB cg
                      generalize wr.drewN nq = wq at BN ⊢
                      go_wp2
                      go_roundw
                      case rel => exact ⟨i + 1, B, rfl, by go_num, by omega, HBN.out, BN.out⟩
                      case measure => simp [intOf]; omega
                    | false =>
                      rw [hg] at cg
                      rcases HB.out with ⟨hB1, hB2⟩ | ⟨b', hB1, hB2, hB3, hB4⟩
                      · subst hB1
                        have HBN : Aside (Best (rst s vs A) G (i + 1) i) := Best.first hB2 hg
                        clear hRR2 hRG2 HB hg hB2
                        go_wp2_with fail
                        go_quiet (fail)
                        have BN : Aside (Below wo.heap.size wo (wr.drewN nq)) := below_drawn' BB.out nq
                        clear BB cg
                        generalize wr.drewN nq = wq at BN ⊢
                        go_wp2
                        go_roundw
                        case rel => exact ⟨i + 1, i, rfl, by go_num, by omega, HBN.out, BN.out⟩
                        case measure => simp [intOf]; omega
                      · subst hB1
                        have hbj : b' < j := by omega
                        have hbj' : (b' : Int) < (j : Int) := by omega
                        have c1 := hRR2.cs i hlt6
                        have c2 := hRR2.cs b' hbj
                        have HBB : Aside (rst s vs A b' < rst s vs A i → Best (rst s vs A) G (i + 1) i) := fun h => Best.better hB4 hg h
                        have HBS : Aside (¬ rst s vs A b' < rst s vs A i → Best (rst s vs A) G (i + 1) b') := fun h => Best.stay hB2 hB3 hB4 h
                        generalize rst s vs A i = x at c1 HBB HBS
                        generalize rst s vs A b' = y at c2 HBB HBS
                        clear hRR2 hRG2 HB hg hB3 hB4
                        by_cases hxy : y < x
                        · have HBN : Aside (Best (rst s vs A) G (i + 1) i) := HBB.out hxy
                          go_wp2_with fail
                          go_quiet (fail)
                          have BN : Aside (Below wo.heap.size wo (wr.drewN nq)) := below_drawn' BB.out nq
                          clear BB cg c1 c2
                          generalize wr.drewN nq = wq at BN ⊢
                          go_wp2
                          go_roundw
                          case rel => exact ⟨i + 1, i, rfl, by go_num, by omega, HBN.out, BN.out⟩
                          case measure => simp [intOf]; omega
                        · have HBN : Aside (Best (rst s vs A) G (i + 1) b') := HBS.out hxy
                          have hxy' : decide (y < x) = false := decide_eq_false hxy
                          go_wp2_with fail
                          go_quiet (fail)
                          have BN : Aside (Below wo.heap.size wo (wr.drewN nq)) := below_drawn' BB.out nq
                          clear BB cg c1 c2
                          generalize wr.drewN nq = wq at BN ⊢
                          go_wp2
                          go_roundw
                          case rel => exact ⟨i + 1, b', rfl, by go_num, by omega, HBN.out, BN.out⟩
                          case measure => simp [intOf]; omega
                  · obtain rfl : i = j := by omega
                    obtain ⟨b', hB1, hB2, hB3, hB4⟩ := HB.out.found HC.out (by omega)
                    subst hB1
                    have hbj' : (b' : Int) < (i : Int) := by omega
                    have hRO2 := RO.out.after BB.out
                    have g1 := hRG2.cs b' hB2
                    have g2 := hRG2.fs b' hB2
                    have o1 := hRO2.cs b' hB2
                    have o2 := hRO2.fs b' hB2
                    rw [hB3] at g1 o1
                    have hq := WW.out.quo b'
                    have HCN : Hid ((List.range i).countP (give G b') = cnt + 1) := by show _ = _; rw [count_more i hB2 hB3, HC.out]
                    have HUN : Aside (UC (rst s vs A) i (give G b')) := HU.out.more hB4
                    have HGB3 := Lib.hid hB3
                    obtain ⟨q, hq1⟩ : ∃ q, q = quo s vs A b' := ⟨_, rfl⟩
                    rw [← hq1] at hq
                    have HQ1 := Lib.hid hq1
                    simp only [Bool.false_eq_true, if_false, Int.add_zero] at o1
                    rw [← hq1] at o1
                    obtain ⟨q0, q1⟩ := hq
                    have RO2 : Aside (RowV w3.heap.size O i (fun t => .int .i64 (quo s vs A t + if G t then 1 else 0)) wr) := hRO2
                    have RG2 : Aside (RowV w3.heap.size Gb i (fun t => .bool (G t)) wr) := hRG2
                    have RR2 : Aside (RowV w3.heap.size R i (fun t => .int .u64 (rst s vs A t)) wr) := hRR2
                    have BJ2 : Aside (Below w3.heap.size w3 wr) := BJ.out.trans (BB.out.mono BJ.out.size)
                    clear hRO2 hRG2 hRR2 hq1 hB3 hB4 HB BB BJ RO RG RR HC HU
                    go_wp2
                    go_roundw
                    case rel =>
                      refine ⟨give G b', cnt + 1, l - 1, by congr 1; omega, by omega, by omega, HCN.out, HUN.out, ?_, ?_, ?_, ?_⟩
                      · refine ((RO2.out.other hGO b' (.bool true)).put b' hB2 (.int .i64 (q + 1))).congr fun t ht => ?_
                        unfold updV give
                        by_cases e : t = b'
                        · rw [if_pos e, if_pos e, e, HQ1.out]; rfl
                        · rw [if_neg e, if_neg e]
                      · exact ((RG2.out.put b' hB2 (.bool true)).other (fun e => hGO e.symm) b' (.int .i64 (q + 1))).congr fun t ht => by
                          unfold updV give
                          by_cases e : t = b'
                          · rw [if_pos e, if_pos e]
                          · rw [if_neg e, if_neg e]
                      · exact (RR2.out.other hGR b' (.bool true)).other hOR b' (.int .i64 (q + 1))
                      · exact (BJ2.out.setCell RG2.out.new _).setCell RO2.out.new _
                    case measure => simp [intOf]; omega
              · obtain rfl : l = 0 := by omega
                have hcm : cnt = M := by omega
                subst hcm
                go_wp2
                go_ret
                have hwj : (wsOf ws).length = j := by rw [wsOf_length, HN.out]
                refine ⟨O, co, rfl, BW.out.trans (BJ.out.mono BW.out.size), .inr ⟨O, 0, rfl, RO.out.lt, fun t ht => ?_⟩, Nat.le_trans BW.out.size RO.out.new⟩
                rw [sharesOf_length, HN.out] at ht
                rw [Nat.zero_add]
                rw [RO.out.cs t ht]
                have hG := among HC.out HU.out t ht
                rw [sharesOf_at, ← HVS.out, ← HA.out]
                unfold shareAt
                rw [HLW.out, HLV.out, hG]
                congr 3
                by_cases h : rank (rst s vs A) j t < cnt
                · rw [decide_eq_true h, if_pos rfl, if_pos (by omega)]
                · rw [decide_eq_false h, if_neg (by decide), if_neg (by omega)]
end Go.Proofs.Ytbiompjhenkieaa
