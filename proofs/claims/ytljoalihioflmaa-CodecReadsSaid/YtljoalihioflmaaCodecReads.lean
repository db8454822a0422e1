/-
  CodecReads: of any bytes whatever is asked for is what the document says, or it is bad, and all is nought from then on. No conditions: every input.
-/
import Derived.Test.YtljoalihioflmaaAsk
import Derived.Deep.DeepCutAuto
import Derived.Deep.CutBlock
namespace Go.Proofs.Ytljoalihioflmaa
open Go.RowKit Go.WideShapes
set_option maxRecDepth 100000

set_option maxHeartbeats 800000 in
theorem reads_far (a : Option Addr) (m c : Nat) (ai : Option Addr) (n ci : Nat) (w : World) (hf : 5000 < m ∨ 60 < n) :
    Calls Try.prog 9 #[.slice a m c, .slice ai n ci] w fun e w' => e = .returned (.bool true) ∧ Below w.heap.size w w' := by
  by_cases h1 : 5000 < m
  · have h2 : (5000 : Int) < m := by omega
    go_enter Try.func9, Try.ntmps9
    go_wp2_with fail
    refine (codec_awake _).mono ?_
    rintro e w1 ⟨rfl, b1⟩
    go_wp2_with fail
    refine (codec_awake _).mono ?_
    rintro e w2 ⟨rfl, b2⟩
    go_wp2
    go_ret
    exact ⟨rfl, b1.trans (b2.mono b1.size)⟩
  · have h2 : ¬ (5000 : Int) < m := by omega
    have h3 : (60 : Int) < n := by omega
    clear hf
    go_enter Try.func9, Try.ntmps9
    go_wp2_with fail
    refine (codec_awake _).mono ?_
    rintro e w1 ⟨rfl, b1⟩
    go_wp2_with fail
    refine (codec_awake _).mono ?_
    rintro e w2 ⟨rfl, b2⟩
    go_wp2
    go_ret
    exact ⟨rfl, b1.trans (b2.mono b1.size)⟩

theorem addr_add (b o s : Nat) : (⟨b, o, none⟩ : Addr).add s = ⟨b, o + s, none⟩ := by unfold Addr.add; split <;> simp_all
/-- What lies behind the first s bytes of a slice. -/
theorem dropA_facts {W : World} {av AV : Option Addr} {cv s p : Nat} {rl : List UInt8} {f : Addr → Addr} (hf : ∀ b o, f ⟨b, o, none⟩ = ⟨b, o + s, none⟩) (hA : (if cv = s then av else Option.map f av) = AV)
    (hby : IsBytes W av rl) (hl : rl.length ≤ cv) (hnil : av = none → cv = 0) (hsp : ∀ x, av = some x → x.block ≠ p ∧ x.spot = none) :
    IsBytes W AV (rl.drop s) ∧ (AV = none → cv - s = 0) ∧ ∀ x, AV = some x → x.block ≠ p ∧ x.spot = none := by
  by_cases hc : cv = s
  · rw [if_pos hc] at hA
    subst hA
    exact ⟨.inl (by rw [List.drop_eq_nil_iff]; omega), fun _ => by omega, hsp⟩
  · rw [if_neg hc] at hA
    subst hA
    refine ⟨?_, fun h => ?_, fun x hx => ?_⟩
    · rcases hby with rfl | ⟨b, off, rfl, hb, hcs⟩
      · exact .inl (by simp)
      · refine .inr ⟨b, off + s, by simp [hf], hb, fun i hi => ?_⟩
        rw [List.getElem_drop, Nat.add_assoc]
        exact hcs (s + i) (by simp at hi; omega)
    · have : av = none := by cases av <;> simp_all
      have := hnil this
      omega
    · cases av with
      | none => cases hx
      | some y =>
        obtain ⟨g1, g2⟩ := hsp y rfl
        obtain ⟨yb, yo, ys⟩ := y
        simp only at g2
        subst g2
        simp only [Option.map_some, Option.some.injEq, hf] at hx
        subst hx
        exact ⟨g1, rfl⟩
theorem InAt.drewN {w : World} {p : Nat} {S : Nat → Prop} {r : List UInt8} {b : Bool} (h : InAt w p S r b) (n : Nat) : InAt (w.drewN n) p S r b :=
  h.upd (T := fun _ => False) ((Upd.refl _ w).drewN n) (fun _ _ x => x)
theorem IsBytes.drewN {w : World} {a : Option Addr} {xs : List UInt8} (h : IsBytes w a xs) (n : Nat) : IsBytes (w.drewN n) a xs :=
  h.upd (S := fun _ => False) ((Upd.refl _ w).drewN n) (fun _ _ _ h => h)
theorem below_drewN {B : Nat} {w w' : World} (h : Below B w w') (n : Nat) : Below B w (w'.drewN n) := h.trans ⟨rfl, rfl, rfl, Nat.le_refl _, fun _ _ => rfl⟩
/-- The statement's own state ahead of a round. -/
structure Ask (w wr : World) (p : Nat) (v : Value) (bad : Bool) : Prop where
  below : Below w.heap.size w wr
  mem : ∃ S ri rl a m c, InAt wr p S ri bad ∧ (∀ k, S k → w.heap.size ≤ k) ∧ (bad = false → rl = ri) ∧ v = .slice a m c ∧ rl.length = m ∧ m ≤ c ∧ c ≤ maxLen ∧ (a = none → c = 0) ∧ IsBytes wr a rl ∧ (∀ x, a = some x → x.block ≠ p ∧ x.spot = none) ∧ m ≤ 5000 ∧ ri.length ≤ 5000

set_option maxHeartbeats 40000000 in
theorem reads_near (a : Option Addr) (bs : List UInt8) (m c : Nat) (ai : Option Addr) (xs : List Item) (n ci : Nat) (w : World) (hm : bs.length = m) (hb : IsBytes w a bs) (hnc : a = none → c = 0)
    (hn : xs.length = n) (hx : Items w ai xs) (h1 : ¬ 5000 < m) (h2 : ¬ 60 < n) :
    Calls Try.prog 9 #[.slice a m c, .slice ai n ci] w fun e w' => e = .returned (.bool true) ∧ Below w.heap.size w w' := by
  have h1' : ¬ (5000 : Int) < m := by omega
  have h2' : ¬ (60 : Int) < n := by omega
  have HM := Lib.hid hm
  have HN := Lib.hid hn
  clear hm hn
  go_enter Try.func9, Try.ntmps9
  go_wp2_with fail
  refine (codec_awake _).mono ?_
  rintro e w1 ⟨rfl, b1⟩
  have hb1 := hb.below b1
  go_wp2_with fail
  refine (in_new a bs m c w1 HM.out hb1 hnc (by omega)).mono ?_
  rintro e w2 ⟨p, S, rfl, hI, b2, hS⟩
  have B2 : Below w.heap.size w w2 := b1.trans (b2.mono b1.size)
  have hS' : ∀ k, S k → w.heap.size ≤ k := fun k hk => Nat.le_trans b1.size (hS k hk)
  have A2 : Below w2.heap.size w2 (w2.alloc (.cells #[] 5)) := upd_box _
  have hown : (w2.alloc (.cells #[] 5)).ownsRow w2.heap.size 5 1 (.slice (some ⟨w2.heap.size, 0, none⟩) 0 0) 0 (([] : List UInt8).map bval) :=
    World.ownsRow_made w2 #[] 0 (Nat.le_refl _) (Nat.zero_le _) rfl
  have hb2 : IsBytes (w2.alloc (.cells #[] 5)) a bs := (hb.below B2).below A2
  have hap : 0 + m ≤ 140737488355328 := by omega
  have hbs : w2.heap.size ≤ (w2.alloc (.cells #[] 5)).heap.size := by simp
  clear hb hb1 b2 hS
  go_wp2_with (at_builtin; refine wpList_append_bytes rfl _ _ 31 rfl w2.heap.size 5 Try.underlying31 u8_info (.slice (some ⟨w2.heap.size, 0, none⟩) 0 0) 0 [] rfl hown a bs m HM.out c rfl hb2 hnc hap hbs ?_; intro a3 c3 w3 hr3 hg3 hn3)
  have A3 : Below w2.heap.size w2 w3 := A2.grown hg3 (by simp) (fun k hk => own_ge hown hk)
  have B3 : Below w.heap.size w w3 := B2.trans (A3.mono B2.size)
  have hI3 := hI.below A3
  have hplt := hI.lt p hI.own
  have hr4 : w3.ownsRow w2.heap.size 5 1 (.slice a3 m c3) m (bs.map bval) := by simpa using hr3
  obtain ⟨f1, -, f3, f4, f5⟩ := bytes_of_row hr4
  have hspot : ∀ x, a3 = some x → x.block ≠ p ∧ x.spot = none := fun x hx => by
    subst hx
    rcases hr4.2 with ⟨hv, _⟩ | ⟨g, cap, cur, hv, hbg, _⟩
    · cases hv
    · injection hv with e1 _ _
      injection e1 with e1
      subst e1
      exact ⟨by show g ≠ p; omega, rfl⟩
  have HBS : Hid (w3.heap.size = w3.heap.size) := rfl
  clear hown hb2 hap hbs hr3 hg3 hn3 hr4 hI
  go_loopw [6, 7, 8, 9, 10, 11, 32] (fun v bd _ _ _ _ i wr => ∃ k : Nat, k ≤ n ∧ i = .int .i64 k ∧ ∃ bad : Bool, bd = .bool bad ∧ Ask w wr p v bad) (fun _ _ _ _ _ _ i _ => n - (intOf i).toNat)
  case atStart => exact ⟨0, Nat.zero_le _, rfl, false, rfl, B3, S, bs, bs, a3, m, c3, hI3, hS', fun _ => rfl, rfl, HM.out, f3, f4, f5, f1, hspot, by omega, by rw [HM.out]; omega⟩
  case round =>
    clear hI3 f1 f3 f4 f5 hspot hplt A3 B3 A2 B2 hS' b1
    obtain ⟨k, hk, rfl, bad, rfl, hB, S, ri, rl, av, mv, cv, hI, hS, hrl, rfl, hml, hmc, hcm, hnil, hby, hsp, hm5, hri5⟩ := hrel
    by_cases hlt2 : k < n
    · rcases hx with h0 | ⟨b, off, rfl, hb, hi⟩
      · have := HN.out; rw [h0] at this; simp at this; omega
      have hlk : k < xs.length := by rw [HN.out]; exact hlt2
      obtain ⟨ad, cc, hit⟩ := hi k hlk
      generalize xs[k] = x at *
      obtain ⟨kd, V, L, F, Bs⟩ := x
      have hkd := hit.kind
      have hV := hit.v64
      have cw : ∀ {w' : World}, Below w.heap.size w w' → ∀ o, w'.cell? ⟨b, o, none⟩ = w.cell? ⟨b, o, none⟩ := fun h o => h.cell (p := ⟨b, o, none⟩) hb
      have y0 := (cw hB _).trans hit.c0
      have y1 := (cw hB _).trans hit.c1
      have HIT := Lib.hid hit
      simp only at hkd hV y0 y1
      have CW : Hid (∀ w' : World, Below w.heap.size w w' → ∀ o, w'.cell? ⟨b, o, none⟩ = w.cell? ⟨b, o, none⟩) := fun w' h o => cw h o
      clear hi hit cw
      have hk0 : (0 : Int) ≤ (k : Int) := by omega
      have hkn : (k : Int) < (n : Int) := by omega
      go_upto_block 2 with fail
      go_cut [9] (fun s9 wx => s9 = .int .i64 (asz ⟨kd, V, L, F, Bs⟩) ∧ wr = wx)
      case first =>
        by_cases k0 : kd = 0
        · subst k0
          go_wp2
          go_meet
          exact ⟨by simp [asz], rfl⟩
        by_cases k1 : kd = 1
        · subst k1
          go_wp2
          go_meet
          exact ⟨by simp [asz], rfl⟩
        by_cases k2 : kd = 2
        · subst k2
          go_wp2
          go_meet
          exact ⟨by simp [asz], rfl⟩
        by_cases k3 : kd = 3
        · subst k3
          go_wp2
          go_meet
          exact ⟨by simp [asz], rfl⟩
        by_cases k4 : kd = 4
        · subst k4
          go_wp2
          go_meet
          exact ⟨by simp [asz], rfl⟩
        by_cases k5 : kd = 5
        · subst k5
          go_wp2
          go_meet
          exact ⟨by simp [asz], rfl⟩
        have b0 : (kd == 0) = false := by simpa using k0
        have b1' : (kd == 1) = false := by simpa using k1
        have b2' : (kd == 2) = false := by simpa using k2
        have b3' : (kd == 3) = false := by simpa using k3
        have b4' : (kd == 4) = false := by simpa using k4
        have b5' : (kd == 5) = false := by simpa using k5
        have ev : Hid (asz ⟨kd, V, L, F, Bs⟩ = V) := by
          show asz ⟨kd, V, L, F, Bs⟩ = V
          simp only [asz, k0, k1, k2, k3, k4, k5, if_false]
        clear k0 k1 k2 k3 k4 k5
        go_wp2
        go_meet
        exact ⟨by rw [ev.out], rfl⟩
      case rest =>
        obtain ⟨rfl, rfl⟩ := hcut
        have HCS : Hid (∀ j v, (#[.int .u8 kd, .int .i64 V, .int .i64 L, .bool F, .slice ad Bs.length cc] : Array Value)[j]? = some v → wr.cell? ⟨b, off + k * 5 + j, none⟩ = some v) := item_cells HIT.out (fun o => CW.out _ hB o)
        have BW := hB
        clear HBS
        have HML := Lib.hid hml
        have HRI := Lib.hid hri5
        have HSZ : Hid (∃ sz, asz ⟨kd, V, L, F, Bs⟩ = sz) := ⟨_, rfl⟩
        obtain ⟨sz, hsz⟩ := HSZ.out
        rw [hsz]
        have HSZ := Lib.hid hsz
        clear hsz
        go_upto_region 23 with fail
        go_cut [71] (fun s71 wx => s71 = .bool (bad || (decide (sz < 0) || decide ((mv : Int) < sz))) ∧ wr = wx)
        case first =>
          by_cases hbad : bad = true
          · subst hbad
            go_wp2
            go_meet
            exact ⟨rfl, rfl⟩
          · obtain rfl : bad = false := by simpa using hbad
            by_cases hs0 : sz < 0
            · have e0 : decide (sz < 0) = true := by simpa using hs0
              go_wp2
              go_meet
              exact ⟨by simp [hs0], rfl⟩
            · have e0 : decide (sz < 0) = false := by simpa using hs0
              go_wp2
              go_meet
              exact ⟨by simp; omega, rfl⟩
        case rest =>
        obtain ⟨rfl, rfl⟩ := hcut
        by_cases htst : (bad || (decide (sz < 0) || decide ((mv : Int) < sz))) = true
        · have HNX : Hid (Next ⟨kd, V, L, F, Bs⟩ ri bad 0 [] [] true) := by
            refine next_bad _ _ _ ?_
            rw [HSZ.out]
            simp only [Bool.or_eq_true, decide_eq_true_eq] at htst
            rcases htst with h | h | h
            · exact .inl ⟨h, hI.ok h⟩
            · exact .inr (.inl h)
            · refine .inr (.inr ?_)
              cases hbb : bad
              · rw [← hrl hbb, HML.out]; exact h
              · rw [hI.ok hbb]; have : asz ⟨kd, V, L, F, Bs⟩ = sz := HSZ.out
                simp; omega
          rw [htst]
          clear htst hrl
          by_cases k5 : kd = 5
          · subst k5
            have hcs := HCS.out
            go_wp2_with (refine wpList_load_cells rfl 60 _ rfl b (off + k * 5) rfl #[.int .u8 5, .int .i64 V, .int .i64 L, .bool F, .slice ad Bs.length cc] _ hcs Try.underlying60 rfl info_item ?_)
            refine (read_in hI 5 V L F ad Bs cc (by omega) 0 [] [] true HNX.out none 0 0 rfl (by unfold maxLen; omega) (.inl rfl) (fun h => (h rfl).elim) (by omega) _).mono ?_
            rintro e w5 ⟨rfl, I5, u5⟩
            have B5 : Below w.heap.size w w5 := BW.trans (upd_below u5 BW.size (fun k hk => by have h9 : k = p := hk; rw [h9]; exact hS _ hI.own))
            go_wp2_with fail
            refine (in_bad I5).mono ?_
            rintro e w6 ⟨rfl, rfl⟩
            go_wp2_with fail
            refine (in_done I5).mono ?_
            rintro e w6 ⟨rfl, rfl⟩
            have e9 : (!true && decide (([] : List UInt8).length = 0)) = false := rfl
            rw [e9]
            go_wp2_with fail
            refine (in_left I5).mono ?_
            rintro e w6 ⟨rfl, rfl⟩
            have e8 : ((([] : List UInt8).length : Nat) : Int) = 0 := rfl
            rw [e8]
            go_wp2_with fail
            refine (left_in _ _ _ true _).mono ?_
            rintro e w6 ⟨rfl, rfl⟩
            have e7 : (if true then (0 : Int) else ((mv : Nat) : Int)) = 0 := rfl
            simp only [if_true]
            go_wp2
            go_roundw
            case rel => exact ⟨k + 1, by omega, by go_num, true, rfl, B5, S, [], rl, av, mv, cv, I5, hS, (fun h => by cases h), rfl, HML.out, hmc, hcm, hnil, hby.upd u5 (fun _ x hx => (hsp x hx).1), hsp, hm5, by simp⟩
            case measure => simp [intOf]; omega
          by_cases k4 : kd = 4
          · subst k4
            have hcs := HCS.out
            go_wp2_with (refine wpList_load_cells rfl 60 _ rfl b (off + k * 5) rfl #[.int .u8 4, .int .i64 V, .int .i64 L, .bool F, .slice ad Bs.length cc] _ hcs Try.underlying60 rfl info_item ?_)
            refine (read_in hI 4 V L F ad Bs cc (by omega) 0 [] [] true HNX.out none 0 0 rfl (by unfold maxLen; omega) (.inl rfl) (fun h => (h rfl).elim) (by omega) _).mono ?_
            rintro e w5 ⟨rfl, I5, u5⟩
            have B5 : Below w.heap.size w w5 := BW.trans (upd_below u5 BW.size (fun k hk => by have h9 : k = p := hk; rw [h9]; exact hS _ hI.own))
            go_wp2_with fail
            refine (in_bad I5).mono ?_
            rintro e w6 ⟨rfl, rfl⟩
            go_wp2_with fail
            refine (in_done I5).mono ?_
            rintro e w6 ⟨rfl, rfl⟩
            have e9 : (!true && decide (([] : List UInt8).length = 0)) = false := rfl
            rw [e9]
            go_wp2_with fail
            refine (in_left I5).mono ?_
            rintro e w6 ⟨rfl, rfl⟩
            have e8 : ((([] : List UInt8).length : Nat) : Int) = 0 := rfl
            rw [e8]
            go_wp2_with fail
            refine (left_in _ _ _ true _).mono ?_
            rintro e w6 ⟨rfl, rfl⟩
            have e7 : (if true then (0 : Int) else ((mv : Nat) : Int)) = 0 := rfl
            simp only [if_true]
            go_wp2
            go_roundw
            case rel => exact ⟨k + 1, by omega, by go_num, true, rfl, B5, S, [], rl, av, mv, cv, I5, hS, (fun h => by cases h), rfl, HML.out, hmc, hcm, hnil, hby.upd u5 (fun _ x hx => (hsp x hx).1), hsp, hm5, by simp⟩
            case measure => simp [intOf]; omega
          have b4' : (kd == 4) = false := by simpa using k4
          have b5' : (kd == 5) = false := by simpa using k5
          clear k4 k5
          have hcs := HCS.out
          go_wp2_with (refine wpList_load_cells rfl 60 _ rfl b (off + k * 5) rfl #[.int .u8 kd, .int .i64 V, .int .i64 L, .bool F, .slice ad Bs.length cc] _ hcs Try.underlying60 rfl info_item ?_)
          refine (read_in hI kd V L F ad Bs cc (by omega) 0 [] [] true HNX.out none 0 0 rfl (by unfold maxLen; omega) (.inl rfl) (fun h => (h rfl).elim) (by omega) _).mono ?_
          rintro e w5 ⟨rfl, I5, u5⟩
          have B5 : Below w.heap.size w w5 := BW.trans (upd_below u5 BW.size (fun k hk => by have h9 : k = p := hk; rw [h9]; exact hS _ hI.own))
          go_wp2_with fail
          refine (in_bad I5).mono ?_
          rintro e w6 ⟨rfl, rfl⟩
          go_wp2_with fail
          refine (in_done I5).mono ?_
          rintro e w6 ⟨rfl, rfl⟩
          have e9 : (!true && decide (([] : List UInt8).length = 0)) = false := rfl
          rw [e9]
          go_wp2_with fail
          refine (in_left I5).mono ?_
          rintro e w6 ⟨rfl, rfl⟩
          have e8 : ((([] : List UInt8).length : Nat) : Int) = 0 := rfl
          rw [e8]
          go_wp2_with fail
          refine (left_in _ _ _ true _).mono ?_
          rintro e w6 ⟨rfl, rfl⟩
          have e7 : (if true then (0 : Int) else ((mv : Nat) : Int)) = 0 := rfl
          simp only [if_true]
          go_wp2
          go_roundw
          case rel => exact ⟨k + 1, by omega, by go_num, true, rfl, B5, S, [], rl, av, mv, cv, I5, hS, (fun h => by cases h), rfl, HML.out, hmc, hcm, hnil, hby.upd u5 (fun _ x hx => (hsp x hx).1), hsp, hm5, by simp⟩
          case measure => simp [intOf]; omega
        · obtain ⟨rfl, hs0, hsm⟩ : bad = false ∧ 0 ≤ sz ∧ sz ≤ mv := by
            simp only [Bool.or_eq_true, decide_eq_true_eq, not_or, Bool.not_eq_true] at htst
            exact ⟨htst.1, by omega, by omega⟩
          obtain rfl := hrl rfl
          obtain ⟨s, rfl⟩ := Int.eq_ofNat_of_zero_le hs0
          have hsl : s ≤ rl.length := by have := HML.out; omega
          rw [show (false || (decide ((s : Int) < 0) || decide ((mv : Int) < (s : Int)))) = false from by simp; omega]
          clear htst hrl hml
          have hsc : (s : Int) ≤ cv := by omega
          have hsc' : s ≤ cv := by omega
          have hmcI : (mv : Int) ≤ cv := by omega
          have hdl : Hid ((rl.take s).length = s) := by
            show (rl.take s).length = s
            simp; omega
          have hrl2 : Hid ((rl.drop s).length = mv - s) := by
            show (rl.drop s).length = mv - s
            simp [HML.out]
          have htk : IsBytes wr av (rl.take s) := hby.take' s
          by_cases k0 : kd = 0
          · subst k0
            obtain rfl : s = 1 := by have := HSZ.out; simp [asz] at this; omega
            have HNX := Lib.hid (next_ok ⟨0, V, L, F, Bs⟩ (Int.le_refl 0 |> fun _ => by show (0 : Int) ≤ 0; decide) rl 1 (by simp [asz]) hsl (by show (0 : Int) ≠ 5; decide) (numLe (rl.take 1)) (fun _ => rfl) (fun h => by simp at h) (fun h => by simp at h))
            have hcs := HCS.out
            have hnu : Hid (u64r (numLe (rl.take 1)) = numLe (rl.take 1)) := u64r_small (numLe_take_lt rl (by decide))
            go_wp2_with fail
            refine (number_ref av (rl.take 1) 1 cv wr hdl.out htk (by decide)).mono ?_
            rintro e w4 ⟨rfl, rfl⟩
            rw [hnu.out]
            go_wp2_with fail
            go_quiet (fail)
            generalize hAV : (if cv = 1 then av else Option.map _ av) = AV at *
            have hI2 := hI.drewN nq
            have BW := below_drewN hB nq
            have hby2 := hby.drewN nq
            have HCS2 : Hid (∀ j v, (#[.int .u8 0, .int .i64 V, .int .i64 L, .bool F, .slice ad Bs.length cc] : Array Value)[j]? = some v → (wr.drewN nq).cell? ⟨b, off + k * 5 + j, none⟩ = some v) := HCS.out
            have y0 : (wr.drewN nq).cell? ⟨b, off + k * 5, none⟩ = some (.int .u8 0) := y0
            clear hcs
            obtain ⟨f1, f2, f3⟩ := dropA_facts (W := wr.drewN nq) (s := 1) (p := p) (fun x y => by first | rfl | exact addr_add x y _) hAV hby2 (by have := HML.out; omega) hnil hsp
            generalize wr.drewN nq = W at *
            have AB := Lib.hid f1
            have AN := Lib.hid f2
            have AS := Lib.hid f3
            clear f1 f2 f3 hAV
            have hcs := HCS2.out
            have htk2 : IsBytes W av (rl.take 1) := hby2.take' 1
            have HDN : Hid ((!false && decide ((rl.drop 1).length = 0)) = (((mv - 1 : Nat) : Int) == 0)) := by
              show (!false && decide ((rl.drop 1).length = 0)) = (((mv - 1 : Nat) : Int) == 0)
              rw [hrl2.out, Bool.eq_iff_iff]; first | (simp; done) | (simp; omega)
            have HLN : Hid ((((rl.drop 1).length : Nat) : Int) = ((mv - 1 : Nat) : Int)) := by
              show (((rl.drop 1).length : Nat) : Int) = ((mv - 1 : Nat) : Int)
              rw [hrl2.out]
            go_wp2_with (refine wpList_load_cells rfl 60 _ rfl b (off + k * 5) rfl #[.int .u8 0, .int .i64 V, .int .i64 L, .bool F, .slice ad Bs.length cc] _ hcs Try.underlying60 rfl info_item ?_)
            refine (read_in hI2 0 V L F ad Bs cc (by omega) (numLe (rl.take 1)) (rl.take 1) (rl.drop 1) false HNX.out av 1 cv hdl.out (by unfold maxLen; omega) htk2 (fun _ x hx => (hsp x hx).1) (by omega) _).mono ?_
            rintro e w5 ⟨rfl, I5, u5⟩
            have B5 : Below w.heap.size w w5 := BW.trans (upd_below u5 BW.size (fun k hk => by have h9 : k = p := hk; rw [h9]; exact hS _ hI2.own))
            go_wp2_with fail
            refine (in_bad I5).mono ?_
            rintro e w6 ⟨rfl, rfl⟩
            go_wp2_with fail
            refine (in_done I5).mono ?_
            rintro e w6 ⟨rfl, rfl⟩
            rw [show (!false && decide (((rl.drop 1)).length = 0)) = ((((mv - 1) : Nat) : Int) == 0) from HDN.out]
            go_wp2_with fail
            refine (in_left I5).mono ?_
            rintro e w6 ⟨rfl, rfl⟩
            rw [HLN.out]
            go_wp2_with fail
            refine (left_in _ _ _ false _).mono ?_
            rintro e w6 ⟨rfl, rfl⟩
            simp only [Bool.false_eq_true, if_false]
            go_wp2
            go_roundw
            case rel => exact ⟨k + 1, by omega, by go_num, false, rfl, B5, S, (rl.drop 1), (rl.drop 1), AV, (mv - 1), (cv - 1), I5, hS, (fun _ => rfl), rfl, hrl2.out, by omega, by omega, AN.out, AB.out.upd u5 (fun _ x hx => (AS.out x hx).1), AS.out, by omega, by have := HRI.out; simp; omega⟩
            case measure => simp [intOf]; omega
          by_cases k1 : kd = 1
          · subst k1
            obtain rfl : s = 2 := by have := HSZ.out; simp [asz] at this; omega
            have HNX := Lib.hid (next_ok ⟨1, V, L, F, Bs⟩ (Int.le_refl 0 |> fun _ => by show (0 : Int) ≤ 1; decide) rl 2 (by simp [asz]) hsl (by show (1 : Int) ≠ 5; decide) (numLe (rl.take 2)) (fun _ => rfl) (fun h => by simp at h) (fun h => by simp at h))
            have hcs := HCS.out
            have hnu : Hid (u64r (numLe (rl.take 2)) = numLe (rl.take 2)) := u64r_small (numLe_take_lt rl (by decide))
            go_wp2_with fail
            refine (number_ref av (rl.take 2) 2 cv wr hdl.out htk (by decide)).mono ?_
            rintro e w4 ⟨rfl, rfl⟩
            rw [hnu.out]
            go_wp2_with fail
            go_quiet (fail)
            generalize hAV : (if cv = 2 then av else Option.map _ av) = AV at *
            have hI2 := hI.drewN nq
            have BW := below_drewN hB nq
            have hby2 := hby.drewN nq
            have HCS2 : Hid (∀ j v, (#[.int .u8 1, .int .i64 V, .int .i64 L, .bool F, .slice ad Bs.length cc] : Array Value)[j]? = some v → (wr.drewN nq).cell? ⟨b, off + k * 5 + j, none⟩ = some v) := HCS.out
            have y0 : (wr.drewN nq).cell? ⟨b, off + k * 5, none⟩ = some (.int .u8 1) := y0
            clear hcs
            obtain ⟨f1, f2, f3⟩ := dropA_facts (W := wr.drewN nq) (s := 2) (p := p) (fun x y => by first | rfl | exact addr_add x y _) hAV hby2 (by have := HML.out; omega) hnil hsp
            generalize wr.drewN nq = W at *
            have AB := Lib.hid f1
            have AN := Lib.hid f2
            have AS := Lib.hid f3
            clear f1 f2 f3 hAV
            have hcs := HCS2.out
            have htk2 : IsBytes W av (rl.take 2) := hby2.take' 2
            have HDN : Hid ((!false && decide ((rl.drop 2).length = 0)) = (((mv - 2 : Nat) : Int) == 0)) := by
              show (!false && decide ((rl.drop 2).length = 0)) = (((mv - 2 : Nat) : Int) == 0)
              rw [hrl2.out, Bool.eq_iff_iff]; first | (simp; done) | (simp; omega)
            have HLN : Hid ((((rl.drop 2).length : Nat) : Int) = ((mv - 2 : Nat) : Int)) := by
              show (((rl.drop 2).length : Nat) : Int) = ((mv - 2 : Nat) : Int)
              rw [hrl2.out]
            go_wp2_with (refine wpList_load_cells rfl 60 _ rfl b (off + k * 5) rfl #[.int .u8 1, .int .i64 V, .int .i64 L, .bool F, .slice ad Bs.length cc] _ hcs Try.underlying60 rfl info_item ?_)
            refine (read_in hI2 1 V L F ad Bs cc (by omega) (numLe (rl.take 2)) (rl.take 2) (rl.drop 2) false HNX.out av 2 cv hdl.out (by unfold maxLen; omega) htk2 (fun _ x hx => (hsp x hx).1) (by omega) _).mono ?_
            rintro e w5 ⟨rfl, I5, u5⟩
            have B5 : Below w.heap.size w w5 := BW.trans (upd_below u5 BW.size (fun k hk => by have h9 : k = p := hk; rw [h9]; exact hS _ hI2.own))
            go_wp2_with fail
            refine (in_bad I5).mono ?_
            rintro e w6 ⟨rfl, rfl⟩
            go_wp2_with fail
            refine (in_done I5).mono ?_
            rintro e w6 ⟨rfl, rfl⟩
            rw [show (!false && decide (((rl.drop 2)).length = 0)) = ((((mv - 2) : Nat) : Int) == 0) from HDN.out]
            go_wp2_with fail
            refine (in_left I5).mono ?_
            rintro e w6 ⟨rfl, rfl⟩
            rw [HLN.out]
            go_wp2_with fail
            refine (left_in _ _ _ false _).mono ?_
            rintro e w6 ⟨rfl, rfl⟩
            simp only [Bool.false_eq_true, if_false]
            go_wp2
            go_roundw
            case rel => exact ⟨k + 1, by omega, by go_num, false, rfl, B5, S, (rl.drop 2), (rl.drop 2), AV, (mv - 2), (cv - 2), I5, hS, (fun _ => rfl), rfl, hrl2.out, by omega, by omega, AN.out, AB.out.upd u5 (fun _ x hx => (AS.out x hx).1), AS.out, by omega, by have := HRI.out; simp; omega⟩
            case measure => simp [intOf]; omega
          by_cases k2 : kd = 2
          · subst k2
            obtain rfl : s = 4 := by have := HSZ.out; simp [asz] at this; omega
            have HNX := Lib.hid (next_ok ⟨2, V, L, F, Bs⟩ (Int.le_refl 0 |> fun _ => by show (0 : Int) ≤ 2; decide) rl 4 (by simp [asz]) hsl (by show (2 : Int) ≠ 5; decide) (numLe (rl.take 4)) (fun _ => rfl) (fun h => by simp at h) (fun h => by simp at h))
            have hcs := HCS.out
            have hnu : Hid (u64r (numLe (rl.take 4)) = numLe (rl.take 4)) := u64r_small (numLe_take_lt rl (by decide))
            go_wp2_with fail
            refine (number_ref av (rl.take 4) 4 cv wr hdl.out htk (by decide)).mono ?_
            rintro e w4 ⟨rfl, rfl⟩
            rw [hnu.out]
            go_wp2_with fail
            go_quiet (fail)
            generalize hAV : (if cv = 4 then av else Option.map _ av) = AV at *
            have hI2 := hI.drewN nq
            have BW := below_drewN hB nq
            have hby2 := hby.drewN nq
            have HCS2 : Hid (∀ j v, (#[.int .u8 2, .int .i64 V, .int .i64 L, .bool F, .slice ad Bs.length cc] : Array Value)[j]? = some v → (wr.drewN nq).cell? ⟨b, off + k * 5 + j, none⟩ = some v) := HCS.out
            have y0 : (wr.drewN nq).cell? ⟨b, off + k * 5, none⟩ = some (.int .u8 2) := y0
            clear hcs
            obtain ⟨f1, f2, f3⟩ := dropA_facts (W := wr.drewN nq) (s := 4) (p := p) (fun x y => by first | rfl | exact addr_add x y _) hAV hby2 (by have := HML.out; omega) hnil hsp
            generalize wr.drewN nq = W at *
            have AB := Lib.hid f1
            have AN := Lib.hid f2
            have AS := Lib.hid f3
            clear f1 f2 f3 hAV
            have hcs := HCS2.out
            have htk2 : IsBytes W av (rl.take 4) := hby2.take' 4
            have HDN : Hid ((!false && decide ((rl.drop 4).length = 0)) = (((mv - 4 : Nat) : Int) == 0)) := by
              show (!false && decide ((rl.drop 4).length = 0)) = (((mv - 4 : Nat) : Int) == 0)
              rw [hrl2.out, Bool.eq_iff_iff]; first | (simp; done) | (simp; omega)
            have HLN : Hid ((((rl.drop 4).length : Nat) : Int) = ((mv - 4 : Nat) : Int)) := by
              show (((rl.drop 4).length : Nat) : Int) = ((mv - 4 : Nat) : Int)
              rw [hrl2.out]
            go_wp2_with (refine wpList_load_cells rfl 60 _ rfl b (off + k * 5) rfl #[.int .u8 2, .int .i64 V, .int .i64 L, .bool F, .slice ad Bs.length cc] _ hcs Try.underlying60 rfl info_item ?_)
            refine (read_in hI2 2 V L F ad Bs cc (by omega) (numLe (rl.take 4)) (rl.take 4) (rl.drop 4) false HNX.out av 4 cv hdl.out (by unfold maxLen; omega) htk2 (fun _ x hx => (hsp x hx).1) (by omega) _).mono ?_
            rintro e w5 ⟨rfl, I5, u5⟩
            have B5 : Below w.heap.size w w5 := BW.trans (upd_below u5 BW.size (fun k hk => by have h9 : k = p := hk; rw [h9]; exact hS _ hI2.own))
            go_wp2_with fail
            refine (in_bad I5).mono ?_
            rintro e w6 ⟨rfl, rfl⟩
            go_wp2_with fail
            refine (in_done I5).mono ?_
            rintro e w6 ⟨rfl, rfl⟩
            rw [show (!false && decide (((rl.drop 4)).length = 0)) = ((((mv - 4) : Nat) : Int) == 0) from HDN.out]
            go_wp2_with fail
            refine (in_left I5).mono ?_
            rintro e w6 ⟨rfl, rfl⟩
            rw [HLN.out]
            go_wp2_with fail
            refine (left_in _ _ _ false _).mono ?_
            rintro e w6 ⟨rfl, rfl⟩
            simp only [Bool.false_eq_true, if_false]
            go_wp2
            go_roundw
            case rel => exact ⟨k + 1, by omega, by go_num, false, rfl, B5, S, (rl.drop 4), (rl.drop 4), AV, (mv - 4), (cv - 4), I5, hS, (fun _ => rfl), rfl, hrl2.out, by omega, by omega, AN.out, AB.out.upd u5 (fun _ x hx => (AS.out x hx).1), AS.out, by omega, by have := HRI.out; simp; omega⟩
            case measure => simp [intOf]; omega
          by_cases k3 : kd = 3
          · subst k3
            obtain rfl : s = 8 := by have := HSZ.out; simp [asz] at this; omega
            have HNX := Lib.hid (next_ok ⟨3, V, L, F, Bs⟩ (Int.le_refl 0 |> fun _ => by show (0 : Int) ≤ 3; decide) rl 8 (by simp [asz]) hsl (by show (3 : Int) ≠ 5; decide) (numLe (rl.take 8)) (fun _ => rfl) (fun h => by simp at h) (fun h => by simp at h))
            have hcs := HCS.out
            have hnu : Hid (u64r (numLe (rl.take 8)) = numLe (rl.take 8)) := u64r_small (numLe_take_lt rl (by decide))
            go_wp2_with fail
            refine (number_ref av (rl.take 8) 8 cv wr hdl.out htk (by decide)).mono ?_
            rintro e w4 ⟨rfl, rfl⟩
            rw [hnu.out]
            go_wp2_with fail
            go_quiet (fail)
            generalize hAV : (if cv = 8 then av else Option.map _ av) = AV at *
            have hI2 := hI.drewN nq
            have BW := below_drewN hB nq
            have hby2 := hby.drewN nq
            have HCS2 : Hid (∀ j v, (#[.int .u8 3, .int .i64 V, .int .i64 L, .bool F, .slice ad Bs.length cc] : Array Value)[j]? = some v → (wr.drewN nq).cell? ⟨b, off + k * 5 + j, none⟩ = some v) := HCS.out
            have y0 : (wr.drewN nq).cell? ⟨b, off + k * 5, none⟩ = some (.int .u8 3) := y0
            clear hcs
            obtain ⟨f1, f2, f3⟩ := dropA_facts (W := wr.drewN nq) (s := 8) (p := p) (fun x y => by first | rfl | exact addr_add x y _) hAV hby2 (by have := HML.out; omega) hnil hsp
            generalize wr.drewN nq = W at *
            have AB := Lib.hid f1
            have AN := Lib.hid f2
            have AS := Lib.hid f3
            clear f1 f2 f3 hAV
            have hcs := HCS2.out
            have htk2 : IsBytes W av (rl.take 8) := hby2.take' 8
            have HDN : Hid ((!false && decide ((rl.drop 8).length = 0)) = (((mv - 8 : Nat) : Int) == 0)) := by
              show (!false && decide ((rl.drop 8).length = 0)) = (((mv - 8 : Nat) : Int) == 0)
              rw [hrl2.out, Bool.eq_iff_iff]; first | (simp; done) | (simp; omega)
            have HLN : Hid ((((rl.drop 8).length : Nat) : Int) = ((mv - 8 : Nat) : Int)) := by
              show (((rl.drop 8).length : Nat) : Int) = ((mv - 8 : Nat) : Int)
              rw [hrl2.out]
            go_wp2_with (refine wpList_load_cells rfl 60 _ rfl b (off + k * 5) rfl #[.int .u8 3, .int .i64 V, .int .i64 L, .bool F, .slice ad Bs.length cc] _ hcs Try.underlying60 rfl info_item ?_)
            refine (read_in hI2 3 V L F ad Bs cc (by omega) (numLe (rl.take 8)) (rl.take 8) (rl.drop 8) false HNX.out av 8 cv hdl.out (by unfold maxLen; omega) htk2 (fun _ x hx => (hsp x hx).1) (by omega) _).mono ?_
            rintro e w5 ⟨rfl, I5, u5⟩
            have B5 : Below w.heap.size w w5 := BW.trans (upd_below u5 BW.size (fun k hk => by have h9 : k = p := hk; rw [h9]; exact hS _ hI2.own))
            go_wp2_with fail
            refine (in_bad I5).mono ?_
            rintro e w6 ⟨rfl, rfl⟩
            go_wp2_with fail
            refine (in_done I5).mono ?_
            rintro e w6 ⟨rfl, rfl⟩
            rw [show (!false && decide (((rl.drop 8)).length = 0)) = ((((mv - 8) : Nat) : Int) == 0) from HDN.out]
            go_wp2_with fail
            refine (in_left I5).mono ?_
            rintro e w6 ⟨rfl, rfl⟩
            rw [HLN.out]
            go_wp2_with fail
            refine (left_in _ _ _ false _).mono ?_
            rintro e w6 ⟨rfl, rfl⟩
            simp only [Bool.false_eq_true, if_false]
            go_wp2
            go_roundw
            case rel => exact ⟨k + 1, by omega, by go_num, false, rfl, B5, S, (rl.drop 8), (rl.drop 8), AV, (mv - 8), (cv - 8), I5, hS, (fun _ => rfl), rfl, hrl2.out, by omega, by omega, AN.out, AB.out.upd u5 (fun _ x hx => (AS.out x hx).1), AS.out, by omega, by have := HRI.out; simp; omega⟩
            case measure => simp [intOf]; omega
          by_cases k4 : kd = 4
          · subst k4
            obtain rfl : s = 1 := by have := HSZ.out; simp [asz] at this; omega
            by_cases hn1 : numLe (rl.take 1) ≤ 1
            · have HNX := Lib.hid (next_ok ⟨4, V, L, F, Bs⟩ (by show (0 : Int) ≤ 4; decide) rl 1 (by simp [asz]) hsl (by show (4 : Int) ≠ 5; decide) (numLe (rl.take 1)) (fun _ => rfl) (fun h => by simp at h) (fun _ => hn1))
              have hn1' : ¬ (1 : Int) < (numLe (rl.take 1) : Nat) := by omega
              have hcs := HCS.out
              have hnu : Hid (u64r (numLe (rl.take 1)) = numLe (rl.take 1)) := u64r_small (numLe_take_lt rl (by decide))
              go_wp2_with fail
              refine (number_ref av (rl.take 1) 1 cv wr hdl.out htk (by decide)).mono ?_
              rintro e w4 ⟨rfl, rfl⟩
              rw [hnu.out]
              go_wp2_with fail
              go_quiet (fail)
              generalize hAV : (if cv = 1 then av else Option.map _ av) = AV at *
              have hI2 := hI.drewN nq
              have BW := below_drewN hB nq
              have hby2 := hby.drewN nq
              have HCS2 : Hid (∀ j v, (#[.int .u8 4, .int .i64 V, .int .i64 L, .bool F, .slice ad Bs.length cc] : Array Value)[j]? = some v → (wr.drewN nq).cell? ⟨b, off + k * 5 + j, none⟩ = some v) := HCS.out
              have y0 : (wr.drewN nq).cell? ⟨b, off + k * 5, none⟩ = some (.int .u8 4) := y0
              clear hcs
              obtain ⟨f1, f2, f3⟩ := dropA_facts (W := wr.drewN nq) (s := 1) (p := p) (fun x y => by first | rfl | exact addr_add x y _) hAV hby2 (by have := HML.out; omega) hnil hsp
              generalize wr.drewN nq = W at *
              have AB := Lib.hid f1
              have AN := Lib.hid f2
              have AS := Lib.hid f3
              clear f1 f2 f3 hAV
              have hcs := HCS2.out
              have htk2 : IsBytes W av (rl.take 1) := hby2.take' 1
              have HDN : Hid ((!false && decide ((rl.drop 1).length = 0)) = (((mv - 1 : Nat) : Int) == 0)) := by
                show (!false && decide ((rl.drop 1).length = 0)) = (((mv - 1 : Nat) : Int) == 0)
                rw [hrl2.out, Bool.eq_iff_iff]; first | (simp; done) | (simp; omega)
              have HLN : Hid ((((rl.drop 1).length : Nat) : Int) = ((mv - 1 : Nat) : Int)) := by
                show (((rl.drop 1).length : Nat) : Int) = ((mv - 1 : Nat) : Int)
                rw [hrl2.out]
              go_wp2_with (refine wpList_load_cells rfl 60 _ rfl b (off + k * 5) rfl #[.int .u8 4, .int .i64 V, .int .i64 L, .bool F, .slice ad Bs.length cc] _ hcs Try.underlying60 rfl info_item ?_)
              refine (read_in hI2 4 V L F ad Bs cc (by omega) (numLe (rl.take 1)) (rl.take 1) (rl.drop 1) false HNX.out av 1 cv hdl.out (by unfold maxLen; omega) htk2 (fun _ x hx => (hsp x hx).1) (by omega) _).mono ?_
              rintro e w5 ⟨rfl, I5, u5⟩
              have B5 : Below w.heap.size w w5 := BW.trans (upd_below u5 BW.size (fun k hk => by have h9 : k = p := hk; rw [h9]; exact hS _ hI2.own))
              go_wp2_with fail
              refine (in_bad I5).mono ?_
              rintro e w6 ⟨rfl, rfl⟩
              go_wp2_with fail
              refine (in_done I5).mono ?_
              rintro e w6 ⟨rfl, rfl⟩
              rw [show (!false && decide (((rl.drop 1)).length = 0)) = ((((mv - 1) : Nat) : Int) == 0) from HDN.out]
              go_wp2_with fail
              refine (in_left I5).mono ?_
              rintro e w6 ⟨rfl, rfl⟩
              rw [HLN.out]
              go_wp2_with fail
              refine (left_in _ _ _ false _).mono ?_
              rintro e w6 ⟨rfl, rfl⟩
              simp only [Bool.false_eq_true, if_false]
              go_wp2
              go_roundw
              case rel => exact ⟨k + 1, by omega, by go_num, false, rfl, B5, S, (rl.drop 1), (rl.drop 1), AV, (mv - 1), (cv - 1), I5, hS, (fun _ => rfl), rfl, hrl2.out, by omega, by omega, AN.out, AB.out.upd u5 (fun _ x hx => (AS.out x hx).1), AS.out, by omega, by have := HRI.out; simp; omega⟩
              case measure => simp [intOf]; omega
            · have HNX := Lib.hid (next_flag ⟨4, V, L, F, Bs⟩ rl (numLe (rl.take 1)) (rl.take 1) rfl hsl rfl (by omega))
              have hn1' : (1 : Int) < (numLe (rl.take 1) : Nat) := by omega
              have hcs := HCS.out
              have hnu : Hid (u64r (numLe (rl.take 1)) = numLe (rl.take 1)) := u64r_small (numLe_take_lt rl (by decide))
              go_wp2_with fail
              refine (number_ref av (rl.take 1) 1 cv wr hdl.out htk (by decide)).mono ?_
              rintro e w4 ⟨rfl, rfl⟩
              rw [hnu.out]
              go_wp2_with fail
              go_quiet (fail)
              generalize hAV : (if cv = 1 then av else Option.map _ av) = AV at *
              have hI2 := hI.drewN nq
              have BW := below_drewN hB nq
              have hby2 := hby.drewN nq
              have HCS2 : Hid (∀ j v, (#[.int .u8 4, .int .i64 V, .int .i64 L, .bool F, .slice ad Bs.length cc] : Array Value)[j]? = some v → (wr.drewN nq).cell? ⟨b, off + k * 5 + j, none⟩ = some v) := HCS.out
              have y0 : (wr.drewN nq).cell? ⟨b, off + k * 5, none⟩ = some (.int .u8 4) := y0
              clear hcs
              obtain ⟨f1, f2, f3⟩ := dropA_facts (W := wr.drewN nq) (s := 1) (p := p) (fun x y => by first | rfl | exact addr_add x y _) hAV hby2 (by have := HML.out; omega) hnil hsp
              generalize wr.drewN nq = W at *
              have AB := Lib.hid f1
              have AN := Lib.hid f2
              have AS := Lib.hid f3
              clear f1 f2 f3 hAV
              have hcs := HCS2.out
              have htk2 : IsBytes W av (rl.take 1) := hby2.take' 1
              go_wp2_with (refine wpList_load_cells rfl 60 _ rfl b (off + k * 5) rfl #[.int .u8 4, .int .i64 V, .int .i64 L, .bool F, .slice ad Bs.length cc] _ hcs Try.underlying60 rfl info_item ?_)
              refine (read_in hI2 4 V L F ad Bs cc (by omega) (numLe (rl.take 1)) (rl.take 1) [] true HNX.out av 1 cv hdl.out (by unfold maxLen; omega) htk2 (fun _ x hx => (hsp x hx).1) (by omega) _).mono ?_
              rintro e w5 ⟨rfl, I5, u5⟩
              have B5 : Below w.heap.size w w5 := BW.trans (upd_below u5 BW.size (fun k hk => by have h9 : k = p := hk; rw [h9]; exact hS _ hI2.own))
              go_wp2_with fail
              refine (in_bad I5).mono ?_
              rintro e w6 ⟨rfl, rfl⟩
              go_wp2_with fail
              refine (in_done I5).mono ?_
              rintro e w6 ⟨rfl, rfl⟩
              have e9 : (!true && decide (([] : List UInt8).length = 0)) = false := rfl
              rw [e9]
              go_wp2_with fail
              refine (in_left I5).mono ?_
              rintro e w6 ⟨rfl, rfl⟩
              have e8 : ((([] : List UInt8).length : Nat) : Int) = 0 := rfl
              rw [e8]
              go_wp2_with fail
              refine (left_in _ _ _ true _).mono ?_
              rintro e w6 ⟨rfl, rfl⟩
              have e7 : (if true then (0 : Int) else (((mv - 1) : Nat) : Int)) = 0 := rfl
              simp only [if_true]
              go_wp2
              go_roundw
              case rel => exact ⟨k + 1, by omega, by go_num, true, rfl, B5, S, [], (rl.drop 1), AV, (mv - 1), (cv - 1), I5, hS, (fun h => by cases h), rfl, hrl2.out, by omega, by omega, AN.out, AB.out.upd u5 (fun _ x hx => (AS.out x hx).1), AS.out, by omega, by simp⟩
              case measure => simp [intOf]; omega
          by_cases k5 : kd = 5
          · subst k5
            obtain rfl : s = 2 := by have := HSZ.out; simp [asz] at this; omega
            have hN6 := take2_lt rl
            by_cases hsh : mv - 2 < numLe (rl.take 2)
            · have HNX := Lib.hid (next_short ⟨5, V, L, F, Bs⟩ rl (numLe (rl.take 2)) rfl hsl rfl (by rw [hrl2.out]; exact hsh))
              have hsh' : ((mv - 2 : Nat) : Int) < (numLe (rl.take 2) : Nat) := by omega
              have hcs := HCS.out
              have hnu : Hid (u64r (numLe (rl.take 2)) = numLe (rl.take 2)) := u64r_small (numLe_take_lt rl (by decide))
              go_wp2_with fail
              refine (number_ref av (rl.take 2) 2 cv wr hdl.out htk (by decide)).mono ?_
              rintro e w4 ⟨rfl, rfl⟩
              rw [hnu.out]
              go_wp2_with fail
              go_quiet (fail)
              generalize hAV : (if cv = 2 then av else Option.map _ av) = AV at *
              have hI2 := hI.drewN nq
              have BW := below_drewN hB nq
              have hby2 := hby.drewN nq
              have HCS2 : Hid (∀ j v, (#[.int .u8 5, .int .i64 V, .int .i64 L, .bool F, .slice ad Bs.length cc] : Array Value)[j]? = some v → (wr.drewN nq).cell? ⟨b, off + k * 5 + j, none⟩ = some v) := HCS.out
              have y0 : (wr.drewN nq).cell? ⟨b, off + k * 5, none⟩ = some (.int .u8 5) := y0
              clear hcs
              obtain ⟨f1, f2, f3⟩ := dropA_facts (W := wr.drewN nq) (s := 2) (p := p) (fun x y => by first | rfl | exact addr_add x y _) hAV hby2 (by have := HML.out; omega) hnil hsp
              generalize wr.drewN nq = W at *
              have AB := Lib.hid f1
              have AN := Lib.hid f2
              have AS := Lib.hid f3
              clear f1 f2 f3 hAV
              have hcs := HCS2.out
              have htk2 : IsBytes W av (rl.take 2) := hby2.take' 2
              go_wp2_with (refine wpList_load_cells rfl 60 _ rfl b (off + k * 5) rfl #[.int .u8 5, .int .i64 V, .int .i64 L, .bool F, .slice ad Bs.length cc] _ hcs Try.underlying60 rfl info_item ?_)
              refine (read_in hI2 5 V L F ad Bs cc (by omega) (numLe (rl.take 2)) [] [] true HNX.out none 0 0 rfl (by unfold maxLen; omega) (.inl rfl) (fun h => (h rfl).elim) (by omega) _).mono ?_
              rintro e w5 ⟨rfl, I5, u5⟩
              have B5 : Below w.heap.size w w5 := BW.trans (upd_below u5 BW.size (fun k hk => by have h9 : k = p := hk; rw [h9]; exact hS _ hI2.own))
              go_wp2_with fail
              refine (in_bad I5).mono ?_
              rintro e w6 ⟨rfl, rfl⟩
              go_wp2_with fail
              refine (in_done I5).mono ?_
              rintro e w6 ⟨rfl, rfl⟩
              have e9 : (!true && decide (([] : List UInt8).length = 0)) = false := rfl
              rw [e9]
              go_wp2_with fail
              refine (in_left I5).mono ?_
              rintro e w6 ⟨rfl, rfl⟩
              have e8 : ((([] : List UInt8).length : Nat) : Int) = 0 := rfl
              rw [e8]
              go_wp2_with fail
              refine (left_in _ _ _ true _).mono ?_
              rintro e w6 ⟨rfl, rfl⟩
              have e7 : (if true then (0 : Int) else (((mv - 2) : Nat) : Int)) = 0 := rfl
              simp only [if_true]
              go_wp2
              go_roundw
              case rel => exact ⟨k + 1, by omega, by go_num, true, rfl, B5, S, [], (rl.drop 2), AV, (mv - 2), (cv - 2), I5, hS, (fun h => by cases h), rfl, hrl2.out, by omega, by omega, AN.out, AB.out.upd u5 (fun _ x hx => (AS.out x hx).1), AS.out, by omega, by simp⟩
              case measure => simp [intOf]; omega
            · have HNX := Lib.hid (next_bytes ⟨5, V, L, F, Bs⟩ rl (numLe (rl.take 2)) rfl hsl rfl (by rw [hrl2.out]; omega))
              have hsh' : ¬ ((mv - 2 : Nat) : Int) < (numLe (rl.take 2) : Nat) := by omega
              have hsh2 : ((numLe (rl.take 2) : Nat) : Int) ≤ ((mv - 2 : Nat) : Int) := by omega
              have hsh3 : ((numLe (rl.take 2) : Nat) : Int) ≤ ((cv - 2 : Nat) : Int) := by omega
              have hsh4 : ((mv - 2 : Nat) : Int) ≤ ((cv - 2 : Nat) : Int) := by omega
              have hcs := HCS.out
              have hnu : Hid (u64r (numLe (rl.take 2)) = numLe (rl.take 2)) := u64r_small (numLe_take_lt rl (by decide))
              go_wp2_with fail
              refine (number_ref av (rl.take 2) 2 cv wr hdl.out htk (by decide)).mono ?_
              rintro e w4 ⟨rfl, rfl⟩
              rw [hnu.out]
              go_wp2_with fail
              go_quiet (fail)
              generalize hAV : (if cv = 2 then av else Option.map _ av) = AV at *
              have hI2 := hI.drewN nq
              have BW := below_drewN hB nq
              have hby2 := hby.drewN nq
              have HCS2 : Hid (∀ j v, (#[.int .u8 5, .int .i64 V, .int .i64 L, .bool F, .slice ad Bs.length cc] : Array Value)[j]? = some v → (wr.drewN nq).cell? ⟨b, off + k * 5 + j, none⟩ = some v) := HCS.out
              have y0 : (wr.drewN nq).cell? ⟨b, off + k * 5, none⟩ = some (.int .u8 5) := y0
              clear hcs
              obtain ⟨f1, f2, f3⟩ := dropA_facts (W := wr.drewN nq) (s := 2) (p := p) (fun x y => by first | rfl | exact addr_add x y _) hAV hby2 (by have := HML.out; omega) hnil hsp
              generalize wr.drewN nq = W at *
              have AB := Lib.hid f1
              have AN := Lib.hid f2
              have AS := Lib.hid f3
              clear f1 f2 f3 hAV
              have hcs := HCS2.out
              have htk2 : IsBytes W av (rl.take 2) := hby2.take' 2
              generalize hNN : numLe (rl.take 2) = N at *
              clear hNN
              go_wp2_with fail
              go_quiet (fail)
              generalize hAW : (if cv - 2 = N then AV else Option.map _ AV) = AW at *
              have hI3 := hI2.drewN nq
              have BV := below_drewN BW nq
              have hbd := AB.out.drewN nq
              have HCS3 : Hid (∀ j v, (#[.int .u8 5, .int .i64 V, .int .i64 L, .bool F, .slice ad Bs.length cc] : Array Value)[j]? = some v → (W.drewN nq).cell? ⟨b, off + k * 5 + j, none⟩ = some v) := HCS2.out
              have y0 : (W.drewN nq).cell? ⟨b, off + k * 5, none⟩ = some (.int .u8 5) := y0
              clear hcs BW
              obtain ⟨f1, f2, f3⟩ := dropA_facts (W := W.drewN nq) (s := N) (p := p) (fun x y => by first | rfl | exact addr_add x y _) hAW hbd (by have := hrl2.out; omega) AN.out AS.out
              generalize W.drewN nq = W2 at *
              have BN := Lib.hid f2
              have BB := Lib.hid f1
              have BS := Lib.hid f3
              clear f1 f2 f3 hAW
              have BW := BV
              have hcs := HCS3.out
              have htk3 : IsBytes W2 AV ((rl.drop 2).take N) := hbd.take' N
              have hdl3 : Hid (((rl.drop 2).take N).length = N) := by
                show ((rl.drop 2).take N).length = N
                rw [List.length_take, hrl2.out]; omega
              have hrl3 : Hid (((rl.drop 2).drop N).length = mv - 2 - N) := by
                show ((rl.drop 2).drop N).length = mv - 2 - N
                rw [List.length_drop, hrl2.out]
              have HDN : Hid ((!false && decide (((rl.drop 2).drop N).length = 0)) = (((mv - 2 - N : Nat) : Int) == 0)) := by
                show (!false && decide (((rl.drop 2).drop N).length = 0)) = (((mv - 2 - N : Nat) : Int) == 0)
                rw [hrl3.out, Bool.eq_iff_iff]; first | (simp; done) | (simp; omega)
              have HLN : Hid (((((rl.drop 2).drop N).length : Nat) : Int) = ((mv - 2 - N : Nat) : Int)) := by
                show ((((rl.drop 2).drop N).length : Nat) : Int) = ((mv - 2 - N : Nat) : Int)
                rw [hrl3.out]
              go_wp2_with (refine wpList_load_cells rfl 60 _ rfl b (off + k * 5) rfl #[.int .u8 5, .int .i64 V, .int .i64 L, .bool F, .slice ad Bs.length cc] _ hcs Try.underlying60 rfl info_item ?_)
              refine (read_in hI3 5 V L F ad Bs cc (by omega) N ((rl.drop 2).take N) ((rl.drop 2).drop N) false HNX.out AV N (cv - 2) hdl3.out (by unfold maxLen; omega) htk3 (fun _ x hx => (AS.out x hx).1) (by omega) _).mono ?_
              rintro e w5 ⟨rfl, I5, u5⟩
              have B5 : Below w.heap.size w w5 := BW.trans (upd_below u5 BW.size (fun k hk => by have h9 : k = p := hk; rw [h9]; exact hS _ hI3.own))
              go_wp2_with fail
              refine (in_bad I5).mono ?_
              rintro e w6 ⟨rfl, rfl⟩
              go_wp2_with fail
              refine (in_done I5).mono ?_
              rintro e w6 ⟨rfl, rfl⟩
              rw [show (!false && decide ((((rl.drop 2).drop N)).length = 0)) = ((((mv - 2 - N) : Nat) : Int) == 0) from HDN.out]
              go_wp2_with fail
              refine (in_left I5).mono ?_
              rintro e w6 ⟨rfl, rfl⟩
              rw [HLN.out]
              go_wp2_with fail
              refine (left_in _ _ _ false _).mono ?_
              rintro e w6 ⟨rfl, rfl⟩
              simp only [Bool.false_eq_true, if_false]
              go_wp2
              go_roundw
              case rel => exact ⟨k + 1, by omega, by go_num, false, rfl, B5, S, ((rl.drop 2).drop N), ((rl.drop 2).drop N), AW, (mv - 2 - N), (cv - 2 - N), I5, hS, (fun _ => rfl), rfl, hrl3.out, by omega, by omega, BN.out, BB.out.upd u5 (fun _ x hx => (BS.out x hx).1), BS.out, by omega, by rw [hrl3.out]; omega⟩
              case measure => simp [intOf]; omega
          have h6 : 5 < kd := by omega
          have hlt6 : ¬ kd < 6 := by omega
          have b4' : (kd == 4) = false := by simpa using k4
          have b5' : (kd == 5) = false := by simpa using k5
          have ev : asz ⟨kd, V, L, F, Bs⟩ = V := by simp only [asz, k0, k1, k2, k3, k4, k5, if_false]
          obtain rfl : V = s := by rw [← ev]; exact HSZ.out
          have HNX := Lib.hid (next_ok ⟨kd, s, L, F, Bs⟩ (by show 0 ≤ kd; omega) rl s ev hsl (by show kd ≠ 5; omega) 0 (fun h => by have h9 : kd < 6 := h; omega) (fun _ => rfl) (fun h => by have h9 : kd = 4 := h; omega))
          clear k0 k1 k2 k3 k4 k5 ev
          have hcs := HCS.out
          go_wp2_with fail
          go_quiet (fail)
          generalize hAV : (if cv = s then av else Option.map _ av) = AV at *
          have hI2 := hI.drewN nq
          have BW := below_drewN hB nq
          have hby2 := hby.drewN nq
          have HCS2 : Hid (∀ j v, (#[.int .u8 kd, .int .i64 s, .int .i64 L, .bool F, .slice ad Bs.length cc] : Array Value)[j]? = some v → (wr.drewN nq).cell? ⟨b, off + k * 5 + j, none⟩ = some v) := HCS.out
          have y0 : (wr.drewN nq).cell? ⟨b, off + k * 5, none⟩ = some (.int .u8 kd) := y0
          clear hcs
          obtain ⟨f1, f2, f3⟩ := dropA_facts (W := wr.drewN nq) (s := s) (p := p) (fun x y => by first | rfl | exact addr_add x y _) hAV hby2 (by have := HML.out; omega) hnil hsp
          generalize wr.drewN nq = W at *
          have AB := Lib.hid f1
          have AN := Lib.hid f2
          have AS := Lib.hid f3
          clear f1 f2 f3 hAV
          have hcs := HCS2.out
          have htk2 : IsBytes W av (rl.take s) := hby2.take' s
          have HDN : Hid ((!false && decide ((rl.drop s).length = 0)) = (((mv - s : Nat) : Int) == 0)) := by
            show (!false && decide ((rl.drop s).length = 0)) = (((mv - s : Nat) : Int) == 0)
            rw [hrl2.out, Bool.eq_iff_iff]; first | (simp; done) | (simp; omega)
          have HLN : Hid ((((rl.drop s).length : Nat) : Int) = ((mv - s : Nat) : Int)) := by
            show (((rl.drop s).length : Nat) : Int) = ((mv - s : Nat) : Int)
            rw [hrl2.out]
          go_wp2_with (refine wpList_load_cells rfl 60 _ rfl b (off + k * 5) rfl #[.int .u8 kd, .int .i64 s, .int .i64 L, .bool F, .slice ad Bs.length cc] _ hcs Try.underlying60 rfl info_item ?_)
          refine (read_in hI2 kd s L F ad Bs cc (by omega) 0 (rl.take s) (rl.drop s) false HNX.out av s cv hdl.out (by unfold maxLen; omega) htk2 (fun _ x hx => (hsp x hx).1) (by omega) _).mono ?_
          rintro e w5 ⟨rfl, I5, u5⟩
          have B5 : Below w.heap.size w w5 := BW.trans (upd_below u5 BW.size (fun k hk => by have h9 : k = p := hk; rw [h9]; exact hS _ hI2.own))
          go_wp2_with fail
          refine (in_bad I5).mono ?_
          rintro e w6 ⟨rfl, rfl⟩
          go_wp2_with fail
          refine (in_done I5).mono ?_
          rintro e w6 ⟨rfl, rfl⟩
          rw [show (!false && decide (((rl.drop s)).length = 0)) = ((((mv - s) : Nat) : Int) == 0) from HDN.out]
          go_wp2_with fail
          refine (in_left I5).mono ?_
          rintro e w6 ⟨rfl, rfl⟩
          rw [HLN.out]
          go_wp2_with fail
          refine (left_in _ _ _ false _).mono ?_
          rintro e w6 ⟨rfl, rfl⟩
          simp only [Bool.false_eq_true, if_false]
          go_wp2
          go_roundw
          case rel => exact ⟨k + 1, by omega, by go_num, false, rfl, B5, S, (rl.drop s), (rl.drop s), AV, (mv - s), (cv - s), I5, hS, (fun _ => rfl), rfl, hrl2.out, by omega, by omega, AN.out, AB.out.upd u5 (fun _ x hx => (AS.out x hx).1), AS.out, by omega, by have := HRI.out; simp; omega⟩
          case measure => simp [intOf]; omega
    · obtain rfl : k = n := by omega
      go_wp2
      go_ret
      exact ⟨rfl, hB⟩
theorem reads_contract (W : World) (args : Array Value) (h : Each Try.prog W Try.f9.params.toList args.toList) :
    Calls Try.prog 9 args W fun e W' => e = .returned (.bool true) ∧ Below W.heap.size W W' := by
  rw [Try.params9] at h
  obtain ⟨v0, r0, e0, ⟨_, o0⟩, d0, h⟩ := h.cons
  obtain ⟨v1, r1, rfl, ⟨_, o1⟩, d1, h⟩ := h.cons
  obtain rfl := h.nil
  obtain ⟨args⟩ := args
  obtain rfl : args = [v0, v1] := e0
  obtain ⟨a, m, c, rfl, hc0⟩ := val_slice o0 Try.underlying31
  obtain ⟨ai, n, ci, rfl, hc1⟩ := val_slice o1 Try.underlying53
  rw [hc0] at d0
  rw [hc1] at d1
  obtain ⟨xs, hn, hx, _⟩ := items_of d1
  obtain ⟨a', c', bs, e, h1, h2, h3, h4⟩ := d0.bytes Try.underlying31 Try.underlying5 cells_u8'
  injection e with e _
  injection e with e1 e2 e3
  subst e1 e2 e3
  by_cases hf : 5000 < bs.length ∨ 60 < n
  · exact reads_far _ _ _ _ _ _ W hf
  · exact reads_near a bs bs.length c ai xs n ci W rfl h3 h4 hn hx (by omega) (by omega)

theorem reads_lifted (os : Os) (started : os.Started) (H : Type) (enc : TypeId × Value → H) :
    ReturnsInHanded {} Try.checked os 9 .any (Rows.codecReadsSpec.pre6 enc Try.prog Try.f9 Rows.codecReadsRow.domain false) (Rows.codecReadsSpec.post enc Try.prog Try.f9 false true false false) :=
  law_lifted (C := Try.checked) codec_own codec_laidOut (by kernel_rfl) Try.func9 rfl (tb := 4) rfl Try.underlying4
    (by rw [Try.params9]; intro t ht; simp at ht; rcases ht with rfl | rfl <;> exact ⟨by kernel_rfl, of_decide_eq_true (by kernel_rfl)⟩)
    (fun H ds hl => by
      rw [Try.params9] at hl
      match ds, hl with
      | [d1, d2], _ => rfl)
    os started H enc
    (ChangeSpec.witness6 (enc := enc) (C := Try.checked) false ⟨#[], #[.slice none 0 0, .slice none 0 0], []⟩ 8 (by kernel_rfl) (by kernel_rfl) (by kernel_rfl) (by kernel_rfl))
    reads_contract

theorem codecReads_holds : Rows.CodecReadsSaid :=
  OpenClaim.holds_of_wide 9 Try.f9 rfl rfl rfl rfl rfl rfl rfl ⟨rfl, rfl, rfl, rfl, rfl⟩ rfl rfl rfl rfl rfl (by kernel_rfl) Try.func9 (by kernel_rfl)
    (of_decide_eq_true (by kernel_rfl)) (by unfold Func.isWrapper; first | (rw [if_pos (by decide +kernel)]; kernel_rfl) | (rw [if_neg (by decide +kernel)]; exact ⟨rfl, rfl⟩))
    (fun os started H enc _ => reads_lifted os started H enc)
#print axioms codecReads_holds
end Go.Proofs.Ytljoalihioflmaa
