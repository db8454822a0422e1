/-
  The document's comparison of configs: recoupref05.SameConfig. Conditions: those of each theorem.
-/
import Derived.Test.YtbiompjhenkieaaGreatCfgX
import Derived.BigQuiet
import Derived.Deep.RegionHeld3
import Derived.Deep.DeepCutAuto
namespace Go.Proofs.YtbiompjhenkieaaGreat
open Go.RowKit
set_option maxRecDepth 100000

def sameBy {α : Type} (f : α → α → Bool) (xs ys : List α) : Bool := decide (xs.length = ys.length) && (xs.zip ys).all fun p => f p.1 p.2
theorem sameBy_len {α : Type} {f : α → α → Bool} {xs ys : List α} (h : xs.length ≠ ys.length) : sameBy f xs ys = false := by simp [sameBy, h]
theorem sameBy_at {α : Type} {f : α → α → Bool} {xs ys : List α} {k : Nat} (h1 : k < xs.length) (h2 : k < ys.length) (h : f xs[k] ys[k] = false) : sameBy f xs ys = false := by
  unfold sameBy
  rw [show ((xs.zip ys).all fun p => f p.1 p.2) = false from List.all_eq_false.2 ⟨(xs[k], ys[k]), List.mem_iff_getElem.2 ⟨k, by simp; omega, by simp⟩, by simp [h]⟩, Bool.and_false]
theorem sameBy_all {α : Type} {f : α → α → Bool} {xs ys : List α} (hl : xs.length = ys.length) (h : ∀ k (h1 : k < xs.length) (h2 : k < ys.length), f xs[k] ys[k] = true) : sameBy f xs ys = true := by
  unfold sameBy
  rw [decide_eq_true hl, Bool.true_and, List.all_eq_true]
  intro p hp
  obtain ⟨k, hk, rfl⟩ := List.mem_iff_getElem.1 hp
  simp at hk
  simpa using h k (by omega) (by omega)
theorem sameBy_iff {α : Type} {f : α → α → Bool} (hf : ∀ a b, f a b = true ↔ a = b) {xs ys : List α} : sameBy f xs ys = true ↔ xs = ys := by
  constructor
  · intro h
    unfold sameBy at h
    rw [Bool.and_eq_true, List.all_eq_true] at h
    have hl := of_decide_eq_true h.1
    refine List.ext_getElem hl fun k h1 h2 => (hf _ _).1 (h.2 (xs[k], ys[k]) (List.mem_iff_getElem.2 ⟨k, by simp; omega, by simp⟩))
  · rintro rfl
    exact sameBy_all rfl fun k h1 h2 => (hf _ _).2 rfl
def sameHead (x y : Ord) : Bool := x.day == y.day && x.disc == y.disc && x.tax == y.tax && x.ship == y.ship
def sameOrd (x y : Ord) : Bool := sameHead x y && sameBy sameLn x.lines y.lines
def sameC (C D : Cfg) : Bool := sameBy samePol C.table D.table && sameBy sameSup C.sups D.sups && sameBy sameOrd C.orders D.orders

theorem same_t {C D : Cfg} (h : sameBy samePol C.table D.table = false) : sameC C D = false := by simp [sameC, h]
theorem same_s {C D : Cfg} (h : sameBy sameSup C.sups D.sups = false) : sameC C D = false := by simp [sameC, h]
theorem same_o {C D : Cfg} (h : sameBy sameOrd C.orders D.orders = false) : sameC C D = false := by simp [sameC, h]

set_option maxHeartbeats 8000000 in
theorem ref_sameConfig (aO aS aT bO bS bT : Option Addr) (no co ns cs nt ct mo do' ms ds mt dt : Nat) (C D : Cfg) (w : World) (hC : CfgIs w aO no aS ns aT nt C) (hD : CfgIs w bO mo bS ms bT mt D) :
    Calls Tryz.prog 10 #[.agg (cfgCells aO no co aS ns cs aT nt ct), .agg (cfgCells bO mo do' bS ms ds bT mt dt)] w fun e w' => e = .returned (.bool (sameC C D)) ∧ Below w.heap.size w w' := by
  have HW0 : Aside (Below w.heap.size w ((w.alloc (.cells (cfgCells aO no co aS ns cs aT nt ct) 26)).alloc (.cells (cfgCells bO mo do' bS ms ds bT mt dt) 26))) := ((Below.refl _ _).alloc (Nat.le_refl _) _).alloc (by simp) _
  have HX1 : Aside (ArrAt ((w.alloc (.cells (cfgCells aO no co aS ns cs aT nt ct) 26)).alloc (.cells (cfgCells bO mo do' bS ms ds bT mt dt) 26)) w.heap.size 0 (cfgCells aO no co aS ns cs aT nt ct)) := (arr_new w _ _).grown ((Below.refl _ _).alloc (Nat.le_refl _) _)
  have HX2 : Aside (ArrAt ((w.alloc (.cells (cfgCells aO no co aS ns cs aT nt ct) 26)).alloc (.cells (cfgCells bO mo do' bS ms ds bT mt dt) 26)) (w.heap.size + 1) 0 (cfgCells bO mo do' bS ms ds bT mt dt)) := by
    have := arr_new (w.alloc (.cells (cfgCells aO no co aS ns cs aT nt ct) 26)) (cfgCells bO mo do' bS ms ds bT mt dt) 26
    rw [show (w.alloc (.cells (cfgCells aO no co aS ns cs aT nt ct) 26)).heap.size = w.heap.size + 1 by simp] at this
    exact this
  have HC : Aside _ := hC.below HW0.out
  have HD : Aside _ := hD.below HW0.out
  have hom := hC.om
  have hsm := hC.sm
  have htm := hC.tm
  have hom2 := hD.om
  have hsm2 := hD.sm
  have htm2 := hD.tm
  unfold maxLen at hom hsm htm hom2 hsm2 htm2
  clear hC hD
  obtain ⟨q, hq⟩ : ∃ q, q = sameC C D := ⟨_, rfl⟩
  rw [← hq]
  have HQ := Lib.hid hq
  clear hq
  go_enter Tryz.func10, Tryz.ntmps10
  go_upto_region 1 with (fail)
  show Code.wp _ _ _ _ ((w.alloc (.cells (cfgCells aO no co aS ns cs aT nt ct) 26)).alloc (.cells (cfgCells bO mo do' bS ms ds bT mt dt) 26))
  generalize (w.alloc (.cells (cfgCells aO no co aS ns cs aT nt ct) 26)).alloc (.cells (cfgCells bO mo do' bS ms ds bT mt dt) 26) = w1 at *
  obtain ⟨c0, c1, c2⟩ := cfgAt_all HX1.out
  obtain ⟨d0, d1, d2⟩ := cfgAt_all HX2.out
  simp only [Nat.zero_add] at c0 c1 c2 d0 d1 d2
  by_cases ht : nt = mt
  · by_cases hs : ns = ms
    · by_cases ho : no = mo
      · subst ht hs ho
        have ht' : ((nt : Int) != (nt : Int)) = false := by simp
        have hs' : ((ns : Int) != (ns : Int)) = false := by simp
        have ho' : ((no : Int) != (no : Int)) = false := by simp
        go_wp2
        go_loopw [39] (fun i wr => ∃ k : Nat, k ≤ nt ∧ i = .int .i64 k ∧ Aside (Below w1.heap.size w1 wr) ∧ Hid (∀ j, j < k → ∀ (h1 : j < C.table.length) (h2 : j < D.table.length), samePol C.table[j] D.table[j] = true)) (fun i _ => nt - (intOf i).toNat)
        case atStart => exact ⟨0, Nat.zero_le _, rfl, Below.refl _ _, fun j hj => by omega⟩
        case round =>
          obtain ⟨k, hk, rfl, HR, HK⟩ := hrel
          have HX3 : Aside _ := HX1.out.grown HR.out
          have HX4 : Aside _ := HX2.out.grown HR.out
          have HC3 : Aside _ := HC.out.below HR.out
          have HD3 : Aside _ := HD.out.below HR.out
          have HB3 : Aside (Below w.heap.size w wr) := HW0.out.trans (HR.out.mono HW0.out.size)
          clear c0 c1 c2 d0 d1 d2
          obtain ⟨c0, c1, c2⟩ := cfgAt_all HX3.out
          obtain ⟨d0, d1, d2⟩ := cfgAt_all HX4.out
          simp only [Nat.zero_add] at c0 c1 c2 d0 d1 d2
          by_cases hlt : k < nt
          · have hkn : (k : Int) < (nt : Int) := by omega
            have hk0 : (0 : Int) ≤ (k : Int) := by omega
            have hl1 : k < C.table.length := by rw [HC3.out.tl]; exact hlt
            have hl2 : k < D.table.length := by rw [HD3.out.tl]; exact hlt
            obtain ⟨b1, o1, rfl, hb1, hr1⟩ := (show RowAt PolAt 16 wr aT C.table from HC3.out.ta).at HC3.out.tl (by omega)
            obtain ⟨b2, o2, rfl, hb2, hr2⟩ := (show RowAt PolAt 16 wr bT D.table from HD3.out.ta).at HD3.out.tl (by omega)
            obtain ⟨z0, z1, z2, z3, z4, z5, z6, z7, z8, z9, za, zb, zc, zd, ze, zf⟩ := (hr1 k hl1).all
            obtain ⟨y0, y1, y2, y3, y4, y5, y6, y7, y8, y9, ya, yb, yc, yd, ye, yf⟩ := (hr2 k hl2).all
            have HFa : Hid (samePol C.table[k] D.table[k] = false → q = false) := fun h => HQ.out.trans (same_t (sameBy_at hl1 hl2 h))
            have HTr : Hid (samePol C.table[k] D.table[k] = true → ∀ j, j < k + 1 → ∀ (h1 : j < C.table.length) (h2 : j < D.table.length), samePol C.table[j] D.table[j] = true) := fun h j hj h1 h2 => by
              by_cases e : j = k
              · subst e; exact h
              · exact HK.out j (by omega) h1 h2
            have heq := pol_eq 9996 C.table[k] D.table[k]
            clear hr1 hr2 HK c0 c1 d0 d1
            generalize C.table[k] = p at *
            generalize D.table[k] = p2 at *
            unfold Pol.arr at heq
            cases hs : samePol p p2 with
            | false =>
              obtain rfl : q = false := HFa.out hs
              rw [hs] at heq
              clear HFa HTr hs
              go_upto_region 6 with (fail)
              as_aux_lemma =>
                go_quiet (fail)
                as_aux_lemma =>
                  go_wp2
                  go_ret
                  exact ⟨rfl, HB3.out.trans ⟨rfl, rfl, rfl, Nat.le_refl _, fun _ _ => rfl⟩⟩
            | true =>
              have HT2 := Lib.hid (HTr.out hs)
              rw [hs] at heq
              clear HFa HTr hs
              go_upto_region 6 with (fail)
              as_aux_lemma =>
                go_quiet (fail)
                as_aux_lemma =>
                  go_wp2
                  go_roundw
                  case rel => exact ⟨k + 1, by omega, by go_num, HR.out.trans ⟨rfl, rfl, rfl, Nat.le_refl _, fun _ _ => rfl⟩, HT2.out⟩
                  case measure => simp [intOf]; omega
          · obtain rfl : k = nt := by omega
            have HTA : Hid (sameBy samePol C.table D.table = true) := sameBy_all (by rw [HC3.out.tl, HD3.out.tl]) (fun j h1 h2 => HK.out j (by have := HC3.out.tl; omega) h1 h2)
            clear HK HW0 HX1 HX2 HC HD HR
            generalize wr = wo1 at *
            go_wp2
            go_loopw [57] (fun i wr => ∃ k2 : Nat, k2 ≤ ns ∧ i = .int .i64 k2 ∧ Aside (Below wo1.heap.size wo1 wr) ∧ Hid (∀ j, j < k2 → ∀ (h1 : j < C.sups.length) (h2 : j < D.sups.length), sameSup C.sups[j] D.sups[j] = true)) (fun i _ => ns - (intOf i).toNat)
            case atStart => exact ⟨0, Nat.zero_le _, rfl, Below.refl _ _, fun j hj => by omega⟩
            case round =>
              obtain ⟨k2, hk2, rfl, HR, HK⟩ := hrel
              have HX5 : Aside _ := HX3.out.grown HR.out
              have HX6 : Aside _ := HX4.out.grown HR.out
              have HC5 : Aside _ := HC3.out.below HR.out
              have HD5 : Aside _ := HD3.out.below HR.out
              have HB5 : Aside (Below w.heap.size w wr) := HB3.out.trans (HR.out.mono HB3.out.size)
              clear c0 c1 c2 d0 d1 d2
              obtain ⟨c0, c1, c2⟩ := cfgAt_all HX5.out
              obtain ⟨d0, d1, d2⟩ := cfgAt_all HX6.out
              simp only [Nat.zero_add] at c0 c1 c2 d0 d1 d2
              by_cases hlt2 : k2 < ns
              · have hkn : (k2 : Int) < (ns : Int) := by omega
                have hk0 : (0 : Int) ≤ (k2 : Int) := by omega
                have hl1 : k2 < C.sups.length := by rw [HC5.out.sl]; exact hlt2
                have hl2 : k2 < D.sups.length := by rw [HD5.out.sl]; exact hlt2
                obtain ⟨b1, o1, rfl, hb1, hr1⟩ := HC5.out.sa.at HC5.out.sl (by omega)
                obtain ⟨b2, o2, rfl, hb2, hr2⟩ := HD5.out.sa.at HD5.out.sl (by omega)
                obtain ⟨z0, z1, z2⟩ := SupAt.all (hr1 k2 hl1)
                obtain ⟨y0, y1, y2⟩ := SupAt.all (hr2 k2 hl2)
                have HFa : Hid (sameSup C.sups[k2] D.sups[k2] = false → q = false) := fun h => HQ.out.trans (same_s (sameBy_at hl1 hl2 h))
                have HTr : Hid (sameSup C.sups[k2] D.sups[k2] = true → ∀ j, j < k2 + 1 → ∀ (h1 : j < C.sups.length) (h2 : j < D.sups.length), sameSup C.sups[j] D.sups[j] = true) := fun h j hj h1 h2 => by
                  by_cases e : j = k2
                  · subst e; exact h
                  · exact HK.out j (by omega) h1 h2
                have heq := sup_eq 9998 C.sups[k2] D.sups[k2]
                clear hr1 hr2 HK c0 c2 d0 d2
                generalize C.sups[k2] = p at *
                generalize D.sups[k2] = p2 at *
                unfold Sup.arr at heq
                cases hs : sameSup p p2 with
                | false =>
                  obtain rfl : q = false := HFa.out hs
                  rw [hs] at heq
                  clear HFa HTr hs
                  go_upto_region 12 with (fail)
                  as_aux_lemma =>
                    go_quiet (fail)
                    as_aux_lemma =>
                      go_wp2
                      go_ret
                      exact ⟨rfl, HB5.out.trans ⟨rfl, rfl, rfl, Nat.le_refl _, fun _ _ => rfl⟩⟩
                | true =>
                  have HT2 := Lib.hid (HTr.out hs)
                  rw [hs] at heq
                  clear HFa HTr hs
                  go_upto_region 12 with (fail)
                  as_aux_lemma =>
                    go_quiet (fail)
                    as_aux_lemma =>
                      go_wp2
                      go_roundw
                      case rel => exact ⟨k2 + 1, by omega, by go_num, HR.out.trans ⟨rfl, rfl, rfl, Nat.le_refl _, fun _ _ => rfl⟩, HT2.out⟩
                      case measure => simp [intOf]; omega
              · obtain rfl : k2 = ns := by omega
                have HTS : Hid (sameBy sameSup C.sups D.sups = true) := sameBy_all (by rw [HC5.out.sl, HD5.out.sl]) (fun j h1 h2 => HK.out j (by have := HC5.out.sl; omega) h1 h2)
                clear HK HX3 HX4 HC3 HD3 HB3 HR
                generalize wr = wo2 at *
                go_wp2
                go_loopw [75] (fun i wr => ∃ k3 : Nat, k3 ≤ no ∧ i = .int .i64 k3 ∧ Aside (Below wo2.heap.size wo2 wr) ∧ Hid (∀ j, j < k3 → ∀ (h1 : j < C.orders.length) (h2 : j < D.orders.length), sameOrd C.orders[j] D.orders[j] = true)) (fun i _ => no - (intOf i).toNat)
                case atStart => exact ⟨0, Nat.zero_le _, rfl, Below.refl _ _, fun j hj => by omega⟩
                case round =>
                  obtain ⟨k3, hk3, rfl, HR, HK⟩ := hrel
                  have HX7 : Aside _ := HX5.out.grown HR.out
                  have HX8 : Aside _ := HX6.out.grown HR.out
                  have HC7 : Aside _ := HC5.out.below HR.out
                  have HD7 : Aside _ := HD5.out.below HR.out
                  have HB7 : Aside (Below w.heap.size w wr) := HB5.out.trans (HR.out.mono HB5.out.size)
                  clear c0 c1 c2 d0 d1 d2
                  obtain ⟨c0, c1, c2⟩ := cfgAt_all HX7.out
                  obtain ⟨d0, d1, d2⟩ := cfgAt_all HX8.out
                  simp only [Nat.zero_add] at c0 c1 c2 d0 d1 d2
                  by_cases hlt3 : k3 < no
                  · have hkn : (k3 : Int) < (no : Int) := by omega
                    have hk0 : (0 : Int) ≤ (k3 : Int) := by omega
                    have hl1 : k3 < C.orders.length := by rw [HC7.out.ol]; exact hlt3
                    have hl2 : k3 < D.orders.length := by rw [HD7.out.ol]; exact hlt3
                    obtain ⟨b1, o1, rfl, hb1, hr1⟩ := HC7.out.oa.at HC7.out.ol (by omega)
                    obtain ⟨b2, o2, rfl, hb2, hr2⟩ := HD7.out.oa.at HD7.out.ol (by omega)
                    have HFa : Hid (sameOrd C.orders[k3] D.orders[k3] = false → q = false) := fun h => HQ.out.trans (same_o (sameBy_at hl1 hl2 h))
                    have HTr : Hid (sameOrd C.orders[k3] D.orders[k3] = true → ∀ j, j < k3 + 1 → ∀ (h1 : j < C.orders.length) (h2 : j < D.orders.length), sameOrd C.orders[j] D.orders[j] = true) := fun h j hj h1 h2 => by
                      by_cases e : j = k3
                      · subst e; exact h
                      · exact HK.out j (by omega) h1 h2
                    obtain ⟨al, nl, cl, hcells1, hnl, hncl, hclm, hla⟩ := hr1 k3 hl1
                    obtain ⟨bl, ml, dl, hcells2, hml, hmdl, hdlm, hlb⟩ := hr2 k3 hl2
                    unfold maxLen at hclm hdlm
                    obtain ⟨z0, z1, z2, z3, z4⟩ := ordAt_all hcells1
                    obtain ⟨y0, y1, y2, y3, y4⟩ := ordAt_all hcells2
                    have HL1 : Aside (LnsAt wr al C.orders[k3].lines) := hla
                    have HL2 : Aside (LnsAt wr bl D.orders[k3].lines) := hlb
                    clear hr1 hr2 HK c1 c2 d1 d2 hcells1 hcells2 hla hlb
                    generalize C.orders[k3] = x at *
                    generalize D.orders[k3] = y at *
                    have hNL := Lib.hid hnl
                    have hML := Lib.hid hml
                    clear hnl hml
                    have hwl1 : w.heap.size < wr.heap.size := HX7.out.lt
                    have hwl2 : w.heap.size + 1 < wr.heap.size := HX8.out.lt
                    go_upto_region 18 with (fail)
                    go_cut [8, 9] (fun s8 s9 wx => ∃ g1 g2, s8 = .pointer (some ⟨g1, 0, none⟩) ∧ s9 = .pointer (some ⟨g2, 0, none⟩) ∧ Aside (Below wr.heap.size wr wx) ∧ Aside (ArrAt wx g1 0 (ordCells x.day al nl cl x.disc x.tax x.ship)) ∧ Aside (ArrAt wx g2 0 (ordCells y.day bl ml dl y.disc y.tax y.ship)))
                    case first =>
                      as_aux_lemma =>
                        have b0 := Below.refl wr.heap.size wr
                        clear HQ HTA HTS HX7 HX8 HC7 HD7 HB7 HFa HTr hNL hML HL1 HL2 HR HX5 HX6 HC5 HD5 HB5
                        go_region_held3 (fun w' => Below wr.heap.size wr w' ∧ w'.cell? ⟨w.heap.size, 0, none⟩ = some (.slice (some ⟨b1, o1, none⟩) no co) ∧ w'.cell? ⟨w.heap.size + 1, 0, none⟩ = some (.slice (some ⟨b2, o2, none⟩) no do') ∧ w'.cell? ⟨b1, o1 + k3 * 5, none⟩ = some (.int .i64 x.day) ∧ w'.cell? ⟨b1, o1 + k3 * 5 + 1, none⟩ = some (.slice al nl cl) ∧ w'.cell? ⟨b1, o1 + k3 * 5 + 2, none⟩ = some (.int .i64 x.disc) ∧ w'.cell? ⟨b1, o1 + k3 * 5 + 3, none⟩ = some (.int .i64 x.tax) ∧ w'.cell? ⟨b1, o1 + k3 * 5 + 4, none⟩ = some (.int .i64 x.ship) ∧ w'.cell? ⟨b2, o2 + k3 * 5, none⟩ = some (.int .i64 y.day) ∧ w'.cell? ⟨b2, o2 + k3 * 5 + 1, none⟩ = some (.slice bl ml dl) ∧ w'.cell? ⟨b2, o2 + k3 * 5 + 2, none⟩ = some (.int .i64 y.disc) ∧ w'.cell? ⟨b2, o2 + k3 * 5 + 3, none⟩ = some (.int .i64 y.tax) ∧ w'.cell? ⟨b2, o2 + k3 * 5 + 4, none⟩ = some (.int .i64 y.ship))
                          (refine ⟨?_, (Below.cell (p := ⟨w.heap.size, 0, none⟩) (B := wr.heap.size) ?_ hwl1).trans c0, (Below.cell (p := ⟨w.heap.size + 1, 0, none⟩) (B := wr.heap.size) ?_ hwl2).trans d0, (Below.cell (p := ⟨b1, o1 + k3 * 5, none⟩) (B := wr.heap.size) ?_ hb1).trans z0, (Below.cell (p := ⟨b1, o1 + k3 * 5 + 1, none⟩) (B := wr.heap.size) ?_ hb1).trans z1, (Below.cell (p := ⟨b1, o1 + k3 * 5 + 2, none⟩) (B := wr.heap.size) ?_ hb1).trans z2, (Below.cell (p := ⟨b1, o1 + k3 * 5 + 3, none⟩) (B := wr.heap.size) ?_ hb1).trans z3, (Below.cell (p := ⟨b1, o1 + k3 * 5 + 4, none⟩) (B := wr.heap.size) ?_ hb1).trans z4, (Below.cell (p := ⟨b2, o2 + k3 * 5, none⟩) (B := wr.heap.size) ?_ hb2).trans y0, (Below.cell (p := ⟨b2, o2 + k3 * 5 + 1, none⟩) (B := wr.heap.size) ?_ hb2).trans y1, (Below.cell (p := ⟨b2, o2 + k3 * 5 + 2, none⟩) (B := wr.heap.size) ?_ hb2).trans y2, (Below.cell (p := ⟨b2, o2 + k3 * 5 + 3, none⟩) (B := wr.heap.size) ?_ hb2).trans y3, (Below.cell (p := ⟨b2, o2 + k3 * 5 + 4, none⟩) (B := wr.heap.size) ?_ hb2).trans y4⟩ <;> (with_reducible (repeat (first | assumption | refine Below.drew ?_ | refine blw_alloc ?_ _ | refine blw_set ?_ (Nat.le_refl _) _ | refine blw_set ?_ (Nat.le_of_lt (by simp)) _))))
                          ((fail))
                        all_goals
                          go_wp2_with fail
                          go_meet
                          first
                            | (have t := two_new wr (ordCells x.day al nl cl x.disc x.tax x.ship) (ordCells y.day bl ml dl y.disc y.tax y.ship) 45
                               exact ⟨_, _, rfl, rfl, t.1, t.2.1, t.2.2⟩)
                            | (have t := two_new wr (ordCells y.day bl ml dl y.disc y.tax y.ship) (ordCells x.day al nl cl x.disc x.tax x.ship) 45
                               exact ⟨_, _, rfl, rfl, t.1, t.2.2, t.2.1⟩)
                    case rest =>
                      obtain ⟨g1, g2, rfl, rfl, HR9, HG1, HG2⟩ := hcut
                      have HL3 : Aside (LnsAt _ al x.lines) := LnsAt.below HL1.out HR9.out
                      have HL4 : Aside (LnsAt _ bl y.lines) := LnsAt.below HL2.out HR9.out
                      have HR10 : Aside (Below wo2.heap.size wo2 _) := HR.out.trans (HR9.out.mono HR.out.size)
                      have HB10 : Aside (Below w.heap.size w _) := HB7.out.trans (HR9.out.mono HB7.out.size)
                      clear c0 d0 z0 z1 z2 z3 z4 y0 y1 y2 y3 y4 HL1 HL2 HX7 HX8 HC7 HD7 HB7 HR HR9
                      obtain ⟨z0, z1, z2, z3, z4⟩ := ordAt_all HG1.out
                      obtain ⟨y0, y1, y2, y3, y4⟩ := ordAt_all HG2.out
                      simp only [Nat.zero_add] at z0 z1 z2 z3 z4 y0 y1 y2 y3 y4
                      go_upto_region 19 with (fail)
                      go_cut [122] (fun s wx => s = .bool (!(sameHead x y && decide (nl = ml))) ∧ wc = wx)
                      case first =>
                        as_aux_lemma =>
                          have HH : Hid ((sameHead x y && decide (nl = ml)) = ((x.day == y.day && x.disc == y.disc && x.tax == y.tax && x.ship == y.ship) && decide (nl = ml))) := rfl
                          clear HQ HTA HTS HFa HTr hNL hML HL3 HL4 HR10 HB10 HG1 HG2 HX5 HX6 HC5 HD5 HB5
                          generalize (sameHead x y && decide (nl = ml)) = hh at *
                          generalize x.day = d1 at *
                          generalize y.day = d2 at *
                          generalize x.disc = e1 at *
                          generalize y.disc = e2 at *
                          generalize x.tax = f1 at *
                          generalize y.tax = f2 at *
                          generalize x.ship = g1' at *
                          generalize y.ship = g2' at *
                          by_cases hd : d1 = d2
                          · have hd1 : (d1 != d2) = false := by simpa using hd
                            by_cases he : e1 = e2
                            · have he1 : (e1 != e2) = false := by simpa using he
                              by_cases hf : f1 = f2
                              · have hf1 : (f1 != f2) = false := by simpa using hf
                                by_cases hg : g1' = g2'
                                · have hg1 : (g1' != g2') = false := by simpa using hg
                                  by_cases hl : nl = ml
                                  · have hl' : ((nl : Int) != (ml : Int)) = false := by simp [hl]
                                    obtain rfl : hh = true := HH.out.trans (by simp [hd, he, hf, hg, hl])
                                    clear HH hd he hf hg hl
                                    go_wp2_with fail
                                    go_meet
                                    exact ⟨rfl, rfl⟩
                                  · have hl' : ((nl : Int) != (ml : Int)) = true := by simp; omega
                                    obtain rfl : hh = false := HH.out.trans (by simp [hl])
                                    clear HH hd he hf hg hl
                                    go_wp2_with fail
                                    go_meet
                                    exact ⟨rfl, rfl⟩
                                · have hg1 : (g1' != g2') = true := by simpa using hg
                                  obtain rfl : hh = false := HH.out.trans (by simp [hg])
                                  clear HH hd he hf hg
                                  go_wp2_with fail
                                  go_meet
                                  exact ⟨rfl, rfl⟩
                              · have hf1 : (f1 != f2) = true := by simpa using hf
                                obtain rfl : hh = false := HH.out.trans (by simp [hf])
                                clear HH hd he hf
                                go_wp2_with fail
                                go_meet
                                exact ⟨rfl, rfl⟩
                            · have he1 : (e1 != e2) = true := by simpa using he
                              obtain rfl : hh = false := HH.out.trans (by simp [he])
                              clear HH hd he
                              go_wp2_with fail
                              go_meet
                              exact ⟨rfl, rfl⟩
                          · have hd1 : (d1 != d2) = true := by simpa using hd
                            obtain rfl : hh = false := HH.out.trans (by simp [hd])
                            clear HH hd
                            go_wp2_with fail
                            go_meet
                            exact ⟨rfl, rfl⟩
                      case rest =>
                        obtain ⟨rfl, rfl⟩ := hcut
                        cases hh : (sameHead x y && decide (nl = ml)) with
                        | false =>
                          as_aux_lemma =>
                            obtain rfl : q = false := HFa.out (by
                              unfold sameOrd sameBy
                              rw [hNL.out, hML.out]
                              rw [← Bool.and_assoc, hh]; rfl)
                            clear hh
                            go_wp2
                            go_ret
                            exact ⟨rfl, HB10.out⟩
                        | true =>
                          rw [Bool.and_eq_true] at hh
                          have HHD := Lib.hid hh.1
                          have hlm : nl = ml := of_decide_eq_true hh.2
                          subst hlm
                          clear hh z0 z2 z3 z4 y0 y2 y3 y4
                          generalize wr = wo3 at *
                          go_wp2
                          go_loopw [126] (fun i wr => ∃ m : Nat, m ≤ nl ∧ i = .int .i64 m ∧ Aside (Below wc.heap.size wc wr) ∧ Hid (∀ j, j < m → ∀ (h1 : j < x.lines.length) (h2 : j < y.lines.length), sameLn x.lines[j] y.lines[j] = true)) (fun i _ => nl - (intOf i).toNat)
                          case atStart => exact ⟨0, Nat.zero_le _, rfl, Below.refl _ _, fun j hj => by omega⟩
                          case round =>
                            obtain ⟨m, hm, rfl, HRm, HKm⟩ := hrel
                            have HG3 : Aside _ := HG1.out.grown HRm.out
                            have HG4 : Aside _ := HG2.out.grown HRm.out
                            have HL5 : Aside (LnsAt wr al x.lines) := LnsAt.below HL3.out HRm.out
                            have HL6 : Aside (LnsAt wr bl y.lines) := LnsAt.below HL4.out HRm.out
                            clear z1 y1
                            obtain ⟨z0, z1, z2, z3, z4⟩ := ordAt_all HG3.out
                            obtain ⟨y0, y1, y2, y3, y4⟩ := ordAt_all HG4.out
                            simp only [Nat.zero_add] at z0 z1 z2 z3 z4 y0 y1 y2 y3 y4
                            clear z0 z2 z3 z4 y0 y2 y3 y4
                            by_cases hltm : m < nl
                            · have hmn : (m : Int) < (nl : Int) := by omega
                              have hm0 : (0 : Int) ≤ (m : Int) := by omega
                              have hm1 : m < x.lines.length := by rw [hNL.out]; exact hltm
                              have hm2 : m < y.lines.length := by rw [hML.out]; exact hltm
                              obtain ⟨b3, o3, rfl, hb3, hr3⟩ := HL5.out.at hNL.out (by omega)
                              obtain ⟨b4, o4, rfl, hb4, hr4⟩ := HL6.out.at hML.out (by omega)
                              obtain ⟨p0, p1, p2, p3⟩ := LnAt.all (hr3 m hm1)
                              obtain ⟨r0, r1, r2, r3⟩ := LnAt.all (hr4 m hm2)
                              have HFl : Hid (sameLn x.lines[m] y.lines[m] = false → q = false) := fun h => HFa.out (by
                                unfold sameOrd
                                rw [sameBy_at hm1 hm2 h, Bool.and_false])
                              have HTl : Hid (sameLn x.lines[m] y.lines[m] = true → ∀ j, j < m + 1 → ∀ (h1 : j < x.lines.length) (h2 : j < y.lines.length), sameLn x.lines[j] y.lines[j] = true) := fun h j hj h1 h2 => by
                                by_cases e : j = m
                                · subst e; exact h
                                · exact HKm.out j (by omega) h1 h2
                              have heq := ln_eq 9998 x.lines[m] y.lines[m]
                              clear hr3 hr4 HKm
                              generalize x.lines[m] = u at *
                              generalize y.lines[m] = v at *
                              unfold Ln.arr at heq
                              cases hs : sameLn u v with
                              | false =>
                                obtain rfl : q = false := HFl.out hs
                                rw [hs] at heq
                                clear HFl HTl hs
                                go_upto_region 24 with (fail)
                                as_aux_lemma =>
                                  go_quiet (fail)
                                  as_aux_lemma =>
                                    go_wp2
                                    go_ret
                                    exact ⟨rfl, (HB10.out.trans (HRm.out.mono HB10.out.size)).trans ⟨rfl, rfl, rfl, Nat.le_refl _, fun _ _ => rfl⟩⟩
                              | true =>
                                have HT2 := Lib.hid (HTl.out hs)
                                rw [hs] at heq
                                clear HFl HTl hs
                                go_upto_region 24 with (fail)
                                as_aux_lemma =>
                                  go_quiet (fail)
                                  as_aux_lemma =>
                                    go_wp2
                                    go_roundw
                                    case rel => exact ⟨m + 1, by omega, by go_num, HRm.out.trans ⟨rfl, rfl, rfl, Nat.le_refl _, fun _ _ => rfl⟩, HT2.out⟩
                                    case measure => simp [intOf]; omega
                            · obtain rfl : m = nl := by omega
                              have HT3 := Lib.hid (HTr.out (by
                                unfold sameOrd
                                rw [HHD.out, sameBy_all (by rw [hNL.out, hML.out]) (fun j h1 h2 => HKm.out j (by have := hNL.out; omega) h1 h2)]
                                rfl))
                              have hmno : ¬ m < m := Nat.lt_irrefl m
                              have HR11 : Aside (Below wo2.heap.size wo2 wr) := HR10.out.trans (HRm.out.mono HR10.out.size)
                              clear HKm HTr HFa
                              as_aux_lemma =>
                                go_wp2
                                go_roundw
                                case rel => exact ⟨k3 + 1, by omega, by go_num, HR11.out, HT3.out⟩
                                case measure => simp [intOf]; omega
                  · obtain rfl : k3 = no := by omega
                    have hq2 : q = true := by
                      rw [HQ.out]
                      unfold sameC
                      rw [HTA.out, HTS.out, sameBy_all (by rw [HC7.out.ol, HD7.out.ol]) (fun j h1 h2 => HK.out j (by have := HC7.out.ol; omega) h1 h2)]
                      rfl
                    subst hq2
                    clear HK
                    go_wp2
                    go_ret
                    exact ⟨rfl, HB7.out⟩
      · have ho' : ((no : Int) != (mo : Int)) = true := by simp; omega
        obtain rfl : q = false := HQ.out.trans (same_o (sameBy_len (by rw [HC.out.ol, HD.out.ol]; exact ho)))
        subst ht hs
        have ht' : ((nt : Int) != (nt : Int)) = false := by simp
        have hs' : ((ns : Int) != (ns : Int)) = false := by simp
        go_wp2
        go_ret
        exact ⟨rfl, HW0.out⟩
    · have hs' : ((ns : Int) != (ms : Int)) = true := by simp; omega
      obtain rfl : q = false := HQ.out.trans (same_s (sameBy_len (by rw [HC.out.sl, HD.out.sl]; exact hs)))
      subst ht
      have ht' : ((nt : Int) != (nt : Int)) = false := by simp
      go_wp2
      go_ret
      exact ⟨rfl, HW0.out⟩
  · have ht' : ((nt : Int) != (mt : Int)) = true := by simp; omega
    obtain rfl : q = false := HQ.out.trans (same_t (sameBy_len (by rw [HC.out.tl, HD.out.tl]; exact ht)))
    go_wp2
    go_ret
    exact ⟨rfl, HW0.out⟩
end Go.Proofs.YtbiompjhenkieaaGreat
