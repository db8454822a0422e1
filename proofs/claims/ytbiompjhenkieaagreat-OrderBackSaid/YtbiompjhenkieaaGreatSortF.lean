/-
  The library's stable sort, a merge of two rows of more than one member each; and so of any two. Conditions: those of the theorems.
-/
import Derived.Test.YtbiompjhenkieaaGreatSortX
import Derived.Deep.DeepCutAuto
namespace Go.Proofs.YtbiompjhenkieaaGreat
open Go.RowKit Go.Sort
set_option maxRecDepth 100000
variable {α : Type} [Inhabited α]

def Lo3 (lx : α → α → Bool) (d : Array α) (lo p i : Nat) : Prop := i = lo ∨ lx d[p - (i - 1)]! d[i - 1]! = false
def Hi3 (lx : α → α → Bool) (d : Array α) (hi p j : Nat) : Prop := j = hi ∨ lx d[p - j]! d[j]! = true
/-- Where the search begins, and ends. -/
def Ends3 (a m b mid lo hi : Nat) : Prop := (mid < m ∧ lo + b = mid + m ∧ hi = mid) ∨ (m ≤ mid ∧ lo = a ∧ hi = m)
theorem ends3 (a m b mid : Nat) (ham : a < m) (hmb : m < b) (hmid : mid = (a + b) / 2) : ∃ lo hi, Ends3 a m b mid lo hi ∧ a ≤ lo ∧ lo ≤ hi ∧ hi ≤ m ∧ hi ≤ mid ∧ mid + m ≤ lo + b ∧ (mid < m → (mid : Int) + (m : Int) - (b : Int) = (lo : Int) ∧ hi = mid) ∧ (¬ mid < m → lo = a ∧ hi = m) := by
  by_cases h : mid < m
  · exact ⟨mid + m - b, mid, .inl ⟨h, by omega, rfl⟩, by omega, by omega, by omega, by omega, by omega, fun _ => ⟨by omega, rfl⟩, fun h2 => absurd h h2⟩
  · exact ⟨a, m, .inr ⟨by omega, rfl, rfl⟩, by omega, by omega, by omega, by omega, by omega, fun h2 => absurd h2 h, fun _ => ⟨rfl, rfl⟩⟩

/-- Does y lie between x and z? -/
def bt (x y z : Nat) : Bool := decide (x < y ∧ y < z)
theorem bt_yes {x y z : Nat} (h : bt x y z = true) : x < y ∧ y < z := of_decide_eq_true h
theorem bt_no {x y z : Nat} (h : ¬ bt x y z = true) : ¬ x < y ∨ ¬ y < z := by
  have : ¬ (x < y ∧ y < z) := fun h2 => h (decide_eq_true h2)
  omega

def MergeAll (P : Program) (f : FuncId) (v : α → Int) (lx : α → α → Bool) (tie : α → α → Prop) (g : Nat) (cb : Array Value) (w0 : World) (blk off cap sz : Nat) (d0 : Array α) (L : Nat) : Prop :=
  ∀ (a m b : Nat) (d : Array α) (w : World), b - a < L → a < m → m < b → b ≤ sz → d.size = sz → St v w0 blk off d0 d w → SortedIn lx a m d → SortedIn lx m b d → Tie tie a m b d →
    Calls P f #[.slice (some ⟨blk, off, none⟩) sz cap, .int .i64 a, .int .i64 m, .int .i64 b, .func (.func g) #[] cb] w fun e w' => e = .returned (.tuple #[]) ∧ Merged v lx w0 blk off a b d0 d w'

set_option maxHeartbeats 4000000 in
theorem sort_merge3 (v : α → Int) (cf : α → α → Int) (lx : α → α → Bool) (tie : α → α → Prop) (T : Two (less cf) lx tie) (g : Nat) (cb : Array Value) (w0 w : World) (blk off cap a m b sz : Nat) (d0 d : Array α) (S : St v w0 blk off d0 d w)
    (eg : ∀ args w, (callFunc g args).run Tryz.prog w = .ok (.enter g args) w) (hC : Cmp Tryz.prog g cb v cf w0 blk off d0)
    (hz : d.size = sz) (ham : a + 1 < m) (hmb : m + 1 < b) (hb : b ≤ sz) (hsz : sz < 4611686018427387904) (h1 : SortedIn lx a m d) (h2 : SortedIn lx m b d) (ht : Tie tie a m b d)
    (ih : MergeAll Tryz.prog 118 v lx tie g cb w0 blk off cap sz d0 (b - a)) :
    Calls Tryz.prog 118 #[.slice (some ⟨blk, off, none⟩) sz cap, .int .i64 a, .int .i64 m, .int .i64 b, .func (.func g) #[] cb] w fun e w' => e = .returned (.tuple #[]) ∧ Merged v lx w0 blk off a b d0 d w' := by
  have S0 : Aside (St v w0 blk off d0 d w) := S
  have HC : Aside (Cmp Tryz.prog g cb v cf w0 blk off d0) := hC
  have IH : Aside (MergeAll Tryz.prog 118 v lx tie g cb w0 blk off cap sz d0 (b - a)) := ih
  have HZ := Lib.hid hz
  have H1 : Aside (SortedIn lx a m d) := h1
  have H2 : Aside (SortedIn lx m b d) := h2
  have HT : Aside (Tie tie a m b d) := ht
  obtain ⟨mid, hmid⟩ : ∃ mid, mid = (a + b) / 2 := ⟨_, rfl⟩
  have hma : a < mid := by omega
  have hmb2 : mid < b := by omega
  obtain ⟨lo, hi, hcase, hal, hlh, hhm, hhd, hlb, hc1, hc2⟩ := ends3 a m b mid (by omega) (by omega) hmid
  obtain ⟨p, hp⟩ : ∃ p, p + 1 = mid + m := ⟨mid + m - 1, by omega⟩
  have EP := Lib.hid (show (mid : Int) + (m : Int) - 1 = (p : Int) by omega)
  have EM := Lib.hid (show ((a : Int) + (b : Int)) / 2 = (mid : Int) by omega)
  have HMID := Lib.hid hmid
  have HP := Lib.hid hp
  have HCASE : Aside (Ends3 a m b mid lo hi) := hcase
  have HC1 : Aside (mid < m → (mid : Int) + (m : Int) - (b : Int) = (lo : Int) ∧ hi = mid) := hc1
  have HC2 : Aside (¬ mid < m → lo = a ∧ hi = m) := hc2
  have h4 : ((m : Int) - (a : Int) == 1) = false := by simp; omega
  have h5 : ((b : Int) - (m : Int) == 1) = false := by simp; omega
  have h6 : ¬ (m : Int) - (a : Int) = 1 := by omega
  have h7 : ¬ (b : Int) - (m : Int) = 1 := by omega
  clear S hz hC h1 h2 ht ih hmid hp hcase hc1 hc2
  go_enter Tryz.func118, Tryz.ntmps118
  go_upto_if 140 with (fail)
  rw [EM.out]
  go_cut [20, 21] (fun s20 s21 wx => s20 = .int .i64 (lo : Int) ∧ s21 = .int .i64 (hi : Int) ∧ w = wx)
  case first =>
    as_aux_lemma =>
      by_cases hc : mid < m
      · have hc' : (mid : Int) < (m : Int) := by omega
        obtain ⟨e1, e2⟩ := HC1.out hc
        have E1 := Lib.hid e1
        have E2 := Lib.hid e2
        clear e1 e2
        go_wp2_with fail
        go_meet
        exact ⟨by rw [← E1.out], by rw [E2.out], rfl⟩
      · have hc' : ¬ (mid : Int) < (m : Int) := by omega
        obtain ⟨e1, e2⟩ := HC2.out hc
        have E1 := Lib.hid e1
        have E2 := Lib.hid e2
        clear e1 e2
        go_wp2_with fail
        go_meet
        exact ⟨by rw [E1.out], by rw [E2.out], rfl⟩
  case rest =>
    obtain ⟨rfl, rfl, rfl⟩ := hcut
    go_wp2
    rw [EP.out]
    go_loopw [20, 21] (fun vi vj wr => ∃ (s r : Nat), vi = .int .i64 s ∧ vj = .int .i64 r ∧ lo ≤ s ∧ s ≤ r ∧ r ≤ hi ∧ Aside (Lo3 lx d lo p s) ∧ Aside (Hi3 lx d hi p r) ∧ Aside (St v w0 blk off d0 d wr)) (fun vi vj _ => (intOf vj).toNat - (intOf vi).toNat)
    case atStart => exact ⟨lo, hi, rfl, rfl, Nat.le_refl _, hlh, Nat.le_refl _, .inl rfl, .inl rfl, S0.out⟩
    case round =>
      clear S0
      obtain ⟨i, j, rfl, rfl, hmi, hij, hjb, LO, HI, SK⟩ := hrel
      by_cases hlt : i < j
      · have hlt' : (i : Int) < (j : Int) := by omega
        obtain ⟨h, hh⟩ : ∃ h, h = (i + j) / 2 := ⟨_, rfl⟩
        have hhi : i ≤ h := by omega
        have hhj : h < j := by omega
        have e2 : ((i : Int) + (j : Int)) / 2 = (h : Int) := by omega
        have hp := HP.out
        obtain ⟨q, hq⟩ : ∃ q, q = p - h := ⟨_, rfl⟩
        have hq1 : m ≤ q := by omega
        have hq2 : q < b := by omega
        have e3 : (p : Int) - (h : Int) = (q : Int) := by omega
        have w3 : IntKind.i64.wrap ((p : Int) - (h : Int)) = (q : Int) := by rw [IntKind.wrap_i64]; omega
        have HH := Lib.hid hh
        have E2 := Lib.hid e2
        have E3 := Lib.hid e3
        have W3 := Lib.hid w3
        have HQ := Lib.hid hq
        clear hh e2 e3 w3 hp hq
        go_wp2
        rw [E2.out]
        obtain ⟨x, hx⟩ : ∃ x, x = d[q]! := ⟨_, rfl⟩
        obtain ⟨y, hy⟩ : ∃ y, y = d[h]! := ⟨_, rfl⟩
        have hk := HZ.out
        have hcx := SK.out.cell q (by omega)
        have hcy := SK.out.cell h (by omega)
        rw [← hx] at hcx
        rw [← hy] at hcy
        have hcc := fun n => HC.out d (wr.drewN n) (SK.out.drewN n) x y
        have hle : less cf x y = lx x y := T.late _ _ (by rw [hx, hy]; exact HT.out h q (by omega) (by omega) (by omega) (by omega))
        have HX := Lib.hid hx
        have HY := Lib.hid hy
        have HLE := Lib.hid hle
        have jz : (h : Int) < (sz : Int) := by omega
        have jz1 : (q : Int) < (sz : Int) := by omega
        have w3 := W3.out
        clear hx hy hk hle
        by_cases hl : cf x y < 0
        · as_aux_lemma =>
            have HL : Hid (less cf x y = true) := decide_eq_true hl
            go_wp2_with fail
            go_quiet (refine Calls.quiet_of (hcc _))
            have SJ2 : Aside (St v w0 blk off d0 d (wr.drewN nq)) := SK.out.drewN nq
            clear hcx hcy hcc SK w3
            generalize wr.drewN nq = w2 at SJ2 ⊢
            go_wp2
            go_roundw
            case rel =>
              refine ⟨i, h, rfl, rfl, hmi, hhi, by omega, LO.out, ?_, SJ2.out⟩
              show Hi3 _ _ _ _ _
              refine .inr ?_
              rw [← HQ.out, ← HX.out, ← HY.out, ← HLE.out]
              exact HL.out
            case measure => simp [intOf]; omega
        · as_aux_lemma =>
            have HL : Hid (less cf x y = false) := decide_eq_false hl
            have hl' : decide (cf x y < 0) = false := decide_eq_false hl
            go_wp2_with fail
            go_quiet (refine Calls.quiet_of (hcc _))
            have SJ2 : Aside (St v w0 blk off d0 d (wr.drewN nq)) := SK.out.drewN nq
            clear hcx hcy hcc SK w3
            generalize wr.drewN nq = w2 at SJ2 ⊢
            go_wp2
            go_roundw
            case rel =>
              refine ⟨h + 1, j, by go_num, rfl, by omega, by omega, hjb, ?_, HI.out, SJ2.out⟩
              show Lo3 _ _ _ _ _
              refine .inr ?_
              rw [Nat.add_sub_cancel, ← HQ.out, ← HX.out, ← HY.out, ← HLE.out]
              exact HL.out
            case measure => simp [intOf]; omega
      · obtain rfl : i = j := by omega
        have hp := HP.out
        obtain ⟨e, he⟩ : ∃ e, e + i = mid + m := ⟨mid + m - i, by omega⟩
        have hme : m ≤ e := by omega
        have hmide : mid ≤ e := by omega
        have heb : e ≤ b := by omega
        have EE := Lib.hid (show (mid : Int) + (m : Int) - (i : Int) = (e : Int) by omega)
        have hfour : ∀ d1, Rot i m e d d1 → Four lx tie a i mid e b d1 := fun d1 hr => by
          refine four_of T.swo H1.out H2.out HT.out hr (by omega) (by omega) hme heb (by omega) ?_ ?_
          · rcases LO.out with h | h
            · rcases HCASE.out with ⟨c1, c2, c3⟩ | ⟨c1, c2, c3⟩
              · exact .inr (.inl (by omega))
              · exact .inl (by omega)
            · by_cases h0 : i = a
              · exact .inl h0
              · rw [show p - (i - 1) = e by omega] at h; exact .inr (.inr h)
          · rcases HI.out with h | h
            · rcases HCASE.out with ⟨c1, c2, c3⟩ | ⟨c1, c2, c3⟩
              · exact .inr (.inl (by omega))
              · exact .inl (by omega)
            · rw [show p - i = e - 1 by omega] at h; exact .inr (.inr h)
        have HF : Aside (∀ d1, Rot i m e d d1 → Four lx tie a i mid e b d1) := hfour
        have him : i ≤ m := by omega
        have himid : i ≤ mid := by omega
        have hai : a ≤ i := by omega
        have HE := Lib.hid he
        clear hfour he hp
        go_upto_region 39 with (fail)
        rw [EE.out]
        go_cut [185] (fun s wx => s = .bool (bt i m e) ∧ wr = wx)
        case first =>
          as_aux_lemma =>
            by_cases c1 : i < m
            · have c1' : (i : Int) < (m : Int) := by omega
              by_cases c2 : m < e
              · have c2' : (m : Int) < (e : Int) := by omega
                go_wp2_with fail
                go_meet
                exact ⟨by simp [bt, c1, c2], rfl⟩
              · have c2' : ¬ (m : Int) < (e : Int) := by omega
                go_wp2_with fail
                go_meet
                exact ⟨by simp [bt, c2], rfl⟩
            · have c1' : ¬ (i : Int) < (m : Int) := by omega
              go_wp2_with fail
              go_meet
              exact ⟨by simp [bt, c1], rfl⟩
        case rest =>
          obtain ⟨rfl, rfl⟩ := hcut
          go_upto_if 185 with (fail)
          go_cut [] (fun wx => Rotated v w0 blk off i m e d0 d wx)
          case first =>
            as_aux_lemma =>
              by_cases hb : bt i m e = true
              · obtain ⟨c1, c2⟩ := bt_yes hb
                rw [hb]
                clear hb
                go_wp2_with fail
                refine (sort_rotate v _ w0 wr blk off cap i m e sz d0 d SK.out HZ.out c1 c2 (by omega) hsz).mono ?_
                rintro e' w' ⟨rfl, RR⟩
                go_wp2_with fail
                go_meet
                exact RR
              · have hn := bt_no hb
                have hb' : bt i m e = false := by simpa using hb
                rw [hb']
                clear hb hb'
                go_wp2_with fail
                go_meet
                rcases hn with hn | hn
                · obtain rfl : i = m := by omega
                  exact ⟨d, Rot.noLeft i e d, SK.out⟩
                · obtain rfl : e = m := by omega
                  exact ⟨d, Rot.noRight i e d, SK.out⟩
          case rest =>
            clear SK
            obtain ⟨d1, hr1, hs1⟩ := hcut
            have hf1 := HF.out d1 hr1
            have R1 : Aside (Rot i m e d d1) := hr1
            have F1 : Aside (Four lx tie a i mid e b d1) := hf1
            have S1 : Aside (St v w0 blk off d0 d1 wc) := hs1
            have Z1 : Hid (d1.size = sz) := hr1.size.trans HZ.out
            clear hr1 hf1 hs1 HF LO HI
            generalize wc = wr1 at S1 ⊢
            go_upto_region 41 with (fail)
            go_cut [199] (fun s wx => s = .bool (bt a i mid) ∧ wr1 = wx)
            case first =>
              as_aux_lemma =>
                by_cases c1 : a < i
                · have c1' : (a : Int) < (i : Int) := by omega
                  by_cases c2 : i < mid
                  · have c2' : (i : Int) < (mid : Int) := by omega
                    go_wp2_with fail
                    go_meet
                    exact ⟨by simp [bt, c1, c2], rfl⟩
                  · have c2' : ¬ (i : Int) < (mid : Int) := by omega
                    go_wp2_with fail
                    go_meet
                    exact ⟨by simp [bt, c2], rfl⟩
                · have c1' : ¬ (a : Int) < (i : Int) := by omega
                  go_wp2_with fail
                  go_meet
                  exact ⟨by simp [bt, c1], rfl⟩
            case rest =>
              obtain ⟨rfl, rfl⟩ := hcut
              go_upto_if 199 with (fail)
              go_cut [] (fun wx => Merged v lx w0 blk off a mid d0 d1 wx)
              case first =>
                as_aux_lemma =>
                  by_cases hb : bt a i mid = true
                  · obtain ⟨c1, c2⟩ := bt_yes hb
                    rw [hb]
                    clear hb
                    go_wp2_with fail
                    refine (IH.out a i mid d1 wr1 (by omega) c1 c2 (by omega) Z1.out S1.out F1.out.r1 F1.out.r2 F1.out.t1).mono ?_
                    rintro e' w' ⟨rfl, RR⟩
                    go_wp2_with fail
                    go_meet
                    exact RR
                  · have hn := bt_no hb
                    have hb' : bt a i mid = false := by simpa using hb
                    rw [hb']
                    clear hb hb'
                    go_wp2_with fail
                    go_meet
                    rcases hn with hn | hn
                    · obtain rfl : i = a := by omega
                      exact ⟨d1, permIn_refl _ _ _, F1.out.r2, S1.out⟩
                    · obtain rfl : mid = i := by omega
                      exact ⟨d1, permIn_refl _ _ _, F1.out.r1, S1.out⟩
              case rest =>
                clear S1
                obtain ⟨d2, hp2, hs2, hw2⟩ := hcut
                obtain ⟨k1, k2, k3⟩ := F1.out.keep hp2 hmide
                have P2 : Aside (PermIn a mid d1 d2) := hp2
                have O2 : Aside (SortedIn lx a mid d2) := hs2
                have S2 : Aside (St v w0 blk off d0 d2 wc) := hw2
                have K1 : Aside (SortedIn lx mid e d2) := k1
                have K2 : Aside (SortedIn lx e b d2) := k2
                have K3 : Aside (Tie tie mid e b d2) := k3
                have Z2 : Hid (d2.size = sz) := hp2.1.trans Z1.out
                clear hp2 hs2 hw2 k1 k2 k3
                generalize wc = wr2 at S2 ⊢
                go_upto_region 43 with (fail)
                go_cut [213] (fun s wx => s = .bool (bt mid e b) ∧ wr2 = wx)
                case first =>
                  as_aux_lemma =>
                    by_cases c1 : mid < e
                    · have c1' : (mid : Int) < (e : Int) := by omega
                      by_cases c2 : e < b
                      · have c2' : (e : Int) < (b : Int) := by omega
                        go_wp2_with fail
                        go_meet
                        exact ⟨by simp [bt, c1, c2], rfl⟩
                      · have c2' : ¬ (e : Int) < (b : Int) := by omega
                        go_wp2_with fail
                        go_meet
                        exact ⟨by simp [bt, c2], rfl⟩
                    · have c1' : ¬ (mid : Int) < (e : Int) := by omega
                      go_wp2_with fail
                      go_meet
                      exact ⟨by simp [bt, c1], rfl⟩
                case rest =>
                  obtain ⟨rfl, rfl⟩ := hcut
                  have FIN : Aside (∀ d3, PermIn mid b d2 d3 → SortedIn lx mid b d3 → PermIn a b d d3 ∧ SortedIn lx a b d3) := fun d3 hp hs =>
                    F1.out.done P2.out O2.out hp hs (permIn_mono _ _ _ _ _ _ hai heb (by have := HZ.out; omega) (R1.out.perm him hme (by have := HZ.out; omega))) (by omega) (by omega) (by have := HZ.out; omega)
                  by_cases hb : bt mid e b = true
                  · obtain ⟨c1, c2⟩ := bt_yes hb
                    rw [hb]
                    clear hb
                    go_wp2_with fail
                    refine (IH.out mid e b d2 wr2 (by omega) c1 c2 (by omega) Z2.out S2.out K1.out K2.out K3.out).mono ?_
                    rintro e' w' ⟨rfl, RR⟩
                    go_wp2
                    go_end0
                    obtain ⟨d3, hp3, hs3, hw3⟩ := RR
                    obtain ⟨q1, q2⟩ := FIN.out d3 hp3 hs3
                    exact ⟨rfl, d3, q1, q2, hw3⟩
                  · have hn := bt_no hb
                    have hb' : bt mid e b = false := by simpa using hb
                    rw [hb']
                    clear hb hb'
                    have HN := Lib.hid hn
                    clear hn
                    go_wp2
                    go_end0
                    have hs3 : SortedIn lx mid b d2 := by
                      rcases HN.out with hn | hn
                      · obtain rfl : e = mid := by omega
                        exact K2.out
                      · obtain rfl : b = e := by omega
                        exact K1.out
                    obtain ⟨q1, q2⟩ := FIN.out d2 (permIn_refl _ _ _) hs3
                    exact ⟨rfl, d2, q1, q2, S2.out⟩

theorem sort_merge (v : α → Int) (cf : α → α → Int) (lx : α → α → Bool) (tie : α → α → Prop) (T : Two (less cf) lx tie) (g : Nat) (cb : Array Value) (w0 : World) (blk off cap sz : Nat) (d0 : Array α)
    (eg : ∀ args w, (callFunc g args).run Tryz.prog w = .ok (.enter g args) w) (hC : Cmp Tryz.prog g cb v cf w0 blk off d0) (hsz : sz < 4611686018427387904) :
    ∀ L, MergeAll Tryz.prog 118 v lx tie g cb w0 blk off cap sz d0 L
  | 0 => fun a m b d w h => by omega
  | L + 1 => fun a m b d w h ham hmb hb hz S h1 h2 ht => by
    by_cases e1 : m = a + 1
    · exact sort_merge1 v cf lx tie T g cb w0 w blk off cap a m b sz d0 d S eg hC hz e1 hmb hb hsz h2 ht
    · by_cases e2 : b = m + 1
      · exact sort_merge2 v cf lx tie T g cb w0 w blk off cap a m b sz d0 d S eg hC hz (by omega) e2 hb hsz h1 ht
      · exact sort_merge3 v cf lx tie T g cb w0 w blk off cap a m b sz d0 d S eg hC hz (by omega) (by omega) hb hsz h1 h2 ht
          (fun a' m' b' d' w' h' => sort_merge v cf lx tie T g cb w0 blk off cap sz d0 eg hC hsz L a' m' b' d' w' (by omega))
end Go.Proofs.YtbiompjhenkieaaGreat
