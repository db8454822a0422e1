/-
  The document's bytes of a right table: recouplaw08.bytes. Conditions: those of each theorem.
-/
import Derived.Test.YtaogiocjgafohaaRefTable
import Derived.Test.YtaogiocjgafohaaAppendOwn
namespace Go.Proofs.Ytaogiocjgafohaa
open Go.RowKit
set_option maxRecDepth 100000

/-- A policy's flags, as a number. -/
def Pol.flags (p : Pol) : Int := (if p.fin then 1 else 0) + (if p.exc then 2 else 0) + (if p.cre then 4 else 0)
def u8of (v : Int) : UInt8 := UInt8.ofNat v.toNat
theorem u8of_val {v : Int} (h0 : 0 ≤ v) (h1 : v < 256) : (Value.int .u8 v) = bval (u8of v) := by
  unfold bval u8of
  rw [UInt8.toNat_ofNat', Nat.mod_eq_of_lt (by omega), Int.toNat_of_nonneg h0]
def feeBytes (p : Pol) : Nat → List UInt8
  | 0 => []
  | k + 1 => feeBytes p k ++ le (p.fee k) 2
def gradeBytes (p : Pol) : Nat → List UInt8
  | 0 => []
  | k + 1 => gradeBytes p k ++ (le (p.share k) 2 ++ [u8of (p.dest k)])
def polBytes (p : Pol) : List UInt8 := le p.win 2 ++ ([u8of p.flags] ++ (feeBytes p 4 ++ gradeBytes p 4))
def polsBytes (ps : List Pol) : List UInt8 := (ps.map polBytes).flatten
def tableBytes (ps : List Pol) : List UInt8 := le ps.length 2 ++ polsBytes ps
theorem feeBytes_length (p : Pol) (k : Nat) : (feeBytes p k).length = 2 * k := by
  induction k with
  | zero => rfl
  | succ k ih => simp only [feeBytes, List.length_append, ih, le_length]; omega
theorem gradeBytes_length (p : Pol) (k : Nat) : (gradeBytes p k).length = 3 * k := by
  induction k with
  | zero => rfl
  | succ k ih => simp only [gradeBytes, List.length_append, ih, le_length, List.length_singleton]; omega
theorem polBytes_length (p : Pol) : (polBytes p).length = 23 := by
  simp [polBytes, feeBytes_length, gradeBytes_length, le_length]
theorem polsBytes_length (ps : List Pol) : (polsBytes ps).length = 23 * ps.length := by
  induction ps with
  | nil => rfl
  | cons p ps ih => simp only [polsBytes, List.map_cons, List.flatten_cons, List.length_append, polBytes_length, List.length_cons] at ih ⊢; omega
theorem polsBytes_take (ps : List Pol) (k : Nat) (h : k < ps.length) : polsBytes (ps.take (k + 1)) = polsBytes (ps.take k) ++ polBytes ps[k] := by
  unfold polsBytes
  rw [List.take_succ_eq_append_getElem h, List.map_append, List.flatten_append]
  simp

/-- What a right policy's numbers are. -/
structure RightP (p : Pol) : Prop where
  win : 0 ≤ p.win ∧ p.win ≤ 1000
  fee : ∀ k, k < 4 → 0 ≤ p.fee k ∧ p.fee k ≤ 10000
  share : ∀ k, k < 4 → 0 ≤ p.share k ∧ p.share k ≤ 10000
  dest : ∀ k, k < 4 → 0 ≤ p.dest k ∧ p.dest k ≤ 5
theorem rightP_facts {p : Pol} (h : rightP p = true) : RightP p := by
  unfold rightP at h
  rw [Bool.and_eq_true, List.all_eq_true] at h
  obtain ⟨h1, h2⟩ := h
  have key : ∀ k, k < 4 → ptB (p.fee k) = true ∧ gradeB (p.share k) (p.dest k) = true := fun k hk => by
    have := h1 k (List.mem_range.2 hk)
    rwa [Bool.and_eq_true] at this
  refine ⟨of_decide_eq_true h2, fun k hk => ?_, fun k hk => ?_, fun k hk => ?_⟩
  · have := (key k hk).1
    unfold ptB at this
    exact of_decide_eq_true this
  · have := (key k hk).2
    unfold gradeB ptB at this
    rw [Bool.and_eq_true] at this
    exact of_decide_eq_true this.1
  · have := (key k hk).2
    simp [gradeB] at this
    omega

/-- What the loops hold: the row of bytes, and a policy's box beside it. -/
structure Out3 (w0 w' : World) (g : Nat) (p : Pol) (a : Option Addr) (n c : Nat) (xs : List UInt8) : Prop where
  row : w'.ownsRow w0.heap.size 5 1 (.slice a n c) n (xs.map bval)
  pol : PolAt w' g 0 p
  apart : ∀ b, (Value.slice a n c).ownBlock = some b → b ≠ g
  below : Below w0.heap.size w0 w'
theorem Out3.later {w0 w' w2 : World} {g : Nat} {p : Pol} {a : Option Addr} {n c : Nat} {xs : List UInt8} (h : Out3 w0 w' g p a n c xs) (k : Below w'.heap.size w' w2) : Out3 w0 w2 g p a n c xs :=
  ⟨ownsRow_upd h.row (below_upd (fun _ => False) k) (fun _ _ x => x), h.pol.grown k, h.apart, h.below.trans (k.mono h.below.size)⟩
theorem Out3.more {w0 w2 w3 : World} {g : Nat} {p : Pol} {a a' : Option Addr} {n c k c' : Nat} {xs ys : List UInt8} (h : Out3 w0 w2 g p a n c xs)
    (h1 : w3.ownsRow w0.heap.size 5 1 (.slice a' k c') k ((xs ++ ys).map bval)) (h2 : Below w0.heap.size w2 w3) (h3 : ∀ g, (Value.slice a' k c').ownBlock = some g → (Value.slice a n c).ownBlock = some g ∨ w2.heap.size ≤ g)
    (h4 : Upd (fun g => (Value.slice a n c).ownBlock = some g) w2 w3) : Out3 w0 w3 g p a' k c' (xs ++ ys) :=
  ⟨h1, ⟨Nat.lt_of_lt_of_le h.pol.lt h4.size, fun j v hj => (h4.cell (p := ⟨g, 0 + j, none⟩) h.pol.lt (fun e => h.apart g e rfl)).trans (h.pol.cells j v hj)⟩, fun b hb e => by
    rcases h3 b hb with x | x
    · exact h.apart b x e
    · have := h.pol.lt; omega, h.below.trans h2⟩
theorem one_byte (w : World) (v : Int) (h0 : 0 ≤ v) (h1 : v < 256) (t : TypeId) : IsBytes (w.alloc (.cells #[.int .u8 v] t)) (some ⟨w.heap.size, 0, none⟩) [u8of v] := by
  refine .inr ⟨w.heap.size, 0, rfl, by simp, fun i hi => ?_⟩
  obtain rfl : i = 0 := by simpa using hi
  have := u8of_val h0 h1
  unfold bval at this
  rw [List.getElem_singleton, ← this]
  simp
theorem Pol.flags_small (p : Pol) : 0 ≤ p.flags ∧ p.flags < 8 := by
  unfold Pol.flags
  cases p.fin <;> cases p.exc <;> cases p.cre <;> decide
theorem bytes_wrap (v : Int) (h0 : 0 ≤ v) (h1 : v ≤ 100000) (w : World) :
    Calls Try.prog 23 #[.int .u64 (IntKind.u64.wrap v), .int .i64 2] w fun e w' => (∃ a c, e = .returned (.slice a 2 c) ∧ IsBytes w' a (le v 2) ∧ (a = none → c = 0)) ∧ Below w.heap.size w w' := by
  have e1 : IntKind.u64.wrap v = v := u64_pos ⟨by omega, by omega⟩ h0
  rw [e1]
  refine (bytes_ref v 2 w h0 (by omega) (by decide)).mono ?_
  rintro e w' ⟨⟨a, c, rfl, hr⟩, hb⟩
  obtain ⟨h1, _, _, _, h5⟩ := bytes_of_row hr
  exact ⟨⟨a, c, rfl, h1, h5⟩, hb⟩

set_option maxHeartbeats 4000000 in
theorem ref_tableBytes (a : Option Addr) (ps : List Pol) (n c : Nat) (w : World) (hn : ps.length = n) (hp : PolsAt w a ps) (hr : rightT ps = true) :
    Calls Try.prog 12 #[.slice a n c] w fun e w' => (∃ a' m c', e = .returned (.slice a' m c') ∧ w'.ownsRow w.heap.size 5 1 (.slice a' m c') m ((tableBytes ps).map bval)) ∧ Below w.heap.size w w' := by
  unfold rightT at hr
  rw [Bool.and_eq_true, List.all_eq_true] at hr
  have hn16 := of_decide_eq_true hr.1
  have hm : n ≤ 16 := by omega
  have HR : Hid (∀ p ∈ ps, RightP p) := fun p hp => rightP_facts (hr.2 p hp)
  have HN := Lib.hid hn
  clear hr hn hn16
  go_enter Try.func12, Try.ntmps12
  go_wp2_with fail
  refine (bytes_ref n 2 w (by omega) (by omega) (by decide)).mono ?_
  rintro e w1 ⟨⟨a1, c1, rfl, hr1⟩, b1⟩
  have R1 : Aside (w1.ownsRow w.heap.size 5 1 (.slice a1 2 c1) 2 ((le (n : Int) 2 ++ polsBytes (ps.take 0)).map bval)) := by
    show World.ownsRow _ _ _ _ _ _ _
    rw [show polsBytes (ps.take 0) = [] from rfl, List.append_nil]
    exact hr1
  have B1 : Aside (Below w.heap.size w w1) := b1
  clear hr1 b1
  go_wp2
  go_loopw [3, 15] (fun s i wr => ∃ (k m : Nat) (a' : Option Addr) (c' : Nat), k ≤ n ∧ i = .int .i64 k ∧ s = .slice a' m c' ∧ m = 2 + 23 * k ∧ Aside (wr.ownsRow w.heap.size 5 1 (.slice a' m c') m ((le (n : Int) 2 ++ polsBytes (ps.take k)).map bval)) ∧ Aside (Below w.heap.size w wr)) (fun _ i _ => n - (intOf i).toNat)
  case atStart => exact ⟨0, 2, a1, c1, Nat.zero_le _, rfl, rfl, rfl, R1, B1⟩
  case round =>
    obtain ⟨k, m, a', c', hk, rfl, rfl, hmk, HO, HB⟩ := hrel
    by_cases hlt : k < n
    · have hkn : (k : Int) < (n : Int) := by omega
      rcases hp with rfl | ⟨b, off, rfl, hb, hc⟩
      · have := HN.out; simp at this; omega
      have hlk : k < ps.length := by rw [HN.out]; exact hlt
      have hpk := (hc k hlk).below HB.out hb
      obtain ⟨z0, z1, z2, z3, z4, z5, z6, z7, z8, z9, za, zb, zc, zd, ze, zf⟩ := hpk.all
      have HRP := Lib.hid (HR.out ps[k] (List.getElem_mem hlk))
      have HTK := Lib.hid (polsBytes_take ps k hlk)
      have HMK := Lib.hid hmk
      have hm4 : m ≤ 400 := by omega
      clear hc hpk hmk
      generalize ps[k] = p at *
      go_upto_region 6 with (fail)
      show Code.wp _ _ _ _ (wr.alloc (.cells p.arr 40))
      have hW : PolAt (wr.alloc (.cells p.arr 40)) wr.heap.size 0 p := pol_new wr p _
      have H2 : Aside (Out3 w (wr.alloc (.cells p.arr 40)) wr.heap.size p a' m c' (le (n : Int) 2 ++ polsBytes (ps.take k))) :=
        ⟨ownsRow_upd HO.out (below_upd (fun _ => False) (upd_box _)) (fun _ _ x => x), hW, fun b hb => Nat.ne_of_lt (own_lt HO.out hb), HB.out.alloc HB.out.size _⟩
      clear hW z0 z1 z2 z3 z4 z5 z6 z7 z8 z9 za zb zc zd ze zf HO HB
      generalize wr.alloc (.cells p.arr 40) = w2 at *
      generalize wr.heap.size = g at *
      generalize hX : le (n : Int) 2 ++ polsBytes (ps.take k) = xs at *
      have HX := Lib.hid hX
      clear hX
      have c0 := H2.out.pol.win
      have HBy : Aside _ := bytes_wrap p.win HRP.out.win.1 (by have := HRP.out.win.2; omega)
      go_wp2_with fail
      refine (HBy.out _).mono ?_
      rintro e w3 ⟨⟨a3, c3, rfl, g3, n3⟩, b3⟩
      have H3 := H2.out.later b3
      clear H2 c0 b3
      go_upto_region 7 with (at_builtin; refine wpList_append_own1 rfl _ _ 24 rfl w.heap.size 5 Try.underlying24 u8_info (.slice a' m c') m _ rfl H3.row a3 (le p.win 2) 2 (le_length _ _) c3 rfl g3 n3 (m + 2) rfl (by omega) H3.below.size ?_; intro a4 c4 w4 h1 h2 h3 h4)
      have H4 : Aside _ := H3.more h1 h2 h3 h4
      clear h1 h2 h3 h4 H3 g3 n3 HBy
      have c1 := H4.out.pol.fin
      have c2 := H4.out.pol.exc
      have c3' := H4.out.pol.cre
      have HFL : Hid (p.flags = (if p.fin then 1 else 0) + (if p.exc then 2 else 0) + (if p.cre then 4 else 0)) := rfl
      generalize p.fin = f1 at *
      generalize p.exc = f2 at *
      generalize p.cre = f3 at *
      go_upto_if 29 with (fail)
      go_cut [6] (fun s wx => s = .int .u8 (if f1 then 1 else 0) ∧ w4 = wx)
      case first =>
        as_aux_lemma =>
          cases f1 <;> (go_wp2_with fail; go_meet; exact ⟨rfl, rfl⟩)
      case rest =>
        obtain ⟨rfl, rfl⟩ := hcut
        go_upto_if 31 with (fail)
        go_cut [6] (fun s wx => s = .int .u8 ((if f1 then 1 else 0) + (if f2 then 2 else 0)) ∧ w4 = wx)
        case first =>
          as_aux_lemma =>
            cases f1 <;> cases f2 <;> (go_wp2_with fail; go_meet; exact ⟨rfl, rfl⟩)
        case rest =>
          obtain ⟨rfl, rfl⟩ := hcut
          go_upto_if 35 with (fail)
          go_cut [6] (fun s wx => s = .int .u8 ((if f1 then 1 else 0) + (if f2 then 2 else 0) + (if f3 then 4 else 0)) ∧ w4 = wx)
          case first =>
            as_aux_lemma =>
              cases f1 <;> cases f2 <;> cases f3 <;> (go_wp2_with fail; go_meet; exact ⟨rfl, rfl⟩)
          case rest =>
            obtain ⟨rfl, rfl⟩ := hcut
            clear c1 c2 c3'
            rw [← HFL.out]
            have hfl := p.flags_small
            have g5 := one_byte w4 p.flags hfl.1 (by omega) 5
            have H5 := H4.out.later (upd_box (w := w4) (.cells #[.int .u8 p.flags] 5))
            clear H4 HFL
            go_upto_region 15 with (at_builtin; refine wpList_append_own1 rfl _ _ 24 rfl w.heap.size 5 Try.underlying24 u8_info (.slice a4 (m + 2) c4) (m + 2) _ rfl H5.row (some ⟨w4.heap.size, 0, none⟩) [u8of p.flags] 1 rfl 1 rfl g5 (fun x => by cases x) ((m + 2) + 1) rfl (by omega) H5.below.size ?_; intro a5 c5 w5 h1 h2 h3 h4)
            have H6 : Aside _ := H5.more h1 h2 h3 h4
            clear h1 h2 h3 h4 H5 g5
            have hm6 : m + 2 + 1 ≤ 500 := by omega
            generalize hm7 : m + 2 + 1 = m7 at *
            have HM7 := Lib.hid hm7
            clear hm7
            generalize hX7 : xs ++ le p.win 2 ++ [u8of p.flags] = xs7 at *
            have HX7 := Lib.hid hX7
            clear hX7
            generalize w5 = wo at *
            generalize wr = wo2 at *
            go_wp2
            go_loopw [3, 42] (fun s i wq => ∃ (j m' : Nat) (a' : Option Addr) (c' : Nat), j ≤ 4 ∧ i = .int .i64 j ∧ s = .slice a' m' c' ∧ m' = m7 + 2 * j ∧ Aside (Out3 w wq g p a' m' c' (xs7 ++ feeBytes p j))) (fun _ i _ => 4 - (intOf i).toNat)
            case atStart => exact ⟨0, _, _, _, Nat.zero_le _, rfl, rfl, rfl, by rw [show feeBytes p 0 = [] from rfl, List.append_nil]; exact H6⟩
            case round =>
              clear H6
              obtain ⟨j, m', a8, c8, hj, rfl, rfl, hmj, HO⟩ := hrel
              by_cases hj4 : j < 4
              · have hj4' : (j : Int) < 4 := by omega
                have cf := HO.out.pol.fee j hj4
                have HBy : Aside _ := bytes_wrap (p.fee j) (HRP.out.fee j hj4).1 (by have := (HRP.out.fee j hj4).2; omega)
                have hm9 : m' + 2 ≤ 600 := by omega
                have HMJ := Lib.hid hmj
                clear hmj
                go_wp2_with fail
                refine (HBy.out _).mono ?_
                rintro e w3 ⟨⟨a3, c3, rfl, g3, n3⟩, b3⟩
                have H3 := HO.out.later b3
                clear cf b3 HO
                go_wp2_with (at_builtin; refine wpList_append_own1 rfl _ _ 24 rfl w.heap.size 5 Try.underlying24 u8_info (.slice a8 m' c8) m' _ rfl H3.row a3 (le (p.fee j) 2) 2 (le_length _ _) c3 rfl g3 n3 (m' + 2) rfl (by omega) H3.below.size ?_; intro a4 c4 w4 h1 h2 h3 h4)
                have H4 : Aside _ := H3.more h1 h2 h3 h4
                clear h1 h2 h3 h4 H3 g3 n3 HBy
                go_roundw
                case rel =>
                  refine ⟨j + 1, _, _, _, hj4, by go_num, rfl, by have := HMJ.out; omega, ?_⟩
                  have := H4.out
                  rw [List.append_assoc] at this
                  exact this
                case measure => simp [intOf]; omega
              · have hj4' : ¬ (j : Int) < 4 := by omega
                have hjE : j = 4 := by omega
                have HMJ : Hid (m' = m7 + 2 * 4) := by show _ = _; rw [hmj, hjE]
                have hm8 : m' ≤ 600 := by omega
                rw [hjE] at HO
                clear hmj hjE
                generalize hX8 : xs7 ++ feeBytes p 4 = xs8 at *
                have HX8 := Lib.hid hX8
                clear hX8
                generalize wr = wo3 at *
                go_wp2
                go_loopw [3, 54] (fun s i wq => ∃ (j m2 : Nat) (a' : Option Addr) (c' : Nat), j ≤ 4 ∧ i = .int .i64 j ∧ s = .slice a' m2 c' ∧ m2 = m' + 3 * j ∧ Aside (Out3 w wq g p a' m2 c' (xs8 ++ gradeBytes p j))) (fun _ i _ => 4 - (intOf i).toNat)
                case atStart => exact ⟨0, _, _, _, Nat.zero_le _, rfl, rfl, rfl, by rw [show gradeBytes p 0 = [] from rfl, List.append_nil]; exact HO⟩
                case round =>
                  clear HO
                  obtain ⟨j, m2, a8, c8, hj, rfl, rfl, hmj2, HO⟩ := hrel
                  by_cases hj4 : j < 4
                  · have hj4' : (j : Int) < 4 := by omega
                    have cf := HO.out.pol.share j hj4
                    have HBy : Aside _ := bytes_wrap (p.share j) (HRP.out.share j hj4).1 (by have := (HRP.out.share j hj4).2; omega)
                    have hm9 : m2 + 3 ≤ 700 := by omega
                    have HMJ2 := Lib.hid hmj2
                    clear hmj2
                    go_wp2_with fail
                    refine (HBy.out _).mono ?_
                    rintro e w3 ⟨⟨a3, c3, rfl, g3, n3⟩, b3⟩
                    have H3 := HO.out.later b3
                    clear cf b3 HO
                    go_upto_region 24 with (at_builtin; refine wpList_append_own1 rfl _ _ 24 rfl w.heap.size 5 Try.underlying24 u8_info (.slice a8 m2 c8) m2 _ rfl H3.row a3 (le (p.share j) 2) 2 (le_length _ _) c3 rfl g3 n3 (m2 + 2) rfl (by omega) H3.below.size ?_; intro a4 c4 w4 h1 h2 h3 h4)
                    have H4 := H3.more h1 h2 h3 h4
                    clear h1 h2 h3 h4 H3 g3 n3 HBy
                    have cd := H4.pol.dest j hj4
                    have hd := HRP.out.dest j hj4
                    have hdw : IntKind.u8.wrap (p.dest j) = p.dest j := by rw [IntKind.wrap_u8]; omega
                    have g5 := one_byte w4 (p.dest j) hd.1 (by omega) 5
                    have H5 := H4.later (upd_box (w := w4) (.cells #[.int .u8 (p.dest j)] 5))
                    clear H4
                    go_wp2_with (at_builtin; refine wpList_append_own1 rfl _ _ 24 rfl w.heap.size 5 Try.underlying24 u8_info (.slice a4 (m2 + 2) c4) (m2 + 2) _ rfl H5.row (some ⟨w4.heap.size, 0, none⟩) [u8of (p.dest j)] 1 rfl 1 rfl g5 (fun x => by cases x) ((m2 + 2) + 1) rfl (by omega) H5.below.size ?_; intro a5 c5 w5 h1 h2 h3 h4)
                    have H6 : Aside _ := H5.more h1 h2 h3 h4
                    clear h1 h2 h3 h4 H5 g5 cd hd hdw
                    go_roundw
                    case rel =>
                      refine ⟨j + 1, _, _, _, hj4, by go_num, rfl, by have := HMJ2.out; omega, ?_⟩
                      have := H6.out
                      rw [List.append_assoc, List.append_assoc] at this
                      exact this
                    case measure => simp [intOf]; omega
                  · obtain rfl : j = 4 := by omega
                    have HRW : Aside (wr.ownsRow w.heap.size 5 1 (.slice a8 m2 c8) m2 ((le (n : Int) 2 ++ polsBytes (ps.take (k + 1))).map bval)) := by
                      have := HO.out.row
                      rw [← HX8.out, ← HX7.out, ← HX.out] at this
                      rw [show le (n : Int) 2 ++ polsBytes (ps.take (k + 1)) = le (n : Int) 2 ++ polsBytes (ps.take k) ++ le p.win 2 ++ [u8of p.flags] ++ feeBytes p 4 ++ gradeBytes p 4 by rw [HTK.out, polBytes]; simp only [List.append_assoc]]
                      exact this
                    have HBW : Aside (Below w.heap.size w wr) := HO.out.below
                    have hmm : Hid (m2 = 2 + 23 * (k + 1)) := by have := HMK.out; have := HM7.out; have := HMJ.out; show _ = _; omega
                    clear hmj2
                    clear HO HX HX7 HX8
                    go_wp2
                    go_roundw
                    case rel => exact ⟨k + 1, m2, a8, c8, hlt, by go_num, rfl, hmm.out, HRW, HBW⟩
                    case measure => simp [intOf]; omega
    · obtain rfl : k = n := by omega
      have HRW : Aside (wr.ownsRow w.heap.size 5 1 (.slice a' m c') m ((tableBytes ps).map bval)) := by
        have := HO.out
        rw [List.take_of_length_le (by rw [HN.out]; exact Nat.le_refl _)] at this
        unfold tableBytes
        rw [HN.out]
        exact this
      clear HO
      go_wp2
      go_ret
      exact ⟨⟨a', m, c', rfl, HRW.out⟩, HB.out⟩
end Go.Proofs.Ytaogiocjgafohaa
