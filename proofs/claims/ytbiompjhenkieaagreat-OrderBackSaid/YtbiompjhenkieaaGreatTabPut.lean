/-
  Package table: a policy's bytes, a table's bytes: kind, put, Encode. Conditions: those of each theorem.
-/
import Derived.Test.YtbiompjhenkieaaGreatTabWrong
import Derived.Test.YtbiompjhenkieaaGreatTabX
import Derived.Test.YtbiompjhenkieaaGreatCodec
namespace Go.Proofs.YtbiompjhenkieaaGreat
open Go.RowKit
set_option maxRecDepth 100000

set_option maxHeartbeats 2000000 in
theorem tab_kind (p : Pol) (w : World) : Calls Tryz.prog 89 #[.agg p.arr] w fun e w' => e = .returned (.int .i64 p.flags) ∧ Below w.heap.size w w' := by
  have hp := pol_new w p 64
  have HB : Aside (Below w.heap.size w (w.alloc (.cells p.arr 64))) := (Below.refl _ _).alloc (Nat.le_refl _) _
  have c1 := hp.fin
  have c2 := hp.exc
  have c3 := hp.cre
  have HF : Hid (p.flags = (if p.fin then 1 else 0) + (if p.exc then 2 else 0) + (if p.cre then 4 else 0)) := rfl
  generalize p.flags = fl at *
  clear hp
  go_enter Tryz.func89, Tryz.ntmps89
  go_upto_region 1 with (fail)
  show Code.wp _ _ _ _ (w.alloc (.cells p.arr 64))
  generalize w.alloc (.cells p.arr 64) = w1 at *
  generalize p.fin = f1 at *
  generalize p.exc = f2 at *
  generalize p.cre = f3 at *
  cases f1 <;> cases f2 <;> cases f3 <;>
    (have hf := HF.out
     clear HF
     simp at hf
     subst hf
     go_wp2
     go_ret
     exact ⟨rfl, HB.out⟩)

/-- A policy's box, and an Out, in the middle of put. -/
structure PolPut (w0 : World) (S0 : Nat → Prop) (p g : Nat) (q : Pol) (ys : List UInt8) (W : World) : Prop where
  out : ∃ S, OutAt W p S ys false ∧ ¬ S g ∧ ∀ k, S k → S0 k ∨ w0.heap.size ≤ k
  upd : Upd S0 w0 W
  pol : PolAt W g 0 q
theorem PolPut.next {w0 W W' : World} {S0 S : Nat → Prop} {p g : Nat} {q : Pol} {zs : List UInt8} (hu : Upd S0 w0 W) (hp : PolAt W g 0 q) (hg : ¬ S g) (hs : ∀ k, S k → S0 k ∨ w0.heap.size ≤ k) (d : OutDone W p S zs false W') : PolPut w0 S0 p g q zs W' := by
  obtain ⟨S', h1, h2, h3⟩ := d
  refine ⟨⟨S', h1, fun hk => ?_, fun k hk => ?_⟩, hu.trans h2 (fun k hk hS => ?_), ⟨Nat.lt_of_lt_of_le hp.lt h2.size, fun j v hj => (h2.cell (p := ⟨g, 0 + j, none⟩) hp.lt hg).trans (hp.cells j v hj)⟩⟩
  · rcases h3 g hk with x | x
    · exact hg x
    · have := hp.lt; omega
  · rcases h3 k hk with x | x
    · exact hs k x
    · exact .inr (Nat.le_trans hu.size x)
  · rcases hs k hS with x | x
    · exact x
    · omega
theorem PolPut.below {w0 W W' : World} {S0 : Nat → Prop} {p g : Nat} {q : Pol} {ys : List UInt8} (h : PolPut w0 S0 p g q ys W) (hb : Below W.heap.size W W') : PolPut w0 S0 p g q ys W' := by
  obtain ⟨⟨S, h1, h2, h3⟩, hu, hp⟩ := h
  exact ⟨⟨S, h1.below hb, h2, h3⟩, hu.trans (Upd.below hb (S := fun _ => False)) (fun _ _ x => x.elim), hp.grown hb⟩
theorem putN_fits {ys : List UInt8} {v : Int} {n : Nat} (h : fits v n = true) : putN ys false v n = (ys ++ le v n, false) := by
  unfold putN addB
  rw [if_pos h]
  rfl
theorem le_one {v : Int} (h0 : 0 ≤ v) (h1 : v < 256) : le v 1 = [u8of v] := by
  have e : byteAt v 0 = u8of v := by
    apply UInt8.toNat_inj.1
    have a := byteAt_int v 0
    unfold u8of
    rw [UInt8.toNat_ofNat', Nat.mod_eq_of_lt (by omega)]
    simp only [Nat.mul_zero, Int.pow_zero, Int.ediv_one] at a
    omega
  simp [le, List.range_succ, e]
theorem fits_two {v : Int} (h0 : 0 ≤ v) (h1 : v ≤ 60000) : fits v 2 = true := by
  unfold fits
  rw [decide_eq_true h0, decide_eq_true (by show v < 65536; omega)]
  rfl
theorem fits_one {v : Int} (h0 : 0 ≤ v) (h1 : v < 256) : fits v 1 = true := by
  unfold fits
  rw [decide_eq_true h0, decide_eq_true (by show v < 256; omega)]
  rfl
theorem PolPut.u16 {w0 W : World} {S0 : Nat → Prop} {p g : Nat} {q : Pol} {ys : List UInt8} (h : PolPut w0 S0 p g q ys W) (v : Int) (h0 : 0 ≤ v) (h1 : v ≤ 60000) (hb : ys.length ≤ 1000000) :
    Calls Tryz.prog 40 #[.pointer (some ⟨p, 0, none⟩), .int .i64 v] W fun e W' => e = .returned (.tuple #[]) ∧ PolPut w0 S0 p g q (ys ++ le v 2) W' := by
  obtain ⟨⟨S, h2, h3, h4⟩, hu, hp⟩ := h
  refine (out_u16 h2 v ⟨by omega, by omega⟩ hb).mono ?_
  rintro e W' ⟨rfl, d⟩
  rw [putN_fits (fits_two h0 h1)] at d
  exact ⟨rfl, PolPut.next hu hp h3 h4 d⟩
/-- The same, with a box beside it that is new. -/
theorem PolPut.u16_beside {w0 W : World} {S0 : Nat → Prop} {p g : Nat} {q : Pol} {ys : List UInt8} (h : PolPut w0 S0 p g q ys W) (o : Obj) (v : Int) (h0 : 0 ≤ v) (h1 : v ≤ 60000) (hb : ys.length ≤ 1000000) :
    Calls Tryz.prog 40 #[.pointer (some ⟨p, 0, none⟩), .int .i64 v] (W.alloc o) fun e W' => e = .returned (.tuple #[]) ∧ PolPut w0 S0 p g q (ys ++ le v 2) W' ∧ ∀ i, W'.cell? ⟨W.heap.size, i, none⟩ = (W.alloc o).cell? ⟨W.heap.size, i, none⟩ := by
  have h' := h.below (upd_box o)
  obtain ⟨⟨S, h2, h3, h4⟩, -, -⟩ := h
  have hn : ¬ S W.heap.size := fun hk => Nat.lt_irrefl _ (h2.lt _ hk)
  obtain ⟨-, hu, hp⟩ := h'
  refine (out_u16 (h2.below (upd_box o)) v ⟨by omega, by omega⟩ hb).mono ?_
  rintro e W' ⟨rfl, d⟩
  rw [putN_fits (fits_two h0 h1)] at d
  refine ⟨rfl, PolPut.next hu hp h3 h4 d, fun i => ?_⟩
  obtain ⟨S', _, h6, _⟩ := d
  exact h6.cell (p := ⟨W.heap.size, i, none⟩) (by simp) hn
theorem PolPut.u8 {w0 W : World} {S0 : Nat → Prop} {p g : Nat} {q : Pol} {ys : List UInt8} (h : PolPut w0 S0 p g q ys W) (v : Int) (h0 : 0 ≤ v) (h1 : v < 256) (hb : ys.length ≤ 1000000) :
    Calls Tryz.prog 38 #[.pointer (some ⟨p, 0, none⟩), .int .i64 v] W fun e W' => e = .returned (.tuple #[]) ∧ PolPut w0 S0 p g q (ys ++ [u8of v]) W' := by
  obtain ⟨⟨S, h2, h3, h4⟩, hu, hp⟩ := h
  refine (out_u8 h2 v ⟨by omega, by omega⟩ hb).mono ?_
  rintro e W' ⟨rfl, d⟩
  rw [putN_fits (fits_one h0 h1), le_one h0 h1] at d
  exact ⟨rfl, PolPut.next hu hp h3 h4 d⟩

theorem index_fee (q : Pol) (k : Nat) (hk : k < 4) (W : World) : (Instr.index 59 (.agg #[.int .i64 (q.fee 0), .int .i64 (q.fee 1), .int .i64 (q.fee 2), .int .i64 (q.fee 3)]) (.int .i64 (k : Int))).run Tryz.prog W = .ok (.int .i64 (q.fee k)) W :=
  run_index_one (P := Tryz.prog) W 59 3 4 _ _ .i64 k _ hk Tryz.underlying59 Tryz.underlying3 rfl (by kernel_rfl) (by match k, hk with | 0, _ => rfl | 1, _ => rfl | 2, _ => rfl | 3, _ => rfl)
theorem index_grade (q : Pol) (k : Nat) (hk : k < 4) (W : World) : (Instr.index 62 (.agg #[.int .i64 (q.share 0), .int .i64 (q.dest 0), .int .i64 (q.share 1), .int .i64 (q.dest 1), .int .i64 (q.share 2), .int .i64 (q.dest 2), .int .i64 (q.share 3), .int .i64 (q.dest 3)]) (.int .i64 (k : Int))).run Tryz.prog W = .ok (.agg #[.int .i64 (q.share k), .int .i64 (q.dest k)]) W := by
  rw [run_index_agg (P := Tryz.prog) W 62 61 4 2 _ _ .i64 k hk Tryz.underlying62 Tryz.underlying61 rfl (by kernel_rfl)]
  match k, hk with | 0, _ => rfl | 1, _ => rfl | 2, _ => rfl | 3, _ => rfl

set_option maxHeartbeats 4000000 in
theorem tab_put {w : World} {p : Nat} {S : Nat → Prop} {ys : List UInt8} (h : OutAt w p S ys false) (q : Pol) (hq : RightP q) (hb : ys.length ≤ 900000) :
    Calls Tryz.prog 59 #[.pointer (some ⟨p, 0, none⟩), .agg q.arr] w fun e w' => e = .returned (.tuple #[]) ∧ OutDone w p S (ys ++ polBytes q) false w' := by
  have hp := pol_new w q 64
  have HQ : Hid (RightP q) := hq
  have hfl := Lib.hid q.flags_small
  have H0 : Aside (PolPut w S p w.heap.size q ys (w.alloc (.cells q.arr 64))) :=
    ⟨⟨S, h.below (upd_box _), fun hk => Nat.lt_irrefl _ (h.lt _ hk), fun k hk => .inl hk⟩, below_upd S (upd_box _), hp⟩
  clear hp hq h
  go_enter Tryz.func59, Tryz.ntmps59
  go_upto_region 1 with (fail)
  show Code.wp _ _ _ _ (w.alloc (.cells q.arr 64))
  generalize w.alloc (.cells q.arr 64) = w1 at *
  have c0 := H0.out.pol.win
  have HU : Aside _ := H0.out.u16 q.win HQ.out.win.1 (by have := HQ.out.win.2; omega) (by omega)
  go_wp2_with fail
  refine (Calls.mono HU.out ?_)
  rintro e w2 ⟨rfl, H2'⟩
  have H2 : Aside _ := H2'
  clear HU H2' c0 H0
  have hall := H2.out.pol.all
  simp only [Nat.zero_add] at hall
  obtain ⟨z0, z1, z2, z3, z4, z5, z6, z7, z8, z9, za, zb, zc, zd, ze, zf⟩ := hall
  go_wp2_with fail
  refine (Calls.mono (tab_kind q _) ?_)
  rintro e w3 ⟨rfl, b3⟩
  have H3 : Aside _ := H2.out.below b3
  have HU : Aside _ := H3.out.u8 q.flags hfl.out.1 (by have := hfl.out.2; omega) (by simp [le_length]; omega)
  clear z0 z1 z2 z3 z4 z5 z6 z7 z8 z9 za zb zc zd ze zf b3 H2
  go_wp2_with fail
  refine (Calls.mono HU.out ?_)
  rintro e w4 ⟨rfl, H4'⟩
  have H4 : Aside _ := H4'
  clear HU H4' H3
  have k0 := H4.out.pol.fee 0 (by decide)
  have k1 := H4.out.pol.fee 1 (by decide)
  have k2 := H4.out.pol.fee 2 (by decide)
  have k3 := H4.out.pol.fee 3 (by decide)
  simp only [Nat.add_zero] at k0
  obtain ⟨xs, hxs⟩ : ∃ xs, xs = ys ++ le q.win 2 ++ [u8of q.flags] := ⟨_, rfl⟩
  have hxl : xs.length ≤ 900003 := by rw [hxs]; simp [le_length]; omega
  have HX := Lib.hid hxs
  rw [← hxs] at H4
  clear hxs
  go_wp2
  go_loopw [18] (fun i wr => ∃ k : Nat, k ≤ 4 ∧ i = .int .i64 k ∧ Aside (PolPut w S p w.heap.size q (xs ++ feeBytes q k) wr)) (fun i _ => 4 - (intOf i).toNat)
  case atStart => exact ⟨0, Nat.zero_le _, rfl, by show PolPut _ _ _ _ _ _ _; rw [show feeBytes q 0 = [] from rfl, List.append_nil]; exact H4.out⟩
  case round =>
    clear H4 k0 k1 k2 k3
    obtain ⟨k, hk, rfl, HR⟩ := hrel
    by_cases hlt : k < 4
    · have hlt' : (k : Int) < 4 := by omega
      have HU : Aside _ := HR.out.u16 (q.fee k) (HQ.out.fee k hlt).1 (by have := (HQ.out.fee k hlt).2; omega) (by rw [List.length_append, feeBytes_length]; omega)
      rw [List.append_assoc] at HU
      have hU2 : Aside (Calls _ _ _ wr fun e W' => e = _ ∧ PolPut w S p w.heap.size q (xs ++ feeBytes q (k + 1)) W') := HU.out
      clear HU HR
      have hix := index_fee q k hlt
      go_wp2_with fail
      refine (Calls.mono hU2.out ?_)
      rintro e w5 ⟨rfl, H5'⟩
      have H5 : Aside _ := H5'
      clear hU2 H5' hix
      go_wp2
      go_roundw
      case rel => exact ⟨k + 1, by omega, by go_num, H5.out⟩
      case measure => simp [intOf]; omega
    · have hkE : k = 4 := by omega
      rw [hkE] at HR
      have hE : Hid (k = 4) := hkE
      have hlt' : ¬ (k : Int) < 4 := by omega
      clear hkE
      obtain ⟨xs2, hx2⟩ : ∃ xs2, xs2 = xs ++ feeBytes q 4 := ⟨_, rfl⟩
      have hxl2 : xs2.length ≤ 900020 := by rw [hx2]; simp [feeBytes_length]; omega
      have HX2 := Lib.hid hx2
      rw [← hx2] at HR
      clear hx2
      have k0 := HR.out.pol.share 0 (by decide)
      have k1 := HR.out.pol.share 1 (by decide)
      have k2 := HR.out.pol.share 2 (by decide)
      have k3 := HR.out.pol.share 3 (by decide)
      have j0 := HR.out.pol.dest 0 (by decide)
      have j1 := HR.out.pol.dest 1 (by decide)
      have j2 := HR.out.pol.dest 2 (by decide)
      have j3 := HR.out.pol.dest 3 (by decide)
      simp only [Nat.zero_mul, Nat.add_zero, Nat.reduceMul, Nat.reduceAdd] at k0 k1 k2 k3 j0 j1 j2 j3
      generalize wr = wo at *
      go_wp2
      go_loopw [27] (fun i wr => ∃ k : Nat, k ≤ 4 ∧ i = .int .i64 k ∧ Aside (PolPut w S p w.heap.size q (xs2 ++ gradeBytes q k) wr)) (fun i _ => 4 - (intOf i).toNat)
      case atStart => exact ⟨0, Nat.zero_le _, rfl, by show PolPut _ _ _ _ _ _ _; rw [show gradeBytes q 0 = [] from rfl, List.append_nil]; exact HR.out⟩
      case round =>
        clear HR k0 k1 k2 k3 j0 j1 j2 j3
        obtain ⟨k2, hk2, rfl, HR⟩ := hrel
        by_cases hlt2 : k2 < 4
        · have hlt2' : (k2 : Int) < 4 := by omega
          have hix := index_grade q k2 hlt2
          have hs := HQ.out.share k2 hlt2
          have hd := HQ.out.dest k2 hlt2
          obtain ⟨zs, hzs⟩ : ∃ zs, zs = xs2 ++ gradeBytes q k2 := ⟨_, rfl⟩
          have HZ : Hid (zs ++ (le (q.share k2) 2 ++ [u8of (q.dest k2)]) = xs2 ++ gradeBytes q (k2 + 1)) := by
            show _ = _
            rw [hzs, List.append_assoc]; rfl
          have hzl : zs.length ≤ 900050 := by rw [hzs]; simp [gradeBytes_length]; omega
          rw [← hzs] at HR
          clear hzs
          generalize q.share k2 = sv at *
          generalize q.dest k2 = dv at *
          have HU : Aside _ := HR.out.u16_beside (.cells #[.int .i64 sv, .int .i64 dv] 61) sv hs.1 (by omega) (by omega)
          go_upto_region 11 with (fail)
          have g1 : (wr.alloc (.cells #[.int .i64 sv, .int .i64 dv] 61)).cell? ⟨wr.heap.size, 0, none⟩ = some (.int .i64 sv) := by simp
          have g2 : (wr.alloc (.cells #[.int .i64 sv, .int .i64 dv] 61)).cell? ⟨wr.heap.size, 1, none⟩ = some (.int .i64 dv) := by simp
          show Code.wp _ _ _ _ (wr.alloc (.cells #[.int .i64 sv, .int .i64 dv] 61))
          clear HR
          generalize wr.alloc (.cells #[.int .i64 sv, .int .i64 dv] 61) = w6 at *
          generalize wr.heap.size = gb at *
          go_wp2_with fail
          refine (Calls.mono HU.out ?_)
          rintro e w7 ⟨rfl, H7', hcell⟩
          have H7 : Aside _ := H7'
          have g3 := (hcell 1).trans g2
          have HU2 : Aside _ := H7.out.u8 dv hd.1 (by omega) (by simp [le_length]; omega)
          clear H7' H7 hcell HU g1 g2
          go_wp2_with fail
          refine (Calls.mono HU2.out ?_)
          rintro e w8 ⟨rfl, H8'⟩
          rw [List.append_assoc, HZ.out] at H8'
          have H8 : Aside _ := H8'
          clear H8' HU2 g3 hix
          go_wp2
          go_roundw
          case rel => exact ⟨k2 + 1, by omega, by go_num, H8.out⟩
          case measure => simp [intOf]; omega
        · have hk2E : k2 = 4 := by omega
          have hlt2' : ¬ (k2 : Int) < 4 := by omega
          rw [hk2E] at HR
          clear hk2E
          go_wp2
          go_end0
          refine ⟨rfl, ?_⟩
          obtain ⟨⟨S', d1, d2, d3⟩, d4, d5⟩ := HR.out
          have e : xs2 ++ gradeBytes q 4 = ys ++ polBytes q := by rw [HX2.out, HX.out, polBytes]; simp only [List.append_assoc]
          rw [e] at d1
          exact ⟨S', d1, d4, d3⟩

theorem out_fresh (w : World) : OutAt (w.alloc (.cells #[.slice none 0 0, .bool false] 47)) w.heap.size (fun k => k = w.heap.size) [] false :=
  ⟨fun x => (by cases x), rfl, fun k hk => (by subst hk; simp), ⟨_, heap_alloc_new w _, rfl⟩, ⟨none, 0, (by simp), World.ownsRow_nil _ _ _ _, fun g hg => (by simp [Value.ownBlock] at hg)⟩, (by simp)⟩

/-- An Out of the call's own, in the middle of Encode. -/
def OutOwn (w0 : World) (p : Nat) (ys : List UInt8) (W : World) : Prop := ∃ S, OutAt W p S ys false ∧ (∀ k, S k → w0.heap.size ≤ k) ∧ Below w0.heap.size w0 W
theorem OutOwn.step {w0 W W' : World} {S : Nat → Prop} {p : Nat} {zs : List UInt8} {bad : Bool} (hs : ∀ k, S k → w0.heap.size ≤ k) (hb : Below w0.heap.size w0 W) (d : OutDone W p S zs bad W') (hbad : bad = false) : OutOwn w0 p zs W' := by
  subst hbad
  obtain ⟨S', h1, h2, h3⟩ := d
  exact ⟨S', h1, fun k hk => (h3 k hk).elim (hs k) (fun x => Nat.le_trans hb.size x), hb.trans (upd_below h2 hb.size hs)⟩
theorem OutOwn.below {w0 W W' : World} {p : Nat} {ys : List UInt8} (h : OutOwn w0 p ys W) (hb : Below W.heap.size W W') : OutOwn w0 p ys W' := by
  obtain ⟨S, h1, h2, h3⟩ := h
  exact ⟨S, h1.below hb, h2, h3.trans (hb.mono h3.size)⟩
theorem OutOwn.u16 {w0 W : World} {p : Nat} {ys : List UInt8} (h : OutOwn w0 p ys W) (v : Int) (h0 : 0 ≤ v) (h1 : v ≤ 60000) (hb : ys.length ≤ 1000000) :
    Calls Tryz.prog 40 #[.pointer (some ⟨p, 0, none⟩), .int .i64 v] W fun e W' => e = .returned (.tuple #[]) ∧ OutOwn w0 p (ys ++ le v 2) W' := by
  obtain ⟨S, h2, h3, h4⟩ := h
  refine (out_u16 h2 v ⟨by omega, by omega⟩ hb).mono ?_
  rintro e W' ⟨rfl, d⟩
  rw [putN_fits (fits_two h0 h1)] at d
  exact ⟨rfl, OutOwn.step h3 h4 d rfl⟩
theorem OutOwn.put {w0 W : World} {p : Nat} {ys : List UInt8} (h : OutOwn w0 p ys W) (q : Pol) (hq : RightP q) (hb : ys.length ≤ 900000) :
    Calls Tryz.prog 59 #[.pointer (some ⟨p, 0, none⟩), .agg q.arr] W fun e W' => e = .returned (.tuple #[]) ∧ OutOwn w0 p (ys ++ polBytes q) W' := by
  obtain ⟨S, h2, h3, h4⟩ := h
  refine (tab_put h2 q hq hb).mono ?_
  rintro e W' ⟨rfl, d⟩
  exact ⟨rfl, OutOwn.step h3 h4 d rfl⟩
theorem OutOwn.endOut {w0 W : World} {p : Nat} {ys : List UInt8} (h : OutOwn w0 p ys W) (m : Nat) (hm : ys.length = m) (hb : m ≤ 900000) :
    Calls Tryz.prog 16 #[.pointer (some ⟨p, 0, none⟩)] W fun e W' => (∃ a c, e = .returned (.tuple #[.slice a m c, .int .i64 0]) ∧ IsBytes W' a ys ∧ m ≤ c ∧ c ≤ maxLen ∧ (a = none → c = 0) ∧ ∀ x, a = some x → w0.heap.size ≤ x.block) ∧ Below w0.heap.size w0 W' := by
  obtain ⟨S, h2, h3, h4⟩ := h
  subst hm
  refine (end_in h2 (by omega)).mono ?_
  rintro e W' ⟨⟨a, c, rfl, hr⟩, hb2⟩
  obtain ⟨g1, -, g3, g4, g5⟩ := bytes_of_row hr
  exact ⟨⟨a, c, rfl, g1, g3, g4, g5, fun x hx => by subst hx; exact Nat.le_trans h4.size (own_ge hr rfl)⟩, h4.trans (hb2.mono h4.size)⟩

set_option maxHeartbeats 4000000 in
theorem table_encode_new (a : Option Addr) (ps : List Pol) (n c : Nat) (w : World) (hn : ps.length = n) (hp : PolsAt w a ps) (hm : n ≤ maxLen) :
    Calls Tryz.prog 36 #[.slice a n c] w fun e w' => (∃ (a' : Option Addr) (m c' : Nat) (ys : List UInt8), e = .returned (.tuple #[.slice a' m c', .int .i64 (if rightT ps = true then 0 else 1)]) ∧ ys.length = m ∧ IsBytes w' a' ys ∧ (a' = none → c' = 0) ∧ m ≤ c' ∧ c' ≤ maxLen ∧ (ys = if rightT ps = true then tableBytes ps else []) ∧ ∀ x, a' = some x → w.heap.size ≤ x.block) ∧ Below w.heap.size w w' := by
  have HR0 : Aside _ := table_right a ps n c w hn hp hm
  unfold maxLen at hm
  cases hr : rightT ps with
  | false =>
    have HR1 := HR0.out
    rw [hr] at HR1
    have HR : Aside _ := HR1
    clear HR0 HR1 hn hp hr
    go_enter Tryz.func36, Tryz.ntmps36
    go_wp2_with fail
    refine (Calls.mono HR.out ?_)
    rintro e w1 ⟨rfl, b1⟩
    go_wp2
    go_ret2
    exact ⟨⟨none, 0, 0, rfl, [], rfl, .inl rfl, fun _ => rfl, Nat.le_refl _, by decide, rfl, fun x hx => by cases hx⟩, b1⟩
  | true =>
    have HR1 := HR0.out
    rw [hr] at HR1
    have HR : Aside _ := HR1
    have hn16 := (rightT_facts hr).1
    have HRP : Hid (∀ q ∈ ps, RightP q) := fun q hq => (by
      unfold rightT at hr
      rw [Bool.and_eq_true, List.all_eq_true] at hr
      exact rightP_facts (hr.2 q hq))
    have HN := Lib.hid hn
    have hn16' : n ≤ 16 := by omega
    clear HR0 HR1 hn16 hn hr
    go_enter Tryz.func36, Tryz.ntmps36
    go_wp2_with fail
    refine (Calls.mono HR.out ?_)
    rintro e w1 ⟨rfl, b1⟩
    clear HR
    have H1 : Aside (OutOwn w w1.heap.size [] (w1.alloc (.cells #[.slice none 0 0, .bool false] 47))) := ⟨_, out_fresh w1, fun k hk => (by have h9 : k = w1.heap.size := hk; have := b1.size; omega), b1.alloc b1.size _⟩
    clear b1
    go_upto_region 4 with (fail)
    show Code.wp _ _ _ _ (w1.alloc (.cells #[.slice none 0 0, .bool false] 47))
    generalize w1.alloc (.cells #[.slice none 0 0, .bool false] 47) = w2 at *
    generalize w1.heap.size = p at *
    have HU : Aside _ := H1.out.u16 (n : Int) (by omega) (by omega) (by simp)
    clear H1
    go_wp2_with fail
    refine (Calls.mono HU.out ?_)
    rintro e w3 ⟨rfl, H3'⟩
    rw [List.nil_append] at H3'
    have H3 : Aside _ := H3'
    clear HU H3'
    go_wp2
    go_loopw [15] (fun i wr => ∃ k : Nat, k ≤ n ∧ i = .int .i64 k ∧ Aside (OutOwn w p (le (n : Int) 2 ++ polsBytes (ps.take k)) wr)) (fun i _ => n - (intOf i).toNat)
    case atStart => exact ⟨0, Nat.zero_le _, rfl, by show OutOwn _ _ _ _; rw [show polsBytes (ps.take 0) = [] from rfl, List.append_nil]; exact H3.out⟩
    case round =>
      clear H3
      obtain ⟨k, hk, rfl, HO⟩ := hrel
      by_cases hlt : k < n
      · have hkn : (k : Int) < (n : Int) := by omega
        rcases hp with rfl | ⟨b, off, rfl, hb, hc⟩
        · have := HN.out; simp at this; omega
        have hlk : k < ps.length := by rw [HN.out]; exact hlt
        have hpk := (hc k hlk).below (by obtain ⟨_, _, _, h4⟩ := HO.out; exact h4) hb
        obtain ⟨z0, z1, z2, z3, z4, z5, z6, z7, z8, z9, za, zb, zc, zd, ze, zf⟩ := hpk.all
        have HQ := Lib.hid (HRP.out ps[k] (List.getElem_mem hlk))
        have HT : Hid (le (n : Int) 2 ++ polsBytes (ps.take k) ++ polBytes ps[k] = le (n : Int) 2 ++ polsBytes (ps.take (k + 1))) := by
          show _ = _
          rw [List.append_assoc, polsBytes_take ps k hlk]
        have hxl : (le (n : Int) 2 ++ polsBytes (ps.take k)).length ≤ 1000 := by
          rw [List.length_append, polsBytes_length, le_length, List.length_take]; omega
        clear hpk hc
        generalize ps[k] = q at *
        generalize le (n : Int) 2 ++ polsBytes (ps.take k) = xs at *
        go_upto_region 8 with (fail)
        have HPN : PolAt (wr.alloc (.cells q.arr 64)) wr.heap.size 0 q := pol_new wr q _
        have HO2 : Aside _ := HO.out.below (upd_box (w := wr) (.cells q.arr 64))
        show Code.wp _ _ _ _ (wr.alloc (.cells q.arr 64))
        clear z0 z1 z2 z3 z4 z5 z6 z7 z8 z9 za zb zc zd ze zf HO
        generalize wr.alloc (.cells q.arr 64) = w5 at *
        generalize wr.heap.size = g at *
        have hall := HPN.all
        simp only [Nat.zero_add] at hall
        obtain ⟨z0, z1, z2, z3, z4, z5, z6, z7, z8, z9, za, zb, zc, zd, ze, zf⟩ := hall
        have HPu : Aside _ := OutOwn.put HO2.out q HQ.out (by omega)
        clear HPN HO2
        go_wp2_with fail
        refine (Calls.mono HPu.out ?_)
        rintro e w6 ⟨rfl, H6'⟩
        rw [HT.out] at H6'
        have H6 : Aside _ := H6'
        clear H6' HPu z0 z1 z2 z3 z4 z5 z6 z7 z8 z9 za zb zc zd ze zf
        go_wp2
        go_roundw
        case rel => exact ⟨k + 1, by omega, by go_num, H6.out⟩
        case measure => simp [intOf]; omega
      · obtain rfl : k = n := by omega
        obtain ⟨m, hm2⟩ : ∃ m, (tableBytes ps).length = m := ⟨_, rfl⟩
        have HO2 := HO.out
        rw [List.take_of_length_le (by rw [HN.out]; exact Nat.le_refl _)] at HO2
        have e : le (k : Int) 2 ++ polsBytes ps = tableBytes ps := by unfold tableBytes; rw [HN.out]
        rw [e] at HO2
        have HE : Aside _ := HO2.endOut m hm2 (by rw [← hm2, tableBytes_length]; have := HN.out; omega)
        have HM2 := Lib.hid hm2
        clear HO HO2 e hm2
        go_wp2_with fail
        refine (Calls.mono HE.out ?_)
        rintro e w6 ⟨⟨a', c', rfl, g1, g2, g3, g4, g5⟩, b6⟩
        go_wp2
        go_ret2
        exact ⟨⟨a', m, c', rfl, tableBytes ps, HM2.out, g1, g4, g2, g3, rfl, g5⟩, b6⟩
theorem table_encode (a : Option Addr) (ps : List Pol) (n c : Nat) (w : World) (hn : ps.length = n) (hp : PolsAt w a ps) (hm : n ≤ maxLen) :
    Calls Tryz.prog 36 #[.slice a n c] w fun e w' => (∃ (a' : Option Addr) (m c' : Nat) (ys : List UInt8), e = .returned (.tuple #[.slice a' m c', .int .i64 (if rightT ps = true then 0 else 1)]) ∧ ys.length = m ∧ IsBytes w' a' ys ∧ (a' = none → c' = 0) ∧ m ≤ c' ∧ c' ≤ maxLen ∧ ys = if rightT ps = true then tableBytes ps else []) ∧ Below w.heap.size w w' :=
  (table_encode_new a ps n c w hn hp hm).mono fun _ _ ⟨⟨a', m, c', ys, h1, h2, h3, h4, h5, h6, h7, _⟩, hb⟩ => ⟨⟨a', m, c', ys, h1, h2, h3, h4, h5, h6, h7⟩, hb⟩
end Go.Proofs.YtbiompjhenkieaaGreat
