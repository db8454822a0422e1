/-
  Package split, share: the shares by weights that are all together above nought. Conditions: those of the theorems.
-/
import Derived.Test.YtadaaoljpeojcaaSortI
import Derived.Test.YtadaaoljpeojcaaShares
import Derived.Test.YtadaaoljpeojcaaMoneyPart
namespace Go.Proofs.Ytadaaoljpeojcaa
open Go.RowKit Go.Sort
set_option maxRecDepth 100000

def upd (f : Nat → Int) (k : Nat) (x : Int) (t : Nat) : Int := if t = k then x else f t
/-- Two new rows. -/
structure Rows2 (w : World) (S R n : Nat) (f g : Nat → Int) (W : World) : Prop where
  below : Below w.heap.size w W
  newS : w.heap.size ≤ S
  newR : w.heap.size ≤ R
  ne : S ≠ R
  ltS : S < W.heap.size
  ltR : R < W.heap.size
  cs : ∀ t, t < n → W.cell? ⟨S, t, none⟩ = some (.int .i64 (f t))
  fs : ∀ t, t < n → W.frozen? ⟨S, t, none⟩ = false
  cr : ∀ t, t < n → W.cell? ⟨R, t, none⟩ = some (.int .i64 (g t))
  fr : ∀ t, t < n → W.frozen? ⟨R, t, none⟩ = false
theorem Rows2.after {w W W' : World} {S R n : Nat} {f g : Nat → Int} (h : Rows2 w S R n f g W) (hb : Below W.heap.size W W') : Rows2 w S R n f g W' :=
  ⟨h.below.trans (hb.mono h.below.size), h.newS, h.newR, h.ne, Nat.lt_of_lt_of_le h.ltS hb.size, Nat.lt_of_lt_of_le h.ltR hb.size,
    fun t ht => (hb.cell (p := ⟨S, t, none⟩) h.ltS).trans (h.cs t ht), fun t ht => (hb.frozen (p := ⟨S, t, none⟩) h.ltS).trans (h.fs t ht),
    fun t ht => (hb.cell (p := ⟨R, t, none⟩) h.ltR).trans (h.cr t ht), fun t ht => (hb.frozen (p := ⟨R, t, none⟩) h.ltR).trans (h.fr t ht)⟩
theorem Rows2.congr {w W : World} {S R n : Nat} {f g f' g' : Nat → Int} (h : Rows2 w S R n f g W) (hf : ∀ t, t < n → f t = f' t) (hg : ∀ t, t < n → g t = g' t) : Rows2 w S R n f' g' W :=
  ⟨h.below, h.newS, h.newR, h.ne, h.ltS, h.ltR, fun t ht => by rw [← hf t ht]; exact h.cs t ht, h.fs, fun t ht => by rw [← hg t ht]; exact h.cr t ht, h.fr⟩
theorem Rows2.setS {w W : World} {S R n : Nat} {f g : Nat → Int} (h : Rows2 w S R n f g W) (k : Nat) (hk : k < n) (x : Int) : Rows2 w S R n (upd f k x) g (W.setCell ⟨S, k, none⟩ (.int .i64 x)) :=
  ⟨h.below.setCell h.newS _, h.newS, h.newR, h.ne, by simpa using h.ltS, by simpa using h.ltR,
    fun t ht => by
      unfold upd
      by_cases e : t = k
      · subst e; rw [if_pos rfl]; exact World.cell?_setCell_same _ _ _ (h.cs t ht)
      · rw [if_neg e, World.cell?_setCell_other _ _ _ _ (by intro e'; simp only [Addr.mk.injEq] at e'; omega)]; exact h.cs t ht,
    fun t ht => by rw [World.frozen?_setCell]; exact h.fs t ht,
    fun t ht => by rw [World.cell?_setCell_other _ _ _ _ (by intro e'; simp only [Addr.mk.injEq] at e'; exact h.ne (by omega))]; exact h.cr t ht,
    fun t ht => by rw [World.frozen?_setCell]; exact h.fr t ht⟩
theorem Rows2.setR {w W : World} {S R n : Nat} {f g : Nat → Int} (h : Rows2 w S R n f g W) (k : Nat) (hk : k < n) (x : Int) : Rows2 w S R n f (upd g k x) (W.setCell ⟨R, k, none⟩ (.int .i64 x)) :=
  ⟨h.below.setCell h.newR _, h.newS, h.newR, h.ne, by simpa using h.ltS, by simpa using h.ltR,
    fun t ht => by rw [World.cell?_setCell_other _ _ _ _ (by intro e'; simp only [Addr.mk.injEq] at e'; exact h.ne (by omega))]; exact h.cs t ht,
    fun t ht => by rw [World.frozen?_setCell]; exact h.fs t ht,
    fun t ht => by
      unfold upd
      by_cases e : t = k
      · subst e; rw [if_pos rfl]; exact World.cell?_setCell_same _ _ _ (h.cr t ht)
      · rw [if_neg e, World.cell?_setCell_other _ _ _ _ (by intro e'; simp only [Addr.mk.injEq] at e'; omega)]; exact h.cr t ht,
    fun t ht => by rw [World.frozen?_setCell]; exact h.fr t ht⟩

def Shared (s : Int) (ws : List Int) (a : Int) (w : World) (e : Ending) (w' : World) : Prop :=
  ∃ S : Nat, e = .returned (.slice (some ⟨S, 0, none⟩) ws.length ws.length) ∧ w.heap.size ≤ S ∧ S < w'.heap.size ∧ Below w.heap.size w w' ∧ ∀ t, t < ws.length → w'.cell? ⟨S, t, none⟩ = some (.int .i64 (shareAt s ws a t))

/-- What stands in the rows behind k rounds. -/
def upto (f : Nat → Int) (k t : Nat) : Int := if t < k then f t else 0

set_option maxHeartbeats 2000000 in
theorem split_share (b off n c : Nat) (s a : Int) (ws : List Int) (w : World) (H : Weights s ws a) (hn : ws.length = n + 1) (hm : n + 1 ≤ 1000) (hb : b < w.heap.size) (hx : ∀ i (h : i < ws.length), w.cell? ⟨b, off + i, none⟩ = some (.int .i64 ws[i])) :
    Calls Try.prog 17 #[.int .i64 s, .slice (some ⟨b, off, none⟩) (n + 1 : Nat) c, .int .i64 a] w fun e w' => Shared s ws a w e w' := by
  have hmk := fun W => make_run 22 2 Try.underlying22 (by kernel_rfl) (n + 1) (by omega) W
  obtain ⟨N, hN⟩ : ∃ N, N = n + 1 := ⟨_, rfl⟩
  rw [← hN] at hmk
  rw [← hN]
  have HX : Aside (∀ i (h : i < ws.length), w.cell? ⟨b, off + i, none⟩ = some (.int .i64 ws[i])) := hx
  have HL := Lib.hid hn
  have HN := Lib.hid hN
  have HH : Aside (Weights s ws a) := H
  have hN0 : 0 < N := by omega
  have hN1 : N ≤ 1000 := by omega
  have s0 := H.s0
  have s1 := H.s1
  have a0 := H.a0
  have a1 := H.a1
  clear hx hn hN hm H
  go_enter Try.func17, Try.ntmps17
  go_wp2
  -- the worlds: two new rows
  obtain ⟨S, hS⟩ : ∃ q, q = w.heap.size := ⟨_, rfl⟩
  obtain ⟨R, hR⟩ : ∃ q, q = w.heap.size + 1 := ⟨_, rfl⟩
  obtain ⟨w2, hw2⟩ : ∃ w2, w2 = (w.alloc (.cells (Array.replicate N (.int .i64 0)) 2)).alloc (.cells (Array.replicate N (.int .i64 0)) 2) := ⟨_, rfl⟩
  have r2 : Rows2 w S R N (fun _ => 0) (fun _ => 0) w2 := by
    rw [hw2, hS, hR]
    refine ⟨((Below.refl _ _).alloc (Nat.le_refl _) _).alloc (by simp) _, Nat.le_refl _, by omega, by omega, by simp; omega, by simp, fun t ht => ?_, fun t ht => ?_, fun t ht => ?_, fun t ht => ?_⟩
    · simp [ht]
    · simp
    · simp [ht]
    · simp
  rw [← hw2, ← hR, ← hS]
  have R2 : Aside (Rows2 w S R N (fun _ => 0) (fun _ => 0) w2) := r2
  have HS := Lib.hid hS
  have HR := Lib.hid hR
  have hSR : ¬ S = R := by omega
  clear hmk r2 hw2 hS hR
  go_loopw [9, 23] (fun vl vk wr => ∃ (k : Nat) (L : Int), vl = .int .i64 L ∧ vk = .int .i64 k ∧ k ≤ N ∧ Hid (L = s - sumTo (quo s ws a) k) ∧ Aside (Rows2 w S R N (upto (quo s ws a) k) (upto (rst s ws a) k) wr)) (fun _ vk _ => N - (intOf vk).toNat)
  case atStart => exact ⟨0, s, rfl, rfl, Nat.zero_le _, by show _ = _; rw [sumTo]; omega, R2.out⟩
  case round =>
    clear R2
    obtain ⟨k, L, rfl, rfl, hk, HLE, RK⟩ := hrel
    by_cases hlt : k < N
    · have hlt' : (k : Int) < (N : Int) := by omega
      have hl : k < ws.length := by rw [HL.out, ← HN.out]; exact hlt
      have hcw : wr.cell? ⟨b, off + k, none⟩ = some (.int .i64 (wt ws k)) := by
        rw [RK.out.below.cell (p := ⟨b, off + k, none⟩) hb, HX.out k hl, wt]
        simp [List.getD, hl]
      have hw0 := HH.out.w0 k
      have hwa := HH.out.wa k
      have hq := HH.out.quo k
      have hr := HH.out.rst k
      have hL1 : -1125899906842624000 ≤ L ∧ L ≤ 1125899906842624 := by
        have h1 := sumTo_nonneg (f := quo s ws a) k (fun t _ => (HH.out.quo t).1)
        have h2 := sumTo_le (f := quo s ws a) (b := 1125899906842624) k (fun t _ => by have := (HH.out.quo t).2; omega)
        have := HLE.out
        omega
      obtain ⟨hL1, hL2⟩ := hL1
      have hRK := RK.out
      obtain ⟨x, hx⟩ : ∃ x, x = wt ws k := ⟨_, rfl⟩
      obtain ⟨q, hq1⟩ : ∃ q, q = quo s ws a k := ⟨_, rfl⟩
      obtain ⟨r, hr1⟩ : ∃ r, r = rst s ws a k := ⟨_, rfl⟩
      have hpv : partV s x a = q ∧ partE s x a = 0 := by
        have := part_good (a := s) (n := x) (o := a) ⟨by omega, by omega⟩ ⟨by omega, by omega, by omega⟩
        rw [this.1, this.2, hq1, hx]
        exact ⟨rfl, rfl⟩
      have hrv : wrap64 (wrap64 (s * x) - wrap64 (q * a)) = r := by
        have e : r = s * x - q * a := by rw [hr1, rst, hx, hq1]
        rw [← hr1] at hr
        have ha1 := HH.out.a1
        unfold wrap64
        generalize s * x = A at *
        generalize q * a = B at *
        omega
      have hP := cents_part s x a ⟨by omega, by omega⟩ ⟨by omega, by omega⟩ wr
      rw [hpv.1, hpv.2] at hP
      rw [← hx] at hcw
      have HXW := Lib.hid hx
      have HQ := Lib.hid hq1
      have HRR := Lib.hid hr1
      have HRV := Lib.hid hrv
      rw [← hq1] at hq
      rw [← hr1] at hr
      obtain ⟨q0, q1⟩ := hq
      obtain ⟨r0, r1⟩ := hr
      clear hpv hx hq1 hr1 hrv hRK hw0 hwa
      go_wp2_with fail
      refine hP.mono ?_
      rintro e w1 ⟨rfl, b1⟩
      have R1 : Aside (Rows2 w S R N (upto (quo s ws a) k) (upto (rst s ws a) k) w1) := RK.out.after b1
      have c1 := R1.out.cs k hlt
      have f1 := R1.out.fs k hlt
      have c2 := R1.out.cr k hlt
      have f2 := R1.out.fr k hlt
      clear RK hcw hP b1
      go_wp2
      go_roundw
      case rel =>
        refine ⟨k + 1, L - q, rfl, by go_num, hlt, ?_, ?_⟩
        · show _ = _
          rw [sumTo, HLE.out, HQ.out]; omega
        · rw [HRV.out]
          refine ((R1.out.setS k hlt q).setR k hlt r).congr (fun t ht => ?_) (fun t ht => ?_)
          · unfold upd upto
            by_cases e : t = k
            · subst e; rw [if_pos rfl, if_pos (by omega)]; exact HQ.out
            · rw [if_neg e]
              by_cases e2 : t < k
              · rw [if_pos e2, if_pos (by omega)]
              · rw [if_neg e2, if_neg (by omega)]
          · unfold upd upto
            by_cases e : t = k
            · subst e; rw [if_pos rfl, if_pos (by omega)]; exact HRR.out
            · rw [if_neg e]
              by_cases e2 : t < k
              · rw [if_pos e2, if_pos (by omega)]
              · rw [if_neg e2, if_neg (by omega)]
      case measure => simp [intOf]; omega
    · obtain rfl : k = N := by omega
      have hkn := HN.out
      have hln := HL.out
      have hleft := HH.out.left
      have hLv : left s ws a = L := by rw [HLE.out, left, hln, hkn]
      rw [hLv] at hleft
      obtain ⟨L', rfl⟩ := Int.eq_ofNat_of_zero_le hleft.1
      have hLN : L' < k := by omega
      have hLN' : (L' : Int) < (k : Int) := by omega
      have hLN2 : (L' : Int) ≤ (k : Int) := by omega
      have RK2 := RK.out.congr (f' := quo s ws a) (g' := rst s ws a) (fun t ht => by unfold upto; rw [if_pos ht]) (fun t ht => by unfold upto; rw [if_pos ht])
      have R1 : Aside (Rows2 w S R k (quo s ws a) (rst s ws a) wr) := RK2
      -- the rests as a list
      obtain ⟨rs, hrs⟩ : ∃ rs, rs = (List.range k).map (rst s ws a) := ⟨_, rfl⟩
      have hgl : rs.length = n + 1 := by rw [hrs]; simp; omega
      have hG := split_greatestFirst R 0 n k rs wr hgl (by omega) RK2.ltR (fun i h => by
        rw [Nat.zero_add, RK2.cr i (by omega)]
        simp [hrs])
      rw [← hkn] at hG
      have HLV := Lib.hid hLv
      have HRS := Lib.hid hrs
      clear RK RK2 hgl hrs hLv hleft hkn hln HLE
      go_wp2_with fail
      refine hG.mono ?_
      rintro e w1 hend
      obtain ⟨blk, d, rfl, hnew, hlt1, b1, hp, hcd⟩ := hend
      have hIO := hp.inOrder
      obtain ⟨ps, hps⟩ : ∃ ps, ps = d.toList.map (·.val) := ⟨_, rfl⟩
      rw [← hps] at hIO
      have hkn := HN.out
      have hr0 : ∀ i, rs.getD i 0 = if i < k then rst s ws a i else 0 := fun i => by
        rw [HRS.out]
        by_cases hi : i < k
        · simp [List.getD, hi]
        · simp [List.getD, hi]
      have hpl : ps.length = k := by rw [hIO.length, hkn]
      have hcells : ∀ t, t < k → w1.cell? ⟨blk, t, none⟩ = some (.int .i64 ((ps.getD t 0 : Nat) : Int)) := fun t ht => by
        rw [hcd t (by omega), hps]
        have hsz := hp.size
        rw [getElem!_pos d t (by omega)]
        simp [List.getD, hsz, show t < n + 1 by omega]
      have RW1 : Aside (Rows2 w S R k (quo s ws a) (rst s ws a) w1) := R1.out.after b1
      have hSb : ¬ S = blk := by have := R1.out.ltS; omega
      have IO : Aside (InOrder (fun i => rs.getD i 0) (n + 1) ps) := hIO
      have HPL := Lib.hid hpl
      have CS : Aside (∀ t, t < k → w1.cell? ⟨blk, t, none⟩ = some (.int .i64 ((ps.getD t 0 : Nat) : Int))) := hcells
      have HR0 : Aside (∀ i, rs.getD i 0 = if i < k then rst s ws a i else 0) := hr0
      rw [← hkn]
      clear hG hp hcd hIO hps hpl hcells hr0 b1 R1 hkn hnew hlt1
      go_wp2
      go_loopw [63] (fun vk wr => ∃ (j : Nat), vk = .int .i64 j ∧ j ≤ L' ∧ Aside (Rows2 w S R k (fun t => quo s ws a t + one ps j t) (rst s ws a) wr) ∧ Aside (∀ t, t < k → wr.cell? ⟨blk, t, none⟩ = some (.int .i64 ((ps.getD t 0 : Nat) : Int)))) (fun vk _ => L' - (intOf vk).toNat)
      case atStart => exact ⟨0, rfl, Nat.zero_le _, RW1.out.congr (fun t _ => by rw [one_zero, Int.add_zero]) (fun _ _ => rfl), CS.out⟩
      case round =>
        clear RW1 CS
        obtain ⟨j, rfl, hj, RJ, CJ⟩ := hrel
        by_cases hlt2 : j < L'
        · have hlt3 : (j : Int) < (L' : Int) := by omega
          have hjl : j < ps.length := by rw [HPL.out]; omega
          obtain ⟨q, hq⟩ : ∃ q, q = ps[j] := ⟨_, rfl⟩
          have hqk : q < k := by rw [hq, HN.out]; exact IO.out.lt j hjl
          have hqk' : (q : Int) < (k : Int) := by omega
          have c0 := CJ.out j (by omega)
          rw [List.getD, List.getElem?_eq_getElem hjl, Option.getD_some, ← hq] at c0
          have c1 := RJ.out.cs q hqk
          have f1 := RJ.out.fs q hqk
          obtain ⟨y, hy⟩ : ∃ y, y = quo s ws a q + one ps j q := ⟨_, rfl⟩
          have hyb : 0 ≤ y ∧ y ≤ 1125899906842625 := by
            have h1 := HH.out.quo q
            have h2 := one_bounds ps j q
            omega
          obtain ⟨hy1, hy2⟩ := hyb
          rw [← hy] at c1
          have HY := Lib.hid hy
          have HQ := Lib.hid hq
          clear hy hq
          go_wp2
          go_roundw
          case rel =>
            refine ⟨j + 1, by go_num, hlt2, (RJ.out.setS q hqk (y + 1)).congr (fun t ht => ?_) (fun _ _ => rfl), ?_⟩
            · rw [one_next hjl IO.out.nodup t]
              unfold upd
              by_cases e : t = q
              · rw [if_pos e, if_pos (by rw [e]; exact HQ.out), HY.out, e]; omega
              · rw [if_neg e, if_neg (by rw [← HQ.out]; exact e)]
            · intro t ht
              rw [World.cell?_setCell_other _ _ _ _ (by intro e'; simp only [Addr.mk.injEq] at e'; exact hSb (by omega))]
              exact CJ.out t ht
          case measure => simp [intOf]; omega
        · obtain rfl : j = L' := by omega
          go_wp2
          go_ret
          have hkn := HN.out
          have hln := HL.out
          refine ⟨S, by rw [hln, hkn]; rfl, ?_, RJ.out.ltS, RJ.out.below, fun t ht => ?_⟩
          · rw [HS.out]; exact Nat.le_refl _
          · rw [RJ.out.cs t (by omega)]
            have h1 := (IO.out.one (L := j) (by omega) t (by omega))
            rw [h1]
            unfold shareAt
            have e : rank (fun i => rs.getD i 0) (n + 1) t = rank (rst s ws a) ws.length t := by
              rw [hln]
              unfold rank
              refine List.countP_congr fun x hx => ?_
              have hx' := List.mem_range.1 hx
              have e1 : rs.getD t 0 = rst s ws a t := by rw [HR0.out t, if_pos (by omega)]
              have e2 : rs.getD x 0 = rst s ws a x := by rw [HR0.out x, if_pos (by omega)]
              show decide (rs.getD t 0 < rs.getD x 0 ∨ rs.getD x 0 = rs.getD t 0 ∧ x < t) = true ↔ _
              rw [e1, e2]
              rfl
            rw [e, HLV.out]
            congr 3
            by_cases h : rank (rst s ws a) ws.length t < j
            · rw [if_pos h, if_pos (by omega)]
            · rw [if_neg h, if_neg (by omega)]
end Go.Proofs.Ytadaaoljpeojcaa
