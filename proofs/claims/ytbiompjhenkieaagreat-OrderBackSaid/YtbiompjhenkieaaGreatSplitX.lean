/-
  Package split, share: the shares by weights that are all together above nought. Conditions: those of the theorems. The library's Repeat, of one number. Conditions: those of the theorems. Package split: rightWeights, Shares, Each: whole. Conditions: those of the theorems. Package split: Shares, Each. Conditions: those of the theorems. The laws of layer 6, what they share: awake, Same. Conditions: those of the theorems. What follows of shares, plain: they come to the sum; of the same weights the first ones haven't less. No program; conditions: those of each theorem.
-/
import Derived.Test.YtbiompjhenkieaaGreatSortY
import Derived.Test.YtbiompjhenkieaaGreatMoneyX
import Derived.Laws.CopyOwn
namespace Go.Proofs.YtbiompjhenkieaaGreat
open Go.RowKit Go.Sort
set_option maxRecDepth 100000

def upd (f : Nat → Int) (k : Nat) (x : Int) (t : Nat) : Int := if t = k then x else f t
/-- Two new rows. -/
structure Rows2 (w : World) (S R n : Nat) (f g : Nat → Int) (W : World) : Prop where
  below : Below w.heap.size w W
  newS : w.heap.size ≤ S
  newR : w.heap.size ≤ R
  ne : S ≠ R
  ltS : S < W.heap.size
  ltR : R < W.heap.size
  cs : ∀ t, t < n → W.cell? ⟨S, t, none⟩ = some (.int .i64 (f t))
  fs : ∀ t, t < n → W.frozen? ⟨S, t, none⟩ = false
  cr : ∀ t, t < n → W.cell? ⟨R, t, none⟩ = some (.int .i64 (g t))
  fr : ∀ t, t < n → W.frozen? ⟨R, t, none⟩ = false
theorem Rows2.after {w W W' : World} {S R n : Nat} {f g : Nat → Int} (h : Rows2 w S R n f g W) (hb : Below W.heap.size W W') : Rows2 w S R n f g W' :=
  ⟨h.below.trans (hb.mono h.below.size), h.newS, h.newR, h.ne, Nat.lt_of_lt_of_le h.ltS hb.size, Nat.lt_of_lt_of_le h.ltR hb.size,
    fun t ht => (hb.cell (p := ⟨S, t, none⟩) h.ltS).trans (h.cs t ht), fun t ht => (hb.frozen (p := ⟨S, t, none⟩) h.ltS).trans (h.fs t ht),
    fun t ht => (hb.cell (p := ⟨R, t, none⟩) h.ltR).trans (h.cr t ht), fun t ht => (hb.frozen (p := ⟨R, t, none⟩) h.ltR).trans (h.fr t ht)⟩
theorem Rows2.congr {w W : World} {S R n : Nat} {f g f' g' : Nat → Int} (h : Rows2 w S R n f g W) (hf : ∀ t, t < n → f t = f' t) (hg : ∀ t, t < n → g t = g' t) : Rows2 w S R n f' g' W :=
  ⟨h.below, h.newS, h.newR, h.ne, h.ltS, h.ltR, fun t ht => by rw [← hf t ht]; exact h.cs t ht, h.fs, fun t ht => by rw [← hg t ht]; exact h.cr t ht, h.fr⟩
theorem Rows2.setS {w W : World} {S R n : Nat} {f g : Nat → Int} (h : Rows2 w S R n f g W) (k : Nat) (hk : k < n) (x : Int) : Rows2 w S R n (upd f k x) g (W.setCell ⟨S, k, none⟩ (.int .i64 x)) :=
  ⟨h.below.setCell h.newS _, h.newS, h.newR, h.ne, by simpa using h.ltS, by simpa using h.ltR,
    fun t ht => by
      unfold upd
      by_cases e : t = k
      · subst e; rw [if_pos rfl]; exact World.cell?_setCell_same _ _ _ (h.cs t ht)
      · rw [if_neg e, World.cell?_setCell_other _ _ _ _ (by intro e'; simp only [Addr.mk.injEq] at e'; omega)]; exact h.cs t ht,
    fun t ht => by rw [World.frozen?_setCell]; exact h.fs t ht,
    fun t ht => by rw [World.cell?_setCell_other _ _ _ _ (by intro e'; simp only [Addr.mk.injEq] at e'; exact h.ne (by omega))]; exact h.cr t ht,
    fun t ht => by rw [World.frozen?_setCell]; exact h.fr t ht⟩
theorem Rows2.setR {w W : World} {S R n : Nat} {f g : Nat → Int} (h : Rows2 w S R n f g W) (k : Nat) (hk : k < n) (x : Int) : Rows2 w S R n f (upd g k x) (W.setCell ⟨R, k, none⟩ (.int .i64 x)) :=
  ⟨h.below.setCell h.newR _, h.newS, h.newR, h.ne, by simpa using h.ltS, by simpa using h.ltR,
    fun t ht => by rw [World.cell?_setCell_other _ _ _ _ (by intro e'; simp only [Addr.mk.injEq] at e'; exact h.ne (by omega))]; exact h.cs t ht,
    fun t ht => by rw [World.frozen?_setCell]; exact h.fs t ht,
    fun t ht => by
      unfold upd
      by_cases e : t = k
      · subst e; rw [if_pos rfl]; exact World.cell?_setCell_same _ _ _ (h.cr t ht)
      · rw [if_neg e, World.cell?_setCell_other _ _ _ _ (by intro e'; simp only [Addr.mk.injEq] at e'; omega)]; exact h.cr t ht,
    fun t ht => by rw [World.frozen?_setCell]; exact h.fr t ht⟩

def Shared (s : Int) (ws : List Int) (a : Int) (w : World) (e : Ending) (w' : World) : Prop :=
  ∃ S : Nat, e = .returned (.slice (some ⟨S, 0, none⟩) ws.length ws.length) ∧ w.heap.size ≤ S ∧ S < w'.heap.size ∧ Below w.heap.size w w' ∧ ∀ t, t < ws.length → w'.cell? ⟨S, t, none⟩ = some (.int .i64 (shareAt s ws a t))

/-- What stands in the rows behind k rounds. -/
def upto (f : Nat → Int) (k t : Nat) : Int := if t < k then f t else 0

set_option maxHeartbeats 2000000 in
theorem split_share (b off n c : Nat) (s a : Int) (ws : List Int) (w : World) (H : Weights s ws a) (hn : ws.length = n + 1) (hm : n + 1 ≤ 1000) (hb : b < w.heap.size) (hx : ∀ i (h : i < ws.length), w.cell? ⟨b, off + i, none⟩ = some (.int .i64 ws[i])) :
    Calls Tryz.prog 99 #[.int .i64 s, .slice (some ⟨b, off, none⟩) (n + 1 : Nat) c, .int .i64 a] w fun e w' => Shared s ws a w e w' := by
  have hmk := fun W => make_run 97 2 Tryz.underlying97 (by kernel_rfl) (n + 1) (by omega) W
  obtain ⟨N, hN⟩ : ∃ N, N = n + 1 := ⟨_, rfl⟩
  rw [← hN] at hmk
  rw [← hN]
  have HX : Aside (∀ i (h : i < ws.length), w.cell? ⟨b, off + i, none⟩ = some (.int .i64 ws[i])) := hx
  have HL := Lib.hid hn
  have HN := Lib.hid hN
  have HH : Aside (Weights s ws a) := H
  have hN0 : 0 < N := by omega
  have hN1 : N ≤ 1000 := by omega
  have s0 := H.s0
  have s1 := H.s1
  have a0 := H.a0
  have a1 := H.a1
  clear hx hn hN hm H
  go_enter Tryz.func99, Tryz.ntmps99
  go_wp2
  -- the worlds: two new rows
  obtain ⟨S, hS⟩ : ∃ q, q = w.heap.size := ⟨_, rfl⟩
  obtain ⟨R, hR⟩ : ∃ q, q = w.heap.size + 1 := ⟨_, rfl⟩
  obtain ⟨w2, hw2⟩ : ∃ w2, w2 = (w.alloc (.cells (Array.replicate N (.int .i64 0)) 2)).alloc (.cells (Array.replicate N (.int .i64 0)) 2) := ⟨_, rfl⟩
  have r2 : Rows2 w S R N (fun _ => 0) (fun _ => 0) w2 := by
    rw [hw2, hS, hR]
    refine ⟨((Below.refl _ _).alloc (Nat.le_refl _) _).alloc (by simp) _, Nat.le_refl _, by omega, by omega, by simp; omega, by simp, fun t ht => ?_, fun t ht => ?_, fun t ht => ?_, fun t ht => ?_⟩
    · simp [ht]
    · simp
    · simp [ht]
    · simp
  rw [← hw2, ← hR, ← hS]
  have R2 : Aside (Rows2 w S R N (fun _ => 0) (fun _ => 0) w2) := r2
  have HS := Lib.hid hS
  have HR := Lib.hid hR
  have hSR : ¬ S = R := by omega
  clear hmk r2 hw2 hS hR
  go_loopw [9, 23] (fun vl vk wr => ∃ (k : Nat) (L : Int), vl = .int .i64 L ∧ vk = .int .i64 k ∧ k ≤ N ∧ Hid (L = s - sumTo (quo s ws a) k) ∧ Aside (Rows2 w S R N (upto (quo s ws a) k) (upto (rst s ws a) k) wr)) (fun _ vk _ => N - (intOf vk).toNat)
  case atStart => exact ⟨0, s, rfl, rfl, Nat.zero_le _, by show _ = _; rw [sumTo]; omega, R2.out⟩
  case round =>
    clear R2
    obtain ⟨k, L, rfl, rfl, hk, HLE, RK⟩ := hrel
    by_cases hlt : k < N
    · have hlt' : (k : Int) < (N : Int) := by omega
      have hl : k < ws.length := by rw [HL.out, ← HN.out]; exact hlt
      have hcw : wr.cell? ⟨b, off + k, none⟩ = some (.int .i64 (wt ws k)) := by
        rw [RK.out.below.cell (p := ⟨b, off + k, none⟩) hb, HX.out k hl, wt]
        simp [List.getD, hl]
      have hw0 := HH.out.w0 k
      have hwa := HH.out.wa k
      have hq := HH.out.quo k
      have hr := HH.out.rst k
      have hL1 : -1125899906842624000 ≤ L ∧ L ≤ 1125899906842624 := by
        have h1 := sumTo_nonneg (f := quo s ws a) k (fun t _ => (HH.out.quo t).1)
        have h2 := sumTo_le (f := quo s ws a) (b := 1125899906842624) k (fun t _ => by have := (HH.out.quo t).2; omega)
        have := HLE.out
        omega
      obtain ⟨hL1, hL2⟩ := hL1
      have hRK := RK.out
      obtain ⟨x, hx⟩ : ∃ x, x = wt ws k := ⟨_, rfl⟩
      obtain ⟨q, hq1⟩ : ∃ q, q = quo s ws a k := ⟨_, rfl⟩
      obtain ⟨r, hr1⟩ : ∃ r, r = rst s ws a k := ⟨_, rfl⟩
      have hpv : partV s x a = q ∧ partE s x a = 0 := by
        have := part_good (a := s) (n := x) (o := a) ⟨by omega, by omega⟩ ⟨by omega, by omega, by omega⟩
        rw [this.1, this.2, hq1, hx]
        exact ⟨rfl, rfl⟩
      have hrv : wrap64 (wrap64 (s * x) - wrap64 (q * a)) = r := by
        have e : r = s * x - q * a := by rw [hr1, rst, hx, hq1]
        rw [← hr1] at hr
        have ha1 := HH.out.a1
        unfold wrap64
        generalize s * x = A at *
        generalize q * a = B at *
        omega
      have hP := cents_part s x a ⟨by omega, by omega⟩ ⟨by omega, by omega⟩ wr
      rw [hpv.1, hpv.2] at hP
      rw [← hx] at hcw
      have HXW := Lib.hid hx
      have HQ := Lib.hid hq1
      have HRR := Lib.hid hr1
      have HRV := Lib.hid hrv
      rw [← hq1] at hq
      rw [← hr1] at hr
      obtain ⟨q0, q1⟩ := hq
      obtain ⟨r0, r1⟩ := hr
      clear hpv hx hq1 hr1 hrv hRK hw0 hwa
      go_wp2_with fail
      refine hP.mono ?_
      rintro e w1 ⟨rfl, b1⟩
      have R1 : Aside (Rows2 w S R N (upto (quo s ws a) k) (upto (rst s ws a) k) w1) := RK.out.after b1
      have c1 := R1.out.cs k hlt
      have f1 := R1.out.fs k hlt
      have c2 := R1.out.cr k hlt
      have f2 := R1.out.fr k hlt
      clear RK hcw hP b1
      go_wp2
      go_roundw
      case rel =>
        refine ⟨k + 1, L - q, rfl, by go_num, hlt, ?_, ?_⟩
        · show _ = _
          rw [sumTo, HLE.out, HQ.out]; omega
        · rw [HRV.out]
          refine ((R1.out.setS k hlt q).setR k hlt r).congr (fun t ht => ?_) (fun t ht => ?_)
          · unfold upd upto
            by_cases e : t = k
            · subst e; rw [if_pos rfl, if_pos (by omega)]; exact HQ.out
            · rw [if_neg e]
              by_cases e2 : t < k
              · rw [if_pos e2, if_pos (by omega)]
              · rw [if_neg e2, if_neg (by omega)]
          · unfold upd upto
            by_cases e : t = k
            · subst e; rw [if_pos rfl, if_pos (by omega)]; exact HRR.out
            · rw [if_neg e]
              by_cases e2 : t < k
              · rw [if_pos e2, if_pos (by omega)]
              · rw [if_neg e2, if_neg (by omega)]
      case measure => simp [intOf]; omega
    · obtain rfl : k = N := by omega
      have hkn := HN.out
      have hln := HL.out
      have hleft := HH.out.left
      have hLv : left s ws a = L := by rw [HLE.out, left, hln, hkn]
      rw [hLv] at hleft
      obtain ⟨L', rfl⟩ := Int.eq_ofNat_of_zero_le hleft.1
      have hLN : L' < k := by omega
      have hLN' : (L' : Int) < (k : Int) := by omega
      have hLN2 : (L' : Int) ≤ (k : Int) := by omega
      have RK2 := RK.out.congr (f' := quo s ws a) (g' := rst s ws a) (fun t ht => by unfold upto; rw [if_pos ht]) (fun t ht => by unfold upto; rw [if_pos ht])
      have R1 : Aside (Rows2 w S R k (quo s ws a) (rst s ws a) wr) := RK2
      -- the rests as a list
      obtain ⟨rs, hrs⟩ : ∃ rs, rs = (List.range k).map (rst s ws a) := ⟨_, rfl⟩
      have hgl : rs.length = n + 1 := by rw [hrs]; simp; omega
      have hG := split_greatestFirst R 0 n k rs wr hgl (by omega) RK2.ltR (fun i h => by
        rw [Nat.zero_add, RK2.cr i (by omega)]
        simp [hrs])
      rw [← hkn] at hG
      have HLV := Lib.hid hLv
      have HRS := Lib.hid hrs
      clear RK RK2 hgl hrs hLv hleft hkn hln HLE
      go_wp2_with fail
      refine hG.mono ?_
      rintro e w1 hend
      obtain ⟨blk, d, rfl, hnew, hlt1, b1, hp, hcd⟩ := hend
      have hIO := hp.inOrder
      obtain ⟨ps, hps⟩ : ∃ ps, ps = d.toList.map (·.val) := ⟨_, rfl⟩
      rw [← hps] at hIO
      have hkn := HN.out
      have hr0 : ∀ i, rs.getD i 0 = if i < k then rst s ws a i else 0 := fun i => by
        rw [HRS.out]
        by_cases hi : i < k
        · simp [List.getD, hi]
        · simp [List.getD, hi]
      have hpl : ps.length = k := by rw [hIO.length, hkn]
      have hcells : ∀ t, t < k → w1.cell? ⟨blk, t, none⟩ = some (.int .i64 ((ps.getD t 0 : Nat) : Int)) := fun t ht => by
        rw [hcd t (by omega), hps]
        have hsz := hp.size
        rw [getElem!_pos d t (by omega)]
        simp [List.getD, hsz, show t < n + 1 by omega]
      have RW1 : Aside (Rows2 w S R k (quo s ws a) (rst s ws a) w1) := R1.out.after b1
      have hSb : ¬ S = blk := by have := R1.out.ltS; omega
      have IO : Aside (InOrder (fun i => rs.getD i 0) (n + 1) ps) := hIO
      have HPL := Lib.hid hpl
      have CS : Aside (∀ t, t < k → w1.cell? ⟨blk, t, none⟩ = some (.int .i64 ((ps.getD t 0 : Nat) : Int))) := hcells
      have HR0 : Aside (∀ i, rs.getD i 0 = if i < k then rst s ws a i else 0) := hr0
      rw [← hkn]
      clear hG hp hcd hIO hps hpl hcells hr0 b1 R1 hkn hnew hlt1
      go_wp2
      go_loopw [63] (fun vk wr => ∃ (j : Nat), vk = .int .i64 j ∧ j ≤ L' ∧ Aside (Rows2 w S R k (fun t => quo s ws a t + one ps j t) (rst s ws a) wr) ∧ Aside (∀ t, t < k → wr.cell? ⟨blk, t, none⟩ = some (.int .i64 ((ps.getD t 0 : Nat) : Int)))) (fun vk _ => L' - (intOf vk).toNat)
      case atStart => exact ⟨0, rfl, Nat.zero_le _, RW1.out.congr (fun t _ => by rw [one_zero, Int.add_zero]) (fun _ _ => rfl), CS.out⟩
      case round =>
        clear RW1 CS
        obtain ⟨j, rfl, hj, RJ, CJ⟩ := hrel
        by_cases hlt2 : j < L'
        · have hlt3 : (j : Int) < (L' : Int) := by omega
          have hjl : j < ps.length := by rw [HPL.out]; omega
          obtain ⟨q, hq⟩ : ∃ q, q = ps[j] := ⟨_, rfl⟩
          have hqk : q < k := by rw [hq, HN.out]; exact IO.out.lt j hjl
          have hqk' : (q : Int) < (k : Int) := by omega
          have c0 := CJ.out j (by omega)
          rw [List.getD, List.getElem?_eq_getElem hjl, Option.getD_some, ← hq] at c0
          have c1 := RJ.out.cs q hqk
          have f1 := RJ.out.fs q hqk
          obtain ⟨y, hy⟩ : ∃ y, y = quo s ws a q + one ps j q := ⟨_, rfl⟩
          have hyb : 0 ≤ y ∧ y ≤ 1125899906842625 := by
            have h1 := HH.out.quo q
            have h2 := one_bounds ps j q
            omega
          obtain ⟨hy1, hy2⟩ := hyb
          rw [← hy] at c1
          have HY := Lib.hid hy
          have HQ := Lib.hid hq
          clear hy hq
          go_wp2
          go_roundw
          case rel =>
            refine ⟨j + 1, by go_num, hlt2, (RJ.out.setS q hqk (y + 1)).congr (fun t ht => ?_) (fun _ _ => rfl), ?_⟩
            · rw [one_next hjl IO.out.nodup t]
              unfold upd
              by_cases e : t = q
              · rw [if_pos e, if_pos (by rw [e]; exact HQ.out), HY.out, e]; omega
              · rw [if_neg e, if_neg (by rw [← HQ.out]; exact e)]
            · intro t ht
              rw [World.cell?_setCell_other _ _ _ _ (by intro e'; simp only [Addr.mk.injEq] at e'; exact hSb (by omega))]
              exact CJ.out t ht
          case measure => simp [intOf]; omega
        · obtain rfl : j = L' := by omega
          go_wp2
          go_ret
          have hkn := HN.out
          have hln := HL.out
          refine ⟨S, by rw [hln, hkn]; rfl, ?_, RJ.out.ltS, RJ.out.below, fun t ht => ?_⟩
          · rw [HS.out]; exact Nat.le_refl _
          · rw [RJ.out.cs t (by omega)]
            have h1 := (IO.out.one (L := j) (by omega) t (by omega))
            rw [h1]
            unfold shareAt
            have e : rank (fun i => rs.getD i 0) (n + 1) t = rank (rst s ws a) ws.length t := by
              rw [hln]
              unfold rank
              refine List.countP_congr fun x hx => ?_
              have hx' := List.mem_range.1 hx
              have e1 : rs.getD t 0 = rst s ws a t := by rw [HR0.out t, if_pos (by omega)]
              have e2 : rs.getD x 0 = rst s ws a x := by rw [HR0.out x, if_pos (by omega)]
              show decide (rs.getD t 0 < rs.getD x 0 ∨ rs.getD x 0 = rs.getD t 0 ∧ x < t) = true ↔ _
              rw [e1, e2]
              rfl
            rw [e, HLV.out]
            congr 3
            by_cases h : rank (rst s ws a) ws.length t < j
            · rw [if_pos h, if_pos (by omega)]
            · rw [if_neg h, if_neg (by omega)]
end Go.Proofs.YtbiompjhenkieaaGreat

namespace Go.Proofs.YtbiompjhenkieaaGreat
open Go.RowKit
set_option maxRecDepth 100000

theorem bits_mul1 (n : Nat) (hn : n ≤ 1000000) (w : World) : Calls Tryz.prog 53 #[.int .u64 1, .int .u64 n] w fun e w' => e = .returned (.tuple #[.int .u64 0, .int .u64 n]) ∧ w = w' := by
  have h := bits_mul64 1 n (by decide) (by omega) w
  rw [show 1 * n / 18446744073709551616 = 0 by omega, show 1 * n % 18446744073709551616 = n by omega] at h
  go_enter Tryz.func53, Tryz.ntmps53
  go_wp2_with fail
  refine h.mono ?_
  rintro e w1 ⟨rfl, rfl⟩
  go_wp2
  go_ret2
  exact ⟨rfl, rfl⟩

/-- k ones, then noughts. -/
def onesZ (k N : Nat) : List Value := List.replicate k (.int .i64 1) ++ List.replicate (N - k) (.int .i64 0)
theorem onesZ_length {k N : Nat} (h : k ≤ N) : (onesZ k N).length = N := by simp [onesZ]; omega
theorem onesZ_splice {k m N : Nat} (h : k + m ≤ N) : splice (onesZ k N) k (List.replicate m (.int .i64 1)) = onesZ (k + m) N := by
  unfold splice onesZ
  rw [List.take_append_of_le_length (by simp), List.take_of_length_le (by simp), List.length_replicate, List.drop_append, List.drop_of_length_le (by simp), List.length_replicate, List.nil_append, List.drop_replicate, ← List.append_assoc, List.replicate_append_replicate]
  congr 2
  omega
theorem onesZ_get {k N t : Nat} (ht : t < k) : (onesZ k N)[t]? = some (.int .i64 1) := by
  unfold onesZ
  rw [List.getElem?_append_left (by simpa using ht), List.getElem?_replicate, if_pos ht]
theorem made_heap (w : World) (N : Nat) (t : TypeId) : (w.alloc (.cells (Array.replicate N (.int .i64 0)) t)).heap[w.heap.size]? = some (.cells (onesZ 0 N).toArray t (0, 0)) := by
  show (w.heap.push _)[w.heap.size]? = _
  rw [Array.getElem?_push_size]
  simp [onesZ]
def Repeated (n : Nat) (w : World) (e : Ending) (w' : World) : Prop :=
  ∃ S : Nat, e = .returned (.slice (some ⟨S, 0, none⟩) n n) ∧ w.heap.size ≤ S ∧ S < w'.heap.size ∧ Below w.heap.size w w' ∧ ∀ t, t < n → w'.cell? ⟨S, t, none⟩ = some (.int .i64 1)

set_option maxHeartbeats 2000000 in
theorem repeat_one (b c N : Nat) (w : World) (hN : 1 ≤ N) (hN1 : N ≤ 200) (hb : b < w.heap.size) (hx : w.cell? ⟨b, 0, none⟩ = some (.int .i64 1)) :
    Calls Tryz.prog 95 #[.slice (some ⟨b, 0, none⟩) 1 c, .int .i64 N] w fun e w' => Repeated N w e w' := by
  have hmk := fun W => make_run 97 2 Tryz.underlying97 (by kernel_rfl) N (by omega) W
  have n0 : ¬ (N : Int) < 0 := by omega
  have HX := Lib.hid hx
  clear hx
  go_enter Tryz.func95, Tryz.ntmps95
  go_wp2_with fail
  refine (bits_mul1 N (by omega) w).mono ?_
  rintro e w1 ⟨rfl, rfl⟩
  have hsrc : ∀ j v, ([Value.int .i64 1] : List Value)[j]? = some v → (w.alloc (.cells (Array.replicate N (.int .i64 0)) 2)).cell? ((⟨b, 0, none⟩ : Addr).add j) = some v := fun j v hj => by
    rcases j with _ | j
    · simp only [List.getElem?_cons_zero, Option.some.injEq] at hj
      subst hj
      have := ((Below.refl w.heap.size w).alloc (Nat.le_refl _) (.cells (Array.replicate N (.int .i64 0)) 2)).cell (p := ⟨b, 0, none⟩) hb
      exact this.trans HX.out
    · simp at hj
  have HSRC : Aside _ := hsrc
  clear hsrc
  go_wp2_with (with_reducible refine wpList_copy_splice rfl (.tmp 31) (.tmp 32) 97 97 rfl 2 Tryz.underlying97 (by kernel_rfl) (some ⟨w.heap.size, 0, none⟩) (some ⟨b, 0, none⟩) N N 1 c rfl rfl w.heap.size 0 (onesZ 0 N) 2 (made_heap w N _) [.int .i64 1] (by simp [Nat.min_def]; omega) (fun _ => ⟨rfl, _, rfl, HSRC.out⟩) (by rw [onesZ_length (Nat.zero_le _)]; simpa using hN) (by simp [Value.oneCell']) w.heap.size w ((Below.refl _ _).alloc (Nat.le_refl _) _) (Nat.le_refl _) ?_; intro w2 HG2 hB2)
  have e1 : splice (onesZ 0 N) 0 [.int .i64 1] = onesZ 1 N := onesZ_splice (k := 0) (m := 1) (by omega)
  have HG3 : Hid (w2.heap[w.heap.size]? = some (.cells (onesZ 1 N).toArray 2 (0, 0))) := by
    have := HG2.out
    rw [e1] at this
    exact this
  obtain ⟨S, hS⟩ : ∃ q, q = w.heap.size := ⟨_, rfl⟩
  rw [← hS] at HG3 ⊢
  have HS := Lib.hid hS
  have B2 : Aside (Below w.heap.size w w2) := hB2
  clear HG2 HSRC e1 hB2 hmk hS
  go_loopw [8] (fun vn wr => ∃ (k : Nat), vn = .int .i64 k ∧ 1 ≤ k ∧ k ≤ N ∧ Hid (wr.heap[S]? = some (.cells (onesZ k N).toArray 2 (0, 0))) ∧ Aside (Below w.heap.size w wr)) (fun vn _ => N - (intOf vn).toNat)
  case atStart => exact ⟨1, rfl, Nat.le_refl _, hN, HG3.out, B2.out⟩
  case round =>
    clear HG3 B2
    obtain ⟨k, rfl, hk1, hkN, HG, BK⟩ := hrel
    by_cases hlt : k < N
    · have hlt' : (k : Int) < (N : Int) := by omega
      have hne : ¬ N = k := by omega
      have hne2 : ¬ N ≤ k := by omega
      obtain ⟨m, hm⟩ : ∃ m, m = Nat.min k (N - k) := ⟨_, rfl⟩
      have hm1 : k + m ≤ N := by have h0 : m ≤ N - k := by { rw [hm]; exact Nat.min_le_right _ _ }; omega
      have hm2 : m ≤ k := by rw [hm]; exact Nat.min_le_left _ _
      have hm4 : m ≤ N - k := by rw [hm]; exact Nat.min_le_right _ _
      have hm3 : 0 < m := by rw [hm]; exact Nat.lt_min.2 ⟨by omega, by omega⟩
      have hkN2 : (k : Int) ≤ (N : Int) := by omega
      have hsum : IntKind.i64.wrap ((k : Int) + (m : Int)) = ((k + m : Nat) : Int) := by rw [IntKind.wrap_i64]; omega
      have HM := Lib.hid hm
      have HSUM := Lib.hid hsum
      have HSR : Aside (∀ j v, (List.replicate m (Value.int .i64 1))[j]? = some v → ∀ W : World, W.heap[S]? = some (.cells (onesZ k N).toArray 2 (0, 0)) → W.cell? ((⟨S, 0, none⟩ : Addr).add j) = some v) := fun j v hj W hW => by
        have hjm : j < m := by
          by_cases h : j < m
          · exact h
          · rw [List.getElem?_replicate, if_neg h] at hj; cases hj
        rw [List.getElem?_replicate, if_pos hjm] at hj
        have e : (⟨S, 0, none⟩ : Addr).add j = ⟨S, j, none⟩ := by
          unfold Addr.add; split <;> simp_all
        rw [e, ← hj]
        unfold World.cell?
        rw [hW]
        simp only [List.getElem?_toArray]
        exact onesZ_get (by omega)
      clear hm hsum
      go_wp2_with fail
      go_region_law ((refine step_copy_splice rfl (.tmp 41) (.tmp 44) 97 97 rfl 2 Tryz.underlying97 (by kernel_rfl) (some ⟨S, k, none⟩) (some ⟨S, 0, none⟩) (N - k) (N - k) k N (by kernel_rfl) (by kernel_rfl) S k (onesZ k N) 2 HG.out (List.replicate m (.int .i64 1)) (by rw [List.length_replicate]; exact HM.out) (fun _ => ⟨rfl, _, rfl, fun j v hj => HSR.out j v hj _ HG.out⟩) (by rw [onesZ_length hkN, List.length_replicate]; exact hm1) (by intro v hv; rw [List.mem_replicate] at hv; rw [hv.2]; rfl) w.heap.size w BK.out.drew (by rw [HS.out]; exact Nat.le_refl _) ?_; intro w4 hg4 hb4))
      rw [HSUM.out]
      have HG5 : Hid (w4.heap[S]? = some (.cells (onesZ (k + m) N).toArray 2 (0, 0))) := by
        have := hg4.out
        rw [onesZ_splice hm1] at this
        exact this
      have B5 : Aside (Below w.heap.size w w4) := hb4
      clear hg4 hb4 HSR BK HG
      simp only [List.getElem_toArray, List.getElem_cons_succ, List.getElem_cons_zero, Act.put, List.setIfInBounds_toArray, List.set_cons_succ, List.set_cons_zero]
      go_wp2
      go_roundw
      case rel => exact ⟨k + m, rfl, by omega, hm1, HG5.out, B5.out⟩
      case measure => simp [intOf]; omega
    · obtain rfl : k = N := by omega
      go_wp2
      go_ret
      refine ⟨S, rfl, by rw [HS.out]; exact Nat.le_refl _, (Array.getElem?_eq_some_iff.1 HG.out).1, BK.out, fun t ht => ?_⟩
      unfold World.cell?
      rw [HG.out]
      simp only [List.getElem?_toArray]
      exact onesZ_get ht
end Go.Proofs.YtbiompjhenkieaaGreat

namespace Go.Proofs.YtbiompjhenkieaaGreat
open Go.RowKit
set_option maxRecDepth 100000

/-! ### Plain -/
def okW (x : Int) : Bool := decide (0 ≤ x ∧ x ≤ 1125899906842624)
theorem okW_yes {x : Int} (h : okW x = true) : 0 ≤ x ∧ x ≤ 1125899906842624 := of_decide_eq_true h
theorem okW_no {x : Int} (h : okW x = false) : ¬ (0 ≤ x ∧ x ≤ 1125899906842624) := of_decide_eq_false h
def few (n : Nat) : Bool := decide (1 ≤ n ∧ n ≤ 200)
def rightW (ws : List Int) : Bool := few ws.length && ws.all okW
theorem rightW_few {ws : List Int} (h : rightW ws = true) : 1 ≤ ws.length ∧ ws.length ≤ 200 := by
  unfold rightW few at h
  simp only [Bool.and_eq_true, decide_eq_true_eq] at h
  exact h.1
theorem rightW_all {ws : List Int} (h : rightW ws = true) : ws.all okW = true := by
  unfold rightW at h
  simp only [Bool.and_eq_true] at h
  exact h.2
theorem take_sum {ws : List Int} : ∀ k, k ≤ ws.length → sumTo (wt ws) k = (ws.take k).sum
  | 0, _ => rfl
  | k + 1, h => by
    have hk : k < ws.length := h
    rw [sumTo, take_sum k (by omega), List.take_succ_eq_append_getElem hk, List.sum_append, List.sum_singleton, wt]
    simp [List.getD, hk]
theorem all_sum (ws : List Int) : sumTo (wt ws) ws.length = ws.sum := by rw [take_sum ws.length (Nat.le_refl _), List.take_length]
theorem all_okW {ws : List Int} (h : ws.all okW = true) (k : Nat) : 0 ≤ wt ws k := by
  by_cases hk : k < ws.length
  · have := List.all_eq_true.1 h _ (List.getElem_mem hk)
    unfold wt
    simp only [List.getD, List.getElem?_eq_getElem hk, Option.getD_some]
    exact (okW_yes this).1
  · rw [wt_out hk]; exact Int.le_refl _
theorem sum_nonneg {ws : List Int} (h : ws.all okW = true) : 0 ≤ ws.sum := by rw [← all_sum]; exact sumTo_nonneg _ (fun t _ => all_okW h t)
theorem sumOf_all : ∀ (ws : List Int) (s : Int), 0 ≤ s → ws.all okW = true → sumOf s ws = if s + ws.sum ≤ 1125899906842624 then (if s ≤ 1125899906842624 then some (s + ws.sum) else sumOf s ws) else (if ws = [] then some s else none)
  | [], s, hs, _ => by
    rw [sumOf]
    simp only [List.sum_nil, Int.add_zero, if_true]
    split
    · first | rfl | (split <;> rfl)
    · rfl
  | x :: ws, s, hs, h => by
    simp only [List.all_cons, Bool.and_eq_true] at h
    have hx := okW_yes h.1
    have hn := sum_nonneg h.2
    have hr : Rt x = true := rt_iff.2 (by omega)
    rw [List.sum_cons]
    by_cases h1 : s + (x + ws.sum) ≤ 1125899906842624
    · have h2 : s + x ≤ 1125899906842624 := by omega
      rw [if_pos h1, if_pos (by omega), sumOf, hr, show Rt (s + x) = true from rt_iff.2 (by omega)]
      simp only [Bool.and_self, if_true]
      rw [sumOf_all ws (s + x) (by omega) h.2, if_pos (by omega), if_pos h2, Int.add_assoc]
    · rw [if_neg h1, if_neg (by simp), sumOf, hr]
      by_cases h2 : s + x ≤ 1125899906842624
      · rw [show Rt (s + x) = true from rt_iff.2 (by omega)]
        simp only [Bool.and_self, if_true]
        rw [sumOf_all ws (s + x) (by omega) h.2, if_neg (by omega), if_neg]
        rintro rfl
        simp at h1; omega
      · rw [show Rt (s + x) = false from rt_not.2 (by omega)]
        rfl
theorem sum_right {ws : List Int} (h : ws.all okW = true) (h1 : ws.sum ≤ 1125899906842624) : sumOf 0 ws = some ws.sum := by
  rw [sumOf_all ws 0 (Int.le_refl _) h, if_pos (by omega), if_pos (by omega), Int.zero_add]
theorem sum_wrong {ws : List Int} (h : ws.all okW = true) (h1 : ¬ ws.sum ≤ 1125899906842624) : sumOf 0 ws = none := by
  rw [sumOf_all ws 0 (Int.le_refl _) h, if_neg (by omega), if_neg]
  rintro rfl
  simp at h1

/-- What is wrong with a sum and weights. -/
def errS (s : Int) (ws : List Int) : Int := if rightW ws then (if okW s && decide (ws.sum ≤ 1125899906842624) then 0 else 9) else 1
/-- The weights by which a sum is shared; its shares. -/
def wsOf (ws : List Int) : List Int := if ws.sum = 0 then List.replicate ws.length 1 else ws
def sharesOf (s : Int) (ws : List Int) : List Int := sharesBy s (wsOf ws) (wsOf ws).sum
theorem wsOf_length (ws : List Int) : (wsOf ws).length = ws.length := by unfold wsOf; split <;> simp
theorem sharesOf_length (s : Int) (ws : List Int) : (sharesOf s ws).length = ws.length := by rw [sharesOf, sharesBy_length, wsOf_length]

def SharesEnd (s : Int) (ws : List Int) (w : World) (e : Ending) (w' : World) : Prop :=
  Below w.heap.size w w' ∧ ((errS s ws ≠ 0 ∧ e = .returned (.tuple #[.slice none 0 0, .int .i64 (errS s ws)])) ∨
    (errS s ws = 0 ∧ ∃ S : Nat, e = .returned (.tuple #[.slice (some ⟨S, 0, none⟩) ws.length ws.length, .int .i64 0]) ∧ w.heap.size ≤ S ∧ S < w'.heap.size ∧ ∀ t, t < ws.length → w'.cell? ⟨S, t, none⟩ = some (.int .i64 ((sharesOf s ws).getD t 0))))

/-! ### The code -/
set_option maxHeartbeats 1000000 in
theorem split_rightWeights (a : Option Addr) (ws : List Int) (n c : Nat) (w : World) (hn : ws.length = n) (hx : IsInts w a ws) (hl : n ≤ maxLen) :
    Calls Tryz.prog 96 #[.slice a n c] w fun e w' => e = .returned (.bool (rightW ws)) ∧ w = w' := by
  unfold maxLen at hl
  by_cases h0 : n < 1
  · have hr : rightW ws = false := by
      unfold rightW few
      rw [hn, decide_eq_false (by omega)]
      rfl
    rw [hr]
    have h0' : (n : Int) < 1 := by omega
    obtain rfl : n = 0 := by omega
    clear hn hr h0 hx
    go_enter Tryz.func96, Tryz.ntmps96
    go_wp2
    go_ret
    exact ⟨rfl, rfl⟩
  · by_cases h1 : 200 < n
    · have hr : rightW ws = false := by
        unfold rightW few
        rw [hn, decide_eq_false (by omega)]
        rfl
      rw [hr]
      have h0' : ¬ (n : Int) < 1 := by omega
      have h1' : 200 < (n : Int) := by omega
      clear hn hr hx
      go_enter Tryz.func96, Tryz.ntmps96
      go_wp2
      go_ret
      exact ⟨rfl, rfl⟩
    · have hr : rightW ws = ws.all okW := by
        unfold rightW few
        rw [hn, decide_eq_true (by omega)]
        rfl
      rw [hr]
      have h0' : ¬ (n : Int) < 1 := by omega
      have h1' : ¬ 200 < (n : Int) := by omega
      generalize hA : ws.all okW = A
      have HN := Lib.hid hn
      have HA := Lib.hid hA
      clear hn hr hA
      go_enter Tryz.func96, Tryz.ntmps96
      go_wp2
      go_loop [15] (fun i => ∃ k : Nat, k ≤ n ∧ i = .int .i64 k ∧ Hid (A = (ws.drop k).all okW)) (fun i => n - (intOf i).toNat)
      case atStart => exact ⟨0, Nat.zero_le _, rfl, by show _ = _; rw [← HA.out]; rfl⟩
      case round =>
        obtain ⟨k, hk, rfl, HS⟩ := hrel
        by_cases hlt : k < n
        · rcases hx with rfl | ⟨b, off, rfl, hb, hcs⟩
          · have := HN.out; simp at this; omega
          have hlk : k < ws.length := by rw [HN.out]; exact hlt
          have hck := hcs k hlk
          clear hcs
          have hkn : (k : Int) < (n : Int) := by omega
          have hd : Hid (ws.drop k = ws[k] :: ws.drop (k + 1)) := List.drop_eq_getElem_cons hlk
          generalize ws[k] = x at *
          by_cases hc : okW x = true
          · obtain ⟨x1, x2⟩ := okW_yes hc
            have x0 : ¬ x < 0 := by omega
            have hrt : Rt x = true := rt_iff.2 (by omega)
            have HC := Lib.hid hc
            clear hc
            go_wp2_with fail
            refine (cents_right x w).mono ?_
            rintro e w1 ⟨rfl, rfl⟩
            rw [hrt]
            go_wp2
            go_round
            case rel =>
              refine ⟨k + 1, by omega, by go_num, ?_⟩
              show _ = _
              rw [HS.out, hd.out, List.all_cons, HC.out, Bool.true_and]
            case measure => simp [intOf]; omega
          · have hc : okW x = false := by simpa using hc
            have hno : A = false := by rw [HS.out, hd.out, List.all_cons, hc, Bool.false_and]
            have HNO := Lib.hid hno
            have hxx := okW_no hc
            clear hc hno HS hd HA
            by_cases x0 : x < 0
            · clear hxx
              go_wp2
              go_ret
              exact ⟨by rw [HNO.out]; rfl, rfl⟩
            · have hrt : Rt x = false := rt_not.2 (by omega)
              clear hxx
              go_wp2_with fail
              refine (cents_right x w).mono ?_
              rintro e w1 ⟨rfl, rfl⟩
              rw [hrt]
              go_wp2
              go_ret
              exact ⟨by rw [HNO.out]; rfl, rfl⟩
        · obtain rfl : k = n := by omega
          have hno : A = true := by rw [HS.out, List.drop_of_length_le (by have := HN.out; omega)]; rfl
          have HNO := Lib.hid hno
          clear hno HS HA
          go_wp2
          go_ret
          exact ⟨by rw [HNO.out]; rfl, rfl⟩
end Go.Proofs.YtbiompjhenkieaaGreat

namespace Go.Proofs.YtbiompjhenkieaaGreat
open Go.RowKit
set_option maxRecDepth 100000

theorem errS_arg {s : Int} {ws : List Int} (h : rightW ws = false) : errS s ws = 1 := by unfold errS; rw [h]; rfl
theorem errS_sum {s : Int} {ws : List Int} (h : rightW ws = true) (h1 : okW s = false) : errS s ws = 9 := by unfold errS; rw [h, h1]; rfl
theorem errS_all {s : Int} {ws : List Int} (h : rightW ws = true) (h1 : ¬ ws.sum ≤ 1125899906842624) : errS s ws = 9 := by
  unfold errS; rw [h, decide_eq_false h1, Bool.and_false]; rfl
theorem errS_none {s : Int} {ws : List Int} (h : rightW ws = true) (h1 : okW s = true) (h2 : ws.sum ≤ 1125899906842624) : errS s ws = 0 := by
  unfold errS; rw [h, h1, decide_eq_true h2]; rfl
theorem ends_err {s : Int} {ws : List Int} {k : Int} {w w' : World} (h : errS s ws = k) (h0 : k ≠ 0) (hb : Below w.heap.size w w') : SharesEnd s ws w (.returned (.tuple #[.slice none 0 0, .int .i64 k])) w' :=
  ⟨hb, .inl ⟨by rw [h]; exact h0, by rw [h]⟩⟩

set_option maxHeartbeats 2000000 in
/-- Shares, where it is refused, or the weights are above nought together. -/
theorem split_shares_some (a : Option Addr) (ws : List Int) (n c : Nat) (s : Int) (w : World) (hn : ws.length = n) (hx : IsInts w a ws) (hl : n ≤ maxLen) (h0 : rightW ws = true → okW s = true → ws.sum ≠ 0) :
    Calls Tryz.prog 74 #[.int .i64 s, .slice a n c] w fun e w' => SharesEnd s ws w e w' := by
  have hR := split_rightWeights a ws n c w hn hx hl
  by_cases hr : rightW ws = true
  · have hsum := cents_sum a ws n c w hn hx hl
    rw [hr] at hR
    by_cases hm : ws.sum ≤ 1125899906842624
    · rw [sum_right (rightW_all hr) hm] at hsum
      simp only [sumV, sumE] at hsum
      by_cases hs : okW s = true
      · obtain ⟨s1, s2⟩ := okW_yes hs
        have s0 : ¬ s < 0 := by omega
        have hrt : Rt s = true := rt_iff.2 (by omega)
        have hpos := sum_nonneg (rightW_all hr)
        have hne := h0 hr hs
        have hz := rightW_few hr
        rw [hn] at hz
        have hin : ∃ b off, a = some ⟨b, off, none⟩ ∧ b < w.heap.size ∧ ∀ i (h : i < ws.length), w.cell? ⟨b, off + i, none⟩ = some (.int .i64 ws[i]) := by
          rcases hx with rfl | h
          · simp at hn; omega
          · exact h
        obtain ⟨b, off, rfl, hb, hc⟩ := hin
        have hW : Weights s ws ws.sum := ⟨s1, s2, all_okW (rightW_all hr), all_sum ws, by omega, hm⟩
        obtain ⟨n', rfl⟩ : ∃ n', n = n' + 1 := ⟨n - 1, by omega⟩
        have hS := split_share b off n' c s ws.sum ws w hW hn (by omega) hb hc
        have hE := errS_none hr hs hm
        have hw : wsOf ws = ws := by unfold wsOf; rw [if_neg hne]
        have hfin : Hid (∀ e w', Shared s ws ws.sum w e w' → ∃ S : Nat, e = .returned (.slice (some ⟨S, 0, none⟩) (n' + 1) (n' + 1)) ∧ SharesEnd s ws w (.returned (.tuple #[.slice (some ⟨S, 0, none⟩) (n' + 1) (n' + 1), .int .i64 0])) w') := by
          rintro e w' ⟨S, rfl, h1, h2, h3, h4⟩
          rw [hn]
          refine ⟨S, rfl, h3, .inr ⟨hE, S, by rw [hn], h1, h2, fun t ht => ?_⟩⟩
          rw [h4 t ht]
          unfold sharesOf
          rw [hw]
          simp [sharesBy, List.getD, ht]
        generalize ws.sum = A at *
        have ha : ¬ A = 0 := hne
        clear hW hE hw hc hx hn hne h0 hr hs
        go_enter Tryz.func74, Tryz.ntmps74
        go_wp2_with fail
        refine hR.mono ?_
        rintro e w1 ⟨rfl, rfl⟩
        go_wp2_with fail
        refine hsum.mono ?_
        rintro e w1 ⟨rfl, rfl⟩
        go_wp2_with fail
        refine (cents_right s w).mono ?_
        rintro e w1 ⟨rfl, rfl⟩
        rw [hrt]
        go_wp2_with fail
        refine hS.mono ?_
        intro e w1 hsh
        obtain ⟨S, rfl, hend⟩ := hfin.out e w1 hsh
        have HE : Aside _ := hend
        clear hsh hend
        go_wp2
        go_ret2
        exact HE.out
      · have hs : okW s = false := by simpa using hs
        have hE := errS_sum hr hs
        have hfin : Aside (∀ w', Below w.heap.size w w' → SharesEnd s ws w (.returned (.tuple #[.slice none 0 0, .int .i64 9])) w') := fun w' hb => ends_err hE (by decide) hb
        have hss := okW_no hs
        generalize ws.sum = A at *
        clear hE hs hr h0 hx hn
        by_cases s0 : s < 0
        · clear hss
          go_enter Tryz.func74, Tryz.ntmps74
          go_wp2_with fail
          refine hR.mono ?_
          rintro e w1 ⟨rfl, rfl⟩
          go_wp2_with fail
          refine hsum.mono ?_
          rintro e w1 ⟨rfl, rfl⟩
          go_wp2
          go_ret2
          exact hfin.out _ (Below.refl _ _)
        · have hrt : Rt s = false := rt_not.2 (by omega)
          clear hss
          go_enter Tryz.func74, Tryz.ntmps74
          go_wp2_with fail
          refine hR.mono ?_
          rintro e w1 ⟨rfl, rfl⟩
          go_wp2_with fail
          refine hsum.mono ?_
          rintro e w1 ⟨rfl, rfl⟩
          go_wp2_with fail
          refine (cents_right s w).mono ?_
          rintro e w1 ⟨rfl, rfl⟩
          rw [hrt]
          go_wp2
          go_ret2
          exact hfin.out _ (Below.refl _ _)
    · rw [sum_wrong (rightW_all hr) hm] at hsum
      simp only [sumV, sumE] at hsum
      have hE := errS_all (s := s) hr hm
      have hfin : Aside (∀ w', Below w.heap.size w w' → SharesEnd s ws w (.returned (.tuple #[.slice none 0 0, .int .i64 9])) w') := fun w' hb => ends_err hE (by decide) hb
      clear hE hr h0 hx hn hm
      go_enter Tryz.func74, Tryz.ntmps74
      go_wp2_with fail
      refine hR.mono ?_
      rintro e w1 ⟨rfl, rfl⟩
      go_wp2_with fail
      refine hsum.mono ?_
      rintro e w1 ⟨rfl, rfl⟩
      go_wp2
      go_ret2
      exact hfin.out _ (Below.refl _ _)
  · have hr : rightW ws = false := by simpa using hr
    rw [hr] at hR
    have hfin : Aside (∀ w', Below w.heap.size w w' → SharesEnd s ws w (.returned (.tuple #[.slice none 0 0, .int .i64 1])) w') := fun w' hb => ends_err (errS_arg hr) (by decide) hb
    clear hr h0 hx hn
    go_enter Tryz.func74, Tryz.ntmps74
    go_wp2_with fail
    refine hR.mono ?_
    rintro e w1 ⟨rfl, rfl⟩
    go_wp2
    go_ret2
    exact hfin.out _ (Below.refl _ _)

theorem ones_sum (n : Nat) : (List.replicate n (1 : Int)).sum = n := by
  induction n with
  | zero => rfl
  | succ n ih => rw [List.replicate_succ, List.sum_cons, ih]; omega
theorem SharesEnd.later {s : Int} {ws : List Int} {w w1 : World} {e : Ending} {w' : World} (h : SharesEnd s ws w1 e w') (hb : Below w.heap.size w w1) : SharesEnd s ws w e w' := by
  obtain ⟨h1, h2⟩ := h
  refine ⟨hb.trans (h1.mono hb.size), h2.imp id ?_⟩
  rintro ⟨h3, S, h4, h5, h6⟩
  exact ⟨h3, S, h4, Nat.le_trans hb.size h5, h6⟩
theorem SharesEnd.pair {s : Int} {ws : List Int} {w : World} {e : Ending} {w' : World} (h : SharesEnd s ws w e w') : ∃ (a : Option Addr) (n c : Nat) (k : Int), e = .returned (.tuple #[.slice a n c, .int .i64 k]) := by
  obtain ⟨_, ⟨_, rfl⟩ | ⟨_, S, rfl, _⟩⟩ := h
  · exact ⟨_, _, _, _, rfl⟩
  · exact ⟨_, _, _, _, rfl⟩

set_option maxHeartbeats 2000000 in
/-- Each, among so many. -/
theorem split_each_some (s : Int) (n : Nat) (w : World) (h1 : 1 ≤ n) (h2 : n ≤ 200) :
    Calls Tryz.prog 98 #[.int .i64 s, .int .i64 n] w fun e w' => SharesEnd s (List.replicate n 1) w e w' := by
  have n1 : ¬ (n : Int) < 1 := by omega
  have n2 : ¬ 200 < (n : Int) := by omega
  have hfin : Aside (∀ (w1 : World) (S : Nat), Below w.heap.size w w1 → S < w1.heap.size → (∀ t, t < n → w1.cell? ⟨S, t, none⟩ = some (.int .i64 1)) →
      Calls Tryz.prog 74 #[.int .i64 s, .slice (some ⟨S, 0, none⟩) n n] w1 fun e w' => SharesEnd s (List.replicate n 1) w e w') := by
    intro w1 S hb hS hc
    refine (split_shares_some (some ⟨S, 0, none⟩) (List.replicate n 1) n n s w1 (by simp) (.inr ⟨S, 0, rfl, hS, fun i hi => ?_⟩) (by unfold maxLen; omega) (fun _ _ => by rw [ones_sum]; omega)).mono fun e w' h => h.later hb
    rw [Nat.zero_add, hc i (by simpa using hi)]
    simp
  go_enter Tryz.func98, Tryz.ntmps98
  go_wp2_with fail
  refine (repeat_one w.heap.size 1 n _ h1 h2 (by simp) (by simp)).mono ?_
  rintro e w1 ⟨S, rfl, hS1, hS2, hb, hc⟩
  have hb0 : Below w.heap.size w w1 := ((Below.refl _ _).alloc (Nat.le_refl _) _).trans (hb.mono (by simp))
  have hC := hfin.out w1 S hb0 hS2 hc
  clear hfin hc hb
  go_wp2_with fail
  refine hC.mono ?_
  intro e w2 hend
  obtain ⟨a, k, c, q, rfl⟩ := hend.pair
  have HE : Aside _ := hend
  clear hend hC
  go_wp2
  go_ret2
  exact HE.out
theorem split_each_wrong (s n : Int) (w : World) (h : n < 1 ∨ 200 < n) :
    Calls Tryz.prog 98 #[.int .i64 s, .int .i64 n] w fun e w' => e = .returned (.tuple #[.slice none 0 0, .int .i64 1]) ∧ w = w' := by
  by_cases n1 : n < 1
  · clear h
    go_enter Tryz.func98, Tryz.ntmps98
    go_wp2
    go_ret2
    exact ⟨rfl, rfl⟩
  · have n2 : 200 < n := by omega
    clear h
    go_enter Tryz.func98, Tryz.ntmps98
    go_wp2
    go_ret2
    exact ⟨rfl, rfl⟩

theorem noughts_like {s : Int} {ws : List Int} (hr : rightW ws = true) (hs : okW s = true) (h0 : ws.sum = 0) {w : World} {e : Ending} {w' : World} (h : SharesEnd s (List.replicate ws.length 1) w e w') : SharesEnd s ws w e w' := by
  have hz := rightW_few hr
  have e1 : errS s ws = 0 := errS_none hr hs (by omega)
  have e2 : errS s (List.replicate ws.length 1) = 0 := by
    refine errS_none ?_ hs (by rw [ones_sum]; omega)
    unfold rightW few
    rw [List.length_replicate, decide_eq_true hz, Bool.true_and]
    simp [okW]
  have e3 : sharesOf s ws = sharesOf s (List.replicate ws.length 1) := by
    have f1 : wsOf ws = List.replicate ws.length 1 := by unfold wsOf; rw [if_pos h0]
    have f2 : wsOf (List.replicate ws.length 1) = List.replicate ws.length 1 := by unfold wsOf; rw [if_neg (by rw [ones_sum]; omega)]
    unfold sharesOf
    rw [f1, f2]
  obtain ⟨hb, hor⟩ := h
  refine ⟨hb, .inr ⟨e1, ?_⟩⟩
  rcases hor with ⟨h1, _⟩ | ⟨_, S, h2, h3, h4, h5⟩
  · exact absurd e2 h1
  · rw [List.length_replicate] at h2 h5
    exact ⟨S, h2, h3, h4, by rw [e3]; exact h5⟩

set_option maxHeartbeats 2000000 in
/-- Shares. -/
theorem split_shares (a : Option Addr) (ws : List Int) (n c : Nat) (s : Int) (w : World) (hn : ws.length = n) (hx : IsInts w a ws) (hl : n ≤ maxLen) :
    Calls Tryz.prog 74 #[.int .i64 s, .slice a n c] w fun e w' => SharesEnd s ws w e w' := by
  by_cases h0 : rightW ws = true ∧ okW s = true ∧ ws.sum = 0
  · obtain ⟨hr, hs, hz⟩ := h0
    have hR := split_rightWeights a ws n c w hn hx hl
    have hsum := cents_sum a ws n c w hn hx hl
    rw [hr] at hR
    rw [sum_right (rightW_all hr) (by omega), hz] at hsum
    simp only [sumV, sumE] at hsum
    obtain ⟨s1, s2⟩ := okW_yes hs
    have s0 : ¬ s < 0 := by omega
    have hrt : Rt s = true := rt_iff.2 (by omega)
    have hf := rightW_few hr
    have hE := split_each_some s n w (by omega) (by omega)
    have hfin : Aside (∀ e w', SharesEnd s (List.replicate n 1) w e w' → SharesEnd s ws w e w') := fun e w' h => noughts_like hr hs hz (by rw [hn]; exact h)
    clear hr hs hz hf hx hn
    go_enter Tryz.func74, Tryz.ntmps74
    go_wp2_with fail
    refine hR.mono ?_
    rintro e w1 ⟨rfl, rfl⟩
    go_wp2_with fail
    refine hsum.mono ?_
    rintro e w1 ⟨rfl, rfl⟩
    go_wp2_with fail
    refine (cents_right s w).mono ?_
    rintro e w1 ⟨rfl, rfl⟩
    rw [hrt]
    go_wp2_with fail
    refine hE.mono ?_
    intro e w2 hend
    have hend2 := hfin.out e w2 hend
    obtain ⟨a', k, c', q, rfl⟩ := hend.pair
    have HE : Aside _ := hend2
    clear hend hend2
    go_wp2
    go_ret2
    exact HE.out
  · exact split_shares_some a ws n c s w hn hx hl (fun h1 h2 h3 => h0 ⟨h1, h2, h3⟩)
end Go.Proofs.YtbiompjhenkieaaGreat

namespace Go.Proofs.YtbiompjhenkieaaGreat
open Go.RowKit
set_option maxRecDepth 100000

/-- What is told: the shares, or none. -/
def sharesR (s : Int) (ws : List Int) : List Int := if errS s ws = 0 then sharesOf s ws else []
theorem sharesR_length {s : Int} {ws : List Int} : (sharesR s ws).length ≤ 200 := by
  unfold sharesR
  by_cases h : errS s ws = 0
  · rw [if_pos h, sharesOf_length]
    cases hr : rightW ws with
    | true => exact (rightW_few hr).2
    | false => rw [errS_arg hr] at h; cases h
  · rw [if_neg h]; exact Nat.zero_le _
theorem SharesEnd.out {s : Int} {ws : List Int} {w : World} {e : Ending} {w' : World} (h : SharesEnd s ws w e w') :
    ∃ (a : Option Addr) (n : Nat), e = .returned (.tuple #[.slice a n n, .int .i64 (errS s ws)]) ∧ (sharesR s ws).length = n ∧ n ≤ 200 ∧ IsInts w' a (sharesR s ws) ∧ Below w.heap.size w w' := by
  have hl := sharesR_length (s := s) (ws := ws)
  obtain ⟨hb, ⟨h1, rfl⟩ | ⟨h1, S, rfl, _, h3, h4⟩⟩ := h
  · refine ⟨none, 0, rfl, ?_, Nat.zero_le _, .inl ?_, hb⟩ <;> unfold sharesR <;> rw [if_neg h1]
    rfl
  · have e1 : sharesR s ws = sharesOf s ws := by unfold sharesR; rw [if_pos h1]
    rw [e1, sharesOf_length] at hl
    refine ⟨some ⟨S, 0, none⟩, ws.length, by rw [h1], by rw [e1, sharesOf_length], hl, .inr ⟨S, 0, rfl, h3, fun i hi => ?_⟩, hb⟩
    rw [e1, sharesOf_length] at hi
    rw [Nat.zero_add, h4 i hi]
    simp [e1, List.getD, sharesOf_length, hi]

end Go.Proofs.YtbiompjhenkieaaGreat

namespace Go.Proofs.YtbiompjhenkieaaGreat

theorem ahead_trans {r : Nat → Int} {i j k : Nat} (h1 : ahead r i j = true) (h2 : ahead r j k = true) : ahead r i k = true := by
  simp only [ahead, decide_eq_true_eq] at *
  omega
theorem rank_mono {r : Nat → Int} {k i : Nat} (n : Nat) (h : ahead r k i = true) : rank r n k ≤ rank r n i :=
  List.countP_mono_left fun _ _ hj => ahead_trans hj h
theorem inOrder_ex (r : Nat → Int) (n : Nat) : ∃ ps, InOrder r n ps := by
  refine ⟨(List.range n).mergeSort (fun i j => !ahead r j i), List.mergeSort_perm _ _, fun i j hij hj hi => ?_⟩
  have hp := List.pairwise_mergeSort (le := fun i j => !ahead r j i) (fun a b c h1 h2 => by
    simp only [ahead, Bool.not_eq_true', decide_eq_false_iff_not] at *
    omega) (fun a b => by
    cases h : ahead r b a with
    | false => simp
    | true => simp [ahead_asymm h]) (List.range n)
  have := List.pairwise_iff_getElem.1 hp i j hi hj hij
  simpa using this
theorem sum_rank {r : Nat → Int} {n L : Nat} (hL : L ≤ n) : sumTo (fun k => if rank r n k < L then (1 : Int) else 0) n = L := by
  obtain ⟨ps, h⟩ := inOrder_ex r n
  rw [← sum_one h hL]
  exact sumTo_congr n fun t ht => (h.one hL t ht).symm
theorem shares_sum {s : Int} {ws : List Int} {a : Int} (h : Weights s ws a) : sumTo (shareAt s ws a) ws.length = s := by
  have hl := h.left
  obtain ⟨L, hL⟩ := Int.eq_ofNat_of_zero_le hl.1
  rw [hL] at hl
  have e : sumTo (shareAt s ws a) ws.length = sumTo (quo s ws a) ws.length + sumTo (fun k => if rank (rst s ws a) ws.length k < L then (1 : Int) else 0) ws.length := by
    rw [← sumTo_add]
    refine sumTo_congr _ fun t _ => ?_
    unfold shareAt
    rw [hL]
    congr 1
    by_cases hh : rank (rst s ws a) ws.length t < L
    · rw [if_pos (by omega), if_pos hh]
    · rw [if_neg (by omega), if_neg hh]
  rw [e, sum_rank (by omega)]
  have := hL
  unfold left at this
  omega
theorem share_near (s : Int) (ws : List Int) (a : Int) (k : Nat) : shareAt s ws a k = quo s ws a k ∨ shareAt s ws a k = quo s ws a k + 1 := by
  unfold shareAt
  by_cases h : ((rank (rst s ws a) ws.length k : Nat) : Int) < left s ws a
  · rw [if_pos h]; exact .inr rfl
  · rw [if_neg h]; exact .inl (Int.add_zero _)
theorem share_same {s : Int} {ws : List Int} {a : Int} {k i : Nat} (hk : k < i) (hw : wt ws k = wt ws i) : shareAt s ws a i ≤ shareAt s ws a k ∧ shareAt s ws a k ≤ shareAt s ws a i + 1 := by
  have hq : quo s ws a k = quo s ws a i := by unfold quo; rw [hw]
  have hr : rst s ws a k = rst s ws a i := by unfold rst; rw [hw, hq]
  have ha : ahead (rst s ws a) k i = true := by simp only [ahead, decide_eq_true_eq]; omega
  have hm := rank_mono ws.length ha
  unfold shareAt
  rw [hq]
  by_cases h1 : ((rank (rst s ws a) ws.length k : Nat) : Int) < left s ws a
  · rw [if_pos h1]; split <;> omega
  · rw [if_neg h1, if_neg (by omega)]; omega

/-- What is told of shares that are not refused. -/
structure Told6 (s : Int) (ws : List Int) (zs : List Int) : Prop where
  length : zs.length = ws.length
  sum : sumTo (wt zs) ws.length = s
  bounds : ∀ i, i < ws.length → 0 ≤ wt zs i ∧ wt zs i ≤ 1125899906842625
  near : 0 < ws.sum → ∀ i, i < ws.length → wt zs i = quo s ws ws.sum i ∨ wt zs i = quo s ws ws.sum i + 1
  same : ∀ k i, k < i → i < ws.length → wt ws k = wt ws i → wt zs i ≤ wt zs k ∧ wt zs k ≤ wt zs i + 1
theorem wsOf_weights {s : Int} {ws : List Int} (hr : rightW ws = true) (hs : okW s = true) (hm : ws.sum ≤ 1125899906842624) : Weights s (wsOf ws) (wsOf ws).sum := by
  have hsok := okW_yes hs
  have hf := rightW_few hr
  have h1 := sum_nonneg (rightW_all hr)
  have hsum : (wsOf ws).sum = if ws.sum = 0 then (ws.length : Int) else ws.sum := by
    unfold wsOf
    split
    · rw [ones_sum]
    · rfl
  have hall : (wsOf ws).all okW = true := by
    unfold wsOf
    split
    · rw [List.all_replicate]; split <;> rfl
    · exact rightW_all hr
  exact ⟨hsok.1, hsok.2, all_okW hall, all_sum _, by rw [hsum]; split <;> omega, by rw [hsum]; split <;> omega⟩
theorem told6 {s : Int} {ws : List Int} (hr : rightW ws = true) (hs : okW s = true) (hm : ws.sum ≤ 1125899906842624) : Told6 s ws (sharesOf s ws) := by
  have hW := wsOf_weights hr hs hm
  have hl := wsOf_length ws
  have hat : ∀ i, i < ws.length → wt (sharesOf s ws) i = shareAt s (wsOf ws) (wsOf ws).sum i := fun i hi => by
    have : i < (sharesOf s ws).length := by rw [sharesOf_length]; exact hi
    unfold wt
    simp only [List.getD, List.getElem?_eq_getElem this, Option.getD_some]
    exact sharesBy_get s (wsOf ws) (wsOf ws).sum i this
  refine ⟨sharesOf_length s ws, ?_, fun i hi => ?_, fun h0 i hi => ?_, fun k i hk hi hw => ?_⟩
  · rw [sumTo_congr _ hat, ← hl]; exact shares_sum hW
  · rw [hat i hi]
    have h1 := hW.quo i
    have h2 := share_near s (wsOf ws) (wsOf ws).sum i
    have h3 := hW.s1
    omega
  · have e : wsOf ws = ws := by unfold wsOf; rw [if_neg (by omega)]
    rw [hat i hi, e]
    exact share_near s ws ws.sum i
  · rw [hat i hi, hat k (by omega)]
    refine share_same hk ?_
    unfold wsOf
    split
    · have a1 : k < ws.length := by omega
      simp [wt, List.getD, a1, hi]
    · exact hw
end Go.Proofs.YtbiompjhenkieaaGreat
