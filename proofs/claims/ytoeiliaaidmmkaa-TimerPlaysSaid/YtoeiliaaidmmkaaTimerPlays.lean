/-
  The law TimerPlays of layer 12 returns true whatever its arguments are, and leaves them as they were. No condition.
-/
import Derived.Test.YtoeiliaaidmmkaaTimMod
import Derived.Deep.RegionHeld3
namespace Go.Proofs.Ytoeiliaaidmmkaa
open Go.RowKit
set_option maxRecDepth 100000

/-- Timers, and beside them a row of the law's own; the blocks Z are not the timers'. -/
structure Two (B : Nat) (w W : World) (Z : Nat → Prop) (a : Option Addr) (c : Nat) (ms ys : List Tm) : Prop where
  st : TimSt W B (fun q => B ≤ q ∧ ¬ Z q) ys
  below : Below B w W
  le : B ≤ w.heap.size
  row : TRow W a ms
  srt : Srt ms
  cap : ms.length ≤ c
  nil : a = none → c = 0
  blk : ∀ x, a = some x → ∃ b o, x = ⟨b, o, none⟩ ∧ Z b
  zlt : ∀ q, Z q → q < W.heap.size
def ofRow (a : Option Addr) : Nat → Prop := fun q => ∃ o, a = some ⟨q, o, none⟩
section
variable {B : Nat} {w W W' : World} {Z : Nat → Prop} {a : Option Addr} {c : Nat} {ms ys zs : List Tm}
theorem Two.hB (h : Two B w W Z a c ms ys) : B ≤ W.heap.size := Nat.le_trans h.le h.below.size
theorem Two.after (h : Two B w W Z a c ms ys) (hb : Below W.heap.size W W') : Two B w W' Z a c ms ys :=
  ⟨h.st.below hb, h.below.trans (hb.mono h.hB), h.le, h.row.below hb, h.srt, h.cap, h.nil, h.blk, fun q hq => Nat.lt_of_lt_of_le (h.zlt q hq) hb.size⟩
theorem Two.upd (h : Two B w W Z a c ms ys) (hs : TimSt W' B (More (fun q => B ≤ q ∧ ¬ Z q) W W') zs) (hu : Upd (fun q => B ≤ q ∧ ¬ Z q) W W') : Two B w W' Z a c ms zs := by
  refine ⟨hs.mono fun k hk => ?_, h.below.trans (hu.toBelow h.hB (fun k hk e => by have := e.1; omega)), h.le, h.row.upd hu (fun b o e x => ?_), h.srt, h.cap, h.nil, h.blk, fun q hq => Nat.lt_of_lt_of_le (h.zlt q hq) hu.size⟩
  · rcases hk with hk | hk
    · exact hk
    · exact ⟨Nat.le_trans h.hB hk.1, fun e => by have := h.zlt k e; omega⟩
  · obtain ⟨b', o', e1, e2⟩ := h.blk _ e
    injection e1 with e1
    subst e1
    exact x.2 e2
/-- A new block that is not the timers'. -/
theorem Two.add (h : Two B w W Z a c ms ys) (O : Obj) : Two B w (W.alloc O) (fun q => Z q ∨ q = W.heap.size) a c ms ys := by
  have hb : Below W.heap.size W (W.alloc O) := upd_box _
  refine ⟨(h.st.lower.mono fun k hk => ⟨hk.1.1, fun e => e.elim hk.1.2 (fun e => by have := hk.2; omega)⟩).below hb, h.below.trans (hb.mono h.hB), h.le, h.row.below hb, h.srt, h.cap, h.nil, fun x e => ?_, fun q hq => ?_⟩
  · obtain ⟨b, o, e1, e2⟩ := h.blk x e
    exact ⟨b, o, e1, .inl e2⟩
  · rcases hq with e | e
    · exact Nat.lt_of_lt_of_le (h.zlt q e) hb.size
    · rw [e]; simp
theorem Two.only (h : Two B w W Z a c ms ys) : Two B w W (ofRow a) a c ms ys := by
  refine ⟨h.st.mono fun k hk => ⟨hk.1, fun e => ?_⟩, h.below, h.le, h.row, h.srt, h.cap, h.nil, fun x e => ?_, fun q hq => ?_⟩
  · obtain ⟨o, e⟩ := e
    obtain ⟨b, o', e1, e2⟩ := h.blk _ e
    injection e1 with e1
    subst e1
    exact hk.2 e2
  · obtain ⟨b, o, e1, e2⟩ := h.blk x e
    exact ⟨b, o, e1, o, by rw [e, e1]⟩
  · obtain ⟨o, e⟩ := hq
    obtain ⟨b, o', e1, e2⟩ := h.blk _ e
    injection e1 with e1
    subst e1
    exact h.zlt _ e2
theorem Two.renew {a' : Option Addr} {c' : Nat} {ms' : List Tm} (h : Two B w W Z a c ms ys) (hb : Below W.heap.size W W') (ho : W'.ownsRow W.heap.size 35 2 (.slice a' ms'.length c') ms'.length (tcells ms')) (hs : Srt ms') : Two B w W' (fun q => Z q ∨ ofRow a' q) a' c' ms' ys := by
  have hx := fun g (e : (Value.slice a' ms'.length c').ownBlock = some g) => own_base ho e
  have hi := fun g (e : (Value.slice a' ms'.length c').ownBlock = some g) => own_in ho e
  have hst : TimSt W' B (fun q => B ≤ q ∧ ¬ (Z q ∨ ofRow a' q)) ys := (h.st.lower.mono fun k hk => ⟨hk.1.1, fun e => e.elim hk.1.2 (fun ⟨o, e⟩ => by have h1 := hx k (by rw [e]; rfl); have := hk.2; omega)⟩).below hb
  have hcap : ms'.length ≤ c' := by
    rcases ho.2 with ⟨_, h3⟩ | ⟨g', cap, cur, h2, _, _, h5, _⟩
    · rw [h3]; exact Nat.zero_le _
    · injection h2 with _ _ e3
      rw [e3]; exact h5
  refine ⟨hst, h.below.trans (hb.mono h.hB), h.le, trow_own ho rfl, hs, hcap, fun e => by subst e; exact (own_none ho).2, fun x e => ?_, fun q hq => ?_⟩
  · subst e
    rcases ho.2 with ⟨h2, _⟩ | ⟨g', cap, cur, h2, _⟩
    · cases h2
    · injection h2 with e1 _ _
      injection e1 with e1
      exact ⟨g', 0, e1, .inr ⟨0, by rw [e1]⟩⟩
  · rcases hq with e | ⟨o, e⟩
    · exact Nat.lt_of_lt_of_le (h.zlt q e) hb.size
    · exact hi q (by rw [e]; rfl)
/-- The first k of the row are left out. -/
theorem Two.cut (h : Two B w W Z a c ms ys) {k : Nat} (hk : k ≤ ms.length) (a' : Option Addr) (ha : (a' = a ∧ k = ms.length) ∨ ∃ b o, a = some ⟨b, o, none⟩ ∧ a' = some ⟨b, o + k * 2, none⟩) (hnil : a' = none → c - k = 0) : Two B w W Z a' (c - k) (ms.drop k) ys := by
  have hcap := h.cap
  refine ⟨h.st, h.below, h.le, ?_, List.Pairwise.drop h.srt, by rw [List.length_drop]; omega, hnil, fun x e => ?_, h.zlt⟩
  · rcases ha with ⟨_, e⟩ | ⟨b, o, e1, e2⟩
    · exact .inl (by rw [e]; exact List.drop_length)
    · rcases h.row with e | ⟨b', o', e3, h3, h4⟩
      · exact .inl (by rw [e]; exact List.drop_nil)
      · rw [e1] at e3
        injection e3 with e3
        injection e3 with e4 e5
        subst e4 e5
        refine .inr ⟨b, o + k * 2, e2, h3, fun i hi => ?_⟩
        rw [List.length_drop] at hi
        have := h4 (k + i) (by omega)
        have e6 : tget (ms.drop k) i = tget ms (k + i) := by
          unfold tget
          simp only [List.getD, List.getElem?_drop]
        rw [e6, show o + k * 2 + i * 2 = o + (k + i) * 2 by omega]
        exact this
  · rcases ha with ⟨e1, _⟩ | ⟨b, o, e1, e2⟩
    · rw [e1] at e; exact h.blk x e
    · rw [e2] at e
      injection e with e
      obtain ⟨b', o', e3, e4⟩ := h.blk _ e1
      injection e3 with e3
      exact ⟨b, _, e.symm, by rw [e3]; exact e4⟩
theorem two_set (h : Two B w W Z a c ms ys) (q d : Int) (hq : W64 q) (hf : ys.length < 1000) : Calls Try.prog 8 #[.pointer (some ⟨B, 0, none⟩), .int .i64 q, .int .i64 d] W fun e W' => e = .returned (.tuple #[]) ∧ Upd (fun q => B ≤ q ∧ ¬ Z q) W W' ∧ ∃ zs, Two B w W' Z a c ms zs ∧ zs.Perm (without ys q ++ [(d, q)]) :=
  (tim_set h.st q d hq hf).mono fun _ _ ⟨he, zs, hs, hp, hu⟩ => ⟨he, hu, zs, h.upd hs hu, hp⟩
theorem two_stop (h : Two B w W Z a c ms ys) (q : Int) (hq : W64 q) : Calls Try.prog 11 #[.pointer (some ⟨B, 0, none⟩), .int .i64 q] W fun e W' => e = .returned (.bool (decide ((without ys q).length < ys.length))) ∧ ∃ zs, Two B w W' Z a c ms zs ∧ zs.Perm (without ys q) :=
  (tim_stop h.st q hq).mono fun _ _ ⟨he, zs, hs, hp, hu⟩ => ⟨he, zs, h.upd (hs.mono fun _ x => .inl x) hu, hp⟩
theorem two_due (h : Two B w W Z a c ms ys) (hp : ms.Perm ys) (now : Int) : Calls Try.prog 12 #[.pointer (some ⟨B, 0, none⟩), .int .i64 now] W fun e W' => ∃ k a' c', k ≤ ms.length ∧ e = .returned (.slice a' k c') ∧ IntRow W' a' k (fun i => (tget ms i).2) ∧ (∀ i, i < k → (tget ms i).1 ≤ now) ∧ (k < ms.length → now < (tget ms k).1) ∧ Upd (fun q => B ≤ q ∧ ¬ Z q) W W' ∧ ∃ zs, Two B w W' Z a c ms zs ∧ zs.Perm (ms.drop k) :=
  (tim_due h.st h.srt hp now).mono fun _ _ ⟨k, a', c', hk, he, hr, _, h1, h2, ⟨zs, hz, pz⟩, hu⟩ => ⟨k, a', c', hk, he, hr, h1, h2, hu, zs, h.upd (hz.mono fun _ x => .inl x) hu, pz⟩
end

theorem TRow.take {w : World} {a : Option Addr} {xs : List Tm} (h : TRow w a xs) (k : Nat) : TRow w a (xs.take k) := by
  rcases h with h | ⟨b, o, h1, h2, h3⟩
  · exact .inl (by rw [h]; exact List.take_nil)
  · refine .inr ⟨b, o, h1, h2, fun i hi => ?_⟩
    rw [List.length_take] at hi
    rw [tget_take i (by omega)]
    exact h3 i (by omega)
theorem TRow.drop {w : World} {b o : Nat} {xs : List Tm} (h : TRow w (some ⟨b, o, none⟩) xs) (k : Nat) : TRow w (some ⟨b, o + k * 2, none⟩) (xs.drop k) := by
  rcases h with h | ⟨b', o', h1, h2, h3⟩
  · exact .inl (by rw [h]; exact List.drop_nil)
  · injection h1 with h1
    injection h1 with e1 e2
    subst e1 e2
    refine .inr ⟨b, o + k * 2, rfl, h2, fun i hi => ?_⟩
    rw [List.length_drop] at hi
    have := h3 (k + i) (by omega)
    have e6 : tget (xs.drop k) i = tget xs (k + i) := by
      unfold tget
      simp only [List.getD, List.getElem?_drop]
    rw [e6, show o + k * 2 + i * 2 = o + (k + i) * 2 by omega]
    exact this
theorem TRow.grown {w w' : World} {row : Option Nat} {a : Option Addr} {xs : List Tm} (h : TRow w a xs) (g : w.grownBy w' row) (hne : ∀ b o, a = some ⟨b, o, none⟩ → row ≠ some b) : TRow w' a xs :=
  h.upd (S := fun k => row = some k) ((Upd.refl _ w).grown g (fun _ e => .inl e)) (fun b o e => hne b o e)
theorem TRow.boxed (w : World) (d a : Int) : TRow (w.alloc (.cells #[.int .i64 d, .int .i64 a] 35)) (some ⟨w.heap.size, 0, none⟩) [(d, a)] := by
  have A := arr_new w #[.int .i64 d, .int .i64 a] 35
  refine .inr ⟨w.heap.size, 0, rfl, by simp, fun i hi => ?_⟩
  have e : i = 0 := by simpa using hi
  subst e
  exact ⟨A.cells 0 _ rfl, A.cells 1 _ rfl⟩
theorem TRow.drop0 {w : World} {b : Nat} {xs : List Tm} (h : TRow w (some ⟨b, 0, none⟩) xs) (k : Nat) : TRow w (some ⟨b, k * 2, none⟩) (xs.drop k) := by
  have := TRow.drop h k
  rwa [Nat.zero_add] at this
/-- What is put among the others, in its place. -/
theorem put_done {B : Nat} {w W W' : World} {Z : Nat → Prop} {a a' : Option Addr} {c c' i n : Nat} {ws ys : List Tm} {x : Tm} (h : Two B w W Z a c ws ys) (hb : Below W.heap.size W W') (ho : W'.ownsRow W.heap.size 35 2 (.slice a' n c') n (tcells ((ws.take i ++ [x]) ++ ws.drop i))) (hn : n = ws.length + 1) (hi : i ≤ ws.length)
    (h1 : ∀ q, q < i → tlt (tget ws q) x = true) (h2 : i < ws.length → tlt (tget ws i) x = false) (hno : ∀ y ∈ ws, y.2 ≠ x.2) (hp : ys.Perm (ws ++ [x])) :
    Two B w W' (fun q => Z q ∨ ofRow a' q) a' c' (ws.take i ++ x :: ws.drop i) ys ∧ (ws.take i ++ x :: ws.drop i).Perm ys := by
  have hl : (ws.take i ++ x :: ws.drop i).length = n := by
    rw [(perm_insert ws x i).length_eq, List.length_append, hn]; rfl
  rw [List.append_assoc, List.singleton_append] at ho
  refine ⟨h.renew hb (by rw [hl]; exact ho) (srt_insert h.srt hi h1 h2 hno), (perm_insert ws x i).trans hp.symm⟩

theorem timerPlays_long (b : Option Addr) (r cb : Nat) (w : World) (hr : 100 < r) : Calls Try.prog 3 #[.slice b r cb] w fun e w' => e = .returned (.bool true) ∧ Below w.heap.size w w' := by
  have h2 : (100 : Int) < (r : Int) := by omega
  go_enter Try.func3, Try.ntmps3
  go_wp2_with fail
  refine Calls.mono (tim_awake _) ?_
  rintro e w1 ⟨rfl, b1⟩
  go_wp2_with fail
  refine Calls.mono (tim_awake _) ?_
  rintro e w2 ⟨rfl, b2⟩
  go_wp2
  go_ret
  exact ⟨rfl, b1.trans (b2.mono b1.size)⟩

set_option maxHeartbeats 16000000 in
theorem timerPlays_ok (b : Option Addr) (r cb : Nat) (g : Nat → Sct) (w : World) (hr : r ≤ 100) (hg : ActRow w b r g) (hgw : ∀ k, W64 (g k).A) :
    Calls Try.prog 3 #[.slice b r cb] w fun e w' => e = .returned (.bool true) ∧ Below w.heap.size w w' := by
  have h2 : ¬ (100 : Int) < (r : Int) := by omega
  have HG : Aside (ActRow w b r g) := hg
  have HGW : Aside (∀ k, W64 (g k).A) := hgw
  clear hg hgw
  go_enter Try.func3, Try.ntmps3
  go_wp2_with fail
  refine Calls.mono (tim_awake _) ?_
  rintro e w1 ⟨rfl, b1⟩
  have HB1 : Aside (Below w.heap.size w w1) := b1
  have BF := bes_fresh w1
  have T0 : Aside (Two w1.heap.size w1 (w1.alloc (.cells #[.slice none 0 0, .map none] 30)) (ofRow none) none 0 [] []) :=
    ⟨BF.st.mono (fun k hk => ⟨hk, fun ⟨o, e⟩ => by cases e⟩), BF.below, BF.le, .inl rfl, List.Pairwise.nil, Nat.le_refl _, fun _ => rfl, (fun x e => by cases e), (fun q ⟨o, e⟩ => by cases e)⟩
  clear b1 BF
  go_upto_region 4 with (fail)
  show Code.wp _ _ _ _ (w1.alloc (.cells #[.slice none 0 0, .map none] 30))
  generalize w1.alloc (.cells #[.slice none 0 0, .map none] 30) = w2 at *
  have HBX : Aside (∀ W, Below w1.heap.size w1 W → Below w.heap.size w W) := fun W h => HB1.out.trans (h.mono HB1.out.size)
  obtain ⟨B, hB⟩ : ∃ B, B = w1.heap.size := ⟨_, rfl⟩
  rw [← hB] at T0 HBX ⊢
  clear hB HB1
  go_wp2
  go_loopw [4, 24] (fun s i wr => ∃ (k : Nat) (a : Option Addr) (c : Nat) (ms ys : List Tm), k ≤ r ∧ ms.length ≤ k ∧ i = .int .i64 k ∧ s = .slice a ms.length c ∧ Aside (Two B w1 wr (ofRow a) a c ms ys ∧ ms.Perm ys)) (fun _ i _ => r - (intOf i).toNat)
  case atStart => exact ⟨0, none, 0, [], [], Nat.zero_le _, Nat.le_refl _, rfl, rfl, T0.out, List.Perm.refl _⟩
  case round =>
    clear T0
    obtain ⟨k, a, c, ms, ys, hk, hm, rfl, rfl, HT⟩ := hrel
    by_cases hlt : k < r
    · have hkr : (k : Int) < (r : Int) := by omega
      have hk0 : (0 : Int) ≤ (k : Int) := by omega
      obtain ⟨bq, o, rfl, lq, cq⟩ := (HG.out : ActRow w b r g) (by omega)
      obtain ⟨x0, x1, x2⟩ := act_all ((cq k hlt).below (HBX.out _ HT.out.1.below) lq)
      have hA := HGW.out k
      have HT5 : Aside (Two B w1 (wr.alloc (.cells (g k).arr 32)) (fun q => ofRow a q ∨ q = wr.heap.size) a c ms ys ∧ ms.Perm ys) := ⟨HT.out.1.add _, HT.out.2⟩
      have AX : ArrAt (wr.alloc (.cells (g k).arr 32)) wr.heap.size 0 (g k).arr := arr_new wr _ _
      have hly : ys.length ≤ 100 := by have := HT.out.2.length_eq; omega
      clear cq HT
      generalize g k = y at *
      obtain ⟨K, A, D⟩ := y
      unfold Sct.arr at HT5 AX
      dsimp only at x0 x1 x2 hA HT5 AX
      go_upto_region 18 with (fail)
      show Code.wp _ _ _ _ (wr.alloc (.cells #[.int .u8 K, .int .i64 A, .int .i64 D] 32))
      clear x0 x1 x2
      have hX : wr.heap.size < (wr.alloc (.cells #[.int .u8 K, .int .i64 A, .int .i64 D] 32)).heap.size := by simp
      obtain ⟨z0, z1, z2⟩ := act_all (x := ⟨K, A, D⟩) AX
      rw [Nat.zero_add] at z1 z2
      clear AX
      generalize wr.alloc (.cells #[.int .u8 K, .int .i64 A, .int .i64 D] 32) = w5 at *
      generalize wr.heap.size = X at *
      dsimp only at z0 z1 z2
      by_cases hK : K < 3
      · as_aux_lemma =>
          have HSET : Aside _ := two_set HT5.out.1 A D hA (by omega)
          have HP : Aside (ms.Perm ys) := HT5.out.2
          have lm : ms.length ≤ 100 := by omega
          clear HT5
          go_wp2_with fail
          refine Calls.mono HSET.out ?_
          rintro e w6 ⟨rfl, u6, zs, t6, p6⟩
          have v1 := (u6.cell (p := ⟨X, 1, none⟩) hX (fun e => e.2 (.inr rfl))).trans z1
          have v2 := (u6.cell (p := ⟨X, 2, none⟩) hX (fun e => e.2 (.inr rfl))).trans z2
          have hX6 : X < w6.heap.size := Nat.lt_of_lt_of_le hX u6.size
          have HT6 : Aside (Two B w1 w6 (fun q => ofRow a q ∨ q = X) a c ms zs ∧ zs.Perm (without ys A ++ [(D, A)])) := ⟨t6, p6⟩
          clear u6 t6 p6 z0 z1 z2 HSET
          go_upto_region 21 with (fail)
          show Code.wp _ _ _ _ (w6.alloc (.cells #[.int .i64 D, .int .i64 A] 35))
          have b7 : Below w6.heap.size w6 (w6.alloc (.cells #[.int .i64 D, .int .i64 A] 35)) := upd_box _
          have q1 := (b7.cell (p := ⟨X, 1, none⟩) hX6).trans v1
          have A7 : Aside (ArrAt (w6.alloc (.cells #[.int .i64 D, .int .i64 A] 35)) w6.heap.size 0 #[.int .i64 D, .int .i64 A]) := arr_new w6 _ _
          have HT7 : Aside (Two B w1 (w6.alloc (.cells #[.int .i64 D, .int .i64 A] 35)) (fun q => ofRow a q ∨ q = X) a c ms zs ∧ zs.Perm (without ys A ++ [(D, A)])) := ⟨HT6.out.1.after b7, HT6.out.2⟩
          clear b7 HT6 v1 v2
          generalize w6.alloc (.cells #[.int .i64 D, .int .i64 A] 35) = w7 at *
          generalize w6.heap.size = Y at *
          have HWO : Aside _ := mod_without (c := c) HT7.out.1.row rfl (by omega) A
          go_wp2_with fail
          refine Calls.mono HWO.out ?_
          rintro e w8 ⟨a8, c8, rfl, o8, b8⟩
          have HT8 : Aside (Two B w1 w8 (fun q => (ofRow a q ∨ q = X) ∨ ofRow a8 q) a8 c8 (without ms A) zs) := HT7.out.1.renew b8 o8 (srt_without HT7.out.1.srt A)
          have HPZ : Aside (zs.Perm (without ms A ++ [(D, A)])) := HT7.out.2.trans ((without_perm HP.out.symm A).append_right _)
          have HNO : Aside (∀ y ∈ without ms A, y.2 ≠ A) := fun y hy => (without_mem.1 hy).2
          have A8 : Aside (ArrAt w8 Y 0 #[.int .i64 D, .int .i64 A]) := A7.out.grown b8
          have AD8 : Aside (a8 = none ∨ ∃ g8, a8 = some ⟨g8, 0, none⟩) := by
            rcases o8.2 with ⟨h2, _⟩ | ⟨g', cap, cur, h2, _⟩
            · injection h2 with e _ _; exact .inl e
            · injection h2 with e _ _; exact .inr ⟨g', e⟩
          have lw : (without ms A).length ≤ ms.length := List.length_filter_le _ _
          clear b8 o8 HT7 HWO q1 HP A7 hX6
          generalize hWS : without ms A = WS at *
          clear hWS
          go_wp2
          go_loopw [8] (fun s wq => ∃ i : Nat, i ≤ WS.length ∧ s = .int .i64 i ∧ Aside (Below w8.heap.size w8 wq ∧ ∀ q, q < i → tlt (tget WS q) (D, A) = true)) (fun s _ => WS.length - (intOf s).toNat)
          case atStart => exact ⟨0, Nat.zero_le _, rfl, Below.refl _ _, fun q hq => absurd hq (Nat.not_lt_zero _)⟩
          case round =>
            obtain ⟨i, hi, rfl, HW⟩ := hrel
            have yA := A8.out.below HW.out.1 A8.out.lt
            have y0 : wr.cell? ⟨Y, 0, none⟩ = some (.int .i64 D) := yA.cells 0 _ rfl
            have y1 : wr.cell? ⟨Y, 1, none⟩ = some (.int .i64 A) := yA.cells 1 _ rfl
            have hYl : Y < wr.heap.size := yA.lt
            clear yA
            by_cases hin : i < WS.length
            · have hinz : (i : Int) < (WS.length : Int) := by omega
              obtain ⟨b1, o1, rfl, hb1, hc1⟩ := (HT8.out.row.below HW.out.1).at_ (by omega)
              obtain ⟨l0, l1⟩ := hc1 i hin
              have HAH : Aside (∀ W, Below wr.heap.size wr W → Calls Try.prog 10 #[.agg #[.int .i64 (tget WS i).1, .int .i64 (tget WS i).2], .agg #[.int .i64 D, .int .i64 A]] W fun e w' => e = .returned (.bool (tlt (tget WS i) (D, A))) ∧ Below wr.heap.size wr w') := fun W hb => (mod_ahead (tget WS i) (D, A) W).mono fun _ _ x => ⟨x.1, hb.trans (x.2.mono hb.size)⟩
              clear hc1
              have bb := Below.refl wr.heap.size wr
              have HR8 : Aside (TRow wr (some ⟨b1, o1, none⟩) WS) := HT8.out.row.below HW.out.1
              generalize hlt9 : tlt (tget WS i) (D, A) = lt9 at *
              have HL9 : Hid (tlt (tget WS i) (D, A) = lt9) := hlt9
              clear hlt9
              have hd9 : Hid (tget WS i = tget WS i) := rfl
              obtain ⟨di, hdi⟩ : ∃ di, di = (tget WS i).1 := ⟨_, rfl⟩
              obtain ⟨ni, hni⟩ : ∃ ni, ni = (tget WS i).2 := ⟨_, rfl⟩
              rw [← hdi] at l0 HAH
              rw [← hni] at l1 HAH
              clear hdi hni hd9
              go_wp2_with fail
              go_region_held3 (fun w' => Below wr.heap.size wr w' ∧ w'.cell? ⟨b1, o1 + i * 2, none⟩ = some (.int .i64 di) ∧ w'.cell? ⟨b1, o1 + i * 2 + 1, none⟩ = some (.int .i64 ni) ∧ w'.cell? ⟨Y, 0, none⟩ = some (.int .i64 D) ∧ w'.cell? ⟨Y, 1, none⟩ = some (.int .i64 A))
                (refine ⟨?_, (Below.cell (p := ⟨b1, o1 + i * 2, none⟩) ?_ hb1).trans l0, (Below.cell (p := ⟨b1, o1 + i * 2 + 1, none⟩) ?_ hb1).trans l1, (Below.cell (p := ⟨Y, 0, none⟩) ?_ hYl).trans y0, (Below.cell (p := ⟨Y, 1, none⟩) ?_ hYl).trans y1⟩ <;> (with_reducible (repeat (first | assumption | refine Below.drew ?_))))
                ((go_at_call 10; refine Calls.mono (HAH.out _ ?_) ?_; (with_reducible (repeat (first | assumption | refine Below.drew ?_))); rintro e w9 ⟨rfl, b9⟩))
              all_goals
                have z0 := (b9.cell (p := ⟨Y, 0, none⟩) hYl).trans y0
                have z1 := (b9.cell (p := ⟨Y, 1, none⟩) hYl).trans y1
                have HW9 : Aside (Below w8.heap.size w8 w9 ∧ ∀ q, q < i → tlt (tget WS q) (D, A) = true) := ⟨HW.out.1.trans (b9.mono HW.out.1.size), HW.out.2⟩
                have HR9 : Aside (TRow w9 (some ⟨b1, o1, none⟩) WS) := HR8.out.below b9
                have hY9 : Y < w9.heap.size := Nat.lt_of_lt_of_le hYl b9.size
                clear b9 l0 l1 y0 y1 HAH bb HW HR8 hYl
                cases lt9
                · clear A8
                  have hci : (i : Int) ≤ (c8 : Int) := by have := HT8.out.cap; omega
                  have hcn : ¬ c8 = i := by have := HT8.out.cap; omega
                  have bb9 := Below.refl w9.heap.size w9
                  go_wp2_with fail
                  have hown1 : (w9.alloc (.cells #[] 35)).ownsRow w9.heap.size 35 2 (.slice (some ⟨w9.heap.size, 0, none⟩) 0 0) 0 (tcells []) := World.ownsRow_made w9 #[] 0 (Nat.le_refl _) (Nat.zero_le _) rfl
                  have hown2 : ((w9.alloc (.cells #[] 35)).alloc (.cells #[.int .i64 D, .int .i64 A] 35)).ownsRow w9.heap.size 35 2 (.slice (some ⟨w9.heap.size, 0, none⟩) 0 0) 0 (tcells []) := ownsRow_alloc hown1 _
                  have hown3 : ((w9.alloc (.cells #[.int .i64 D, .int .i64 A] 35)).alloc (.cells #[] 35)).ownsRow w9.heap.size 35 2 (.slice (some ⟨w9.heap.size + 1, 0, none⟩) 0 0) 0 (tcells []) := by
                    have := World.ownsRow_made (base := w9.heap.size) (e := 35) (size := 2) (w9.alloc (.cells #[.int .i64 D, .int .i64 A] 35)) #[] 0 (by simp) (Nat.zero_le _) rfl
                    rwa [show (w9.alloc (.cells #[.int .i64 D, .int .i64 A] 35)).heap.size = w9.heap.size + 1 by simp] at this
                  have hb1' : Below w9.heap.size w9 (w9.alloc (.cells #[] 35)) := upd_box _
                  have hb2' : Below w9.heap.size w9 ((w9.alloc (.cells #[] 35)).alloc (.cells #[.int .i64 D, .int .i64 A] 35)) := below_two w9 _ _
                  have hb3' : Below w9.heap.size w9 ((w9.alloc (.cells #[.int .i64 D, .int .i64 A] 35)).alloc (.cells #[] 35)) := below_two w9 _ _
                  have hrow1 : TRow (w9.alloc (.cells #[] 35)) (some ⟨b1, o1, none⟩) (WS.take i) := TRow.take (HR9.out.below (upd_box _)) i
                  have hrow2 : TRow ((w9.alloc (.cells #[] 35)).alloc (.cells #[.int .i64 D, .int .i64 A] 35)) (some ⟨b1, o1, none⟩) (WS.take i) := TRow.take (HR9.out.below (below_two w9 _ _)) i
                  have hrow3 : TRow ((w9.alloc (.cells #[.int .i64 D, .int .i64 A] 35)).alloc (.cells #[] 35)) (some ⟨b1, o1, none⟩) (WS.take i) := TRow.take (HR9.out.below (below_two w9 _ _)) i
                  have hx2 : TRow ((w9.alloc (.cells #[] 35)).alloc (.cells #[.int .i64 D, .int .i64 A] 35)) (some ⟨w9.heap.size + 1, 0, none⟩) [(D, A)] := by
                    have := TRow.boxed (w9.alloc (.cells #[] 35)) D A
                    rwa [show (w9.alloc (.cells #[] 35)).heap.size = w9.heap.size + 1 by simp] at this
                  have hx3 : TRow ((w9.alloc (.cells #[.int .i64 D, .int .i64 A] 35)).alloc (.cells #[] 35)) (some ⟨w9.heap.size, 0, none⟩) [(D, A)] := (TRow.boxed w9 D A).below (upd_box _)
                  have hx2d : TRow (World.drew ((w9.alloc (.cells #[] 35)).alloc (.cells #[.int .i64 D, .int .i64 A] 35))) (some ⟨w9.heap.size + 1, 0, none⟩) [(D, A)] := hx2
                  have hx3d : TRow (World.drew ((w9.alloc (.cells #[.int .i64 D, .int .i64 A] 35)).alloc (.cells #[] 35))) (some ⟨w9.heap.size, 0, none⟩) [(D, A)] := hx3
                  have hl1 : (WS.take i).length = i := by rw [List.length_take]; omega
                  have hl3 : (WS.drop i).length = WS.length - i := by rw [List.length_drop]
                  have hf1 : 0 + i ≤ 10000 := by omega
                  have hf2 : i + 1 ≤ 10000 := by omega
                  have hf3 : i + 1 + (WS.length - i) ≤ 10000 := by omega
                  go_region_held3 (fun w' => Below w9.heap.size w9 w' ∧ w'.cell? ⟨Y, 0, none⟩ = some (.int .i64 D) ∧ w'.cell? ⟨Y, 1, none⟩ = some (.int .i64 A))
                    (refine ⟨?_, (Below.cell (p := ⟨Y, 0, none⟩) ?_ hY9).trans z0, (Below.cell (p := ⟨Y, 1, none⟩) ?_ hY9).trans z1⟩ <;> (with_reducible (repeat (first | assumption | refine Below.drew ?_ | refine blw_alloc ?_ _))))
                    ((first
                       | (refine step_append_tm (by rfl) _ _ (by rfl) w9.heap.size (i + 1) (WS.length - i) a11 (some ⟨b1, o1 + i * 2, none⟩) c11 (c8 - i) (WS.take i ++ [(D, A)]) (WS.drop i) (by kernel_rfl) (by kernel_rfl) r11 hl3 (TRow.drop (HR9.out.below b11) i) (fun e => by cases e) (fun _ => ⟨b1, o1 + i * 2, rfl⟩) hf3 b11.size (i + 1 + (WS.length - i)) rfl ?_; intro a12 c12 w12 r12 g12 n12; have b12 : Below w9.heap.size w9 w12 := b11.grown g12 b11.size (fun k hk => own_base r11 hk))
                       | (refine step_append_tm (by rfl) _ _ (by rfl) w9.heap.size i 1 a10 (some ⟨w10.heap.size, 0, none⟩) c10 1 (WS.take i) [(D, A)] (by kernel_rfl) (by kernel_rfl) (ownsRow_alloc r10 _) rfl (TRow.boxed w10 D A) (fun e => by cases e) (fun _ => ⟨w10.heap.size, 0, rfl⟩) hf2 (blw_alloc b10 (.cells #[.int .i64 D, .int .i64 A] 35)).size (i + 1) rfl ?_; intro a11 c11 w11 r11 g11 n11; have b11 : Below w9.heap.size w9 w11 := (blw_alloc b10 (.cells #[.int .i64 D, .int .i64 A] 35)).grown g11 (blw_alloc b10 (.cells #[.int .i64 D, .int .i64 A] 35)).size (fun k hk => own_base r10 hk))
                       | (refine step_append_tm (by rfl) _ _ (by rfl) w9.heap.size i 1 a10b (some ⟨w9.heap.size + 1, 0, none⟩) c10b 1 (WS.take i) [(D, A)] (by kernel_rfl) (by kernel_rfl) r10b rfl t10b (fun e => by cases e) (fun _ => ⟨w9.heap.size + 1, 0, rfl⟩) hf2 b10b.size (i + 1) rfl ?_; intro a11 c11 w11 r11 g11 n11; have b11 : Below w9.heap.size w9 w11 := b10b.grown g11 b10b.size (fun k hk => own_base r10b hk))
                       | (refine step_append_tm (by rfl) _ _ (by rfl) w9.heap.size i 1 a10c (some ⟨w9.heap.size, 0, none⟩) c10c 1 (WS.take i) [(D, A)] (by kernel_rfl) (by kernel_rfl) r10c rfl t10c (fun e => by cases e) (fun _ => ⟨w9.heap.size, 0, rfl⟩) hf2 b10c.size (i + 1) rfl ?_; intro a11 c11 w11 r11 g11 n11; have b11 : Below w9.heap.size w9 w11 := b10c.grown g11 b10c.size (fun k hk => own_base r10c hk))
                       | (refine step_append_tm (by rfl) _ _ (by rfl) w9.heap.size 0 i (some ⟨w9.heap.size, 0, none⟩) (some ⟨b1, o1, none⟩) 0 c8 [] (WS.take i) (by kernel_rfl) (by kernel_rfl) hown1 hl1 hrow1 (fun e => by cases e) (fun _ => ⟨b1, o1, rfl⟩) hf1 hb1'.size i (Nat.zero_add i) ?_; intro a10 c10 w10 r10 g10 n10; have b10 : Below w9.heap.size w9 w10 := (Below.drew hb1').grown g10 hb1'.size (fun k hk => own_base hown1 hk))
                       | (refine step_append_tm (by rfl) _ _ (by rfl) w9.heap.size 0 i (some ⟨w9.heap.size, 0, none⟩) (some ⟨b1, o1, none⟩) 0 c8 [] (WS.take i) (by kernel_rfl) (by kernel_rfl) hown2 hl1 hrow2 (fun e => by cases e) (fun _ => ⟨b1, o1, rfl⟩) hf1 hb2'.size i (Nat.zero_add i) ?_; intro a10b c10b w10b r10b g10b n10b; have b10b : Below w9.heap.size w9 w10b := (Below.drew hb2').grown g10b hb2'.size (fun k hk => own_base hown2 hk); have t10b : TRow w10b (some ⟨w9.heap.size + 1, 0, none⟩) [(D, A)] := TRow.grown hx2d g10b (fun q o e e2 => by cases e; have h9 : w9.heap.size = w9.heap.size + 1 := Option.some.inj e2; omega))
                       | (refine step_append_tm (by rfl) _ _ (by rfl) w9.heap.size 0 i (some ⟨w9.heap.size + 1, 0, none⟩) (some ⟨b1, o1, none⟩) 0 c8 [] (WS.take i) (by kernel_rfl) (by kernel_rfl) hown3 hl1 hrow3 (fun e => by cases e) (fun _ => ⟨b1, o1, rfl⟩) hf1 hb3'.size i (Nat.zero_add i) ?_; intro a10c c10c w10c r10c g10c n10c; have b10c : Below w9.heap.size w9 w10c := (Below.drew hb3').grown g10c hb3'.size (fun k hk => own_base hown3 hk); have t10c : TRow w10c (some ⟨w9.heap.size, 0, none⟩) [(D, A)] := TRow.grown hx3d g10c (fun q o e e2 => by cases e; have h9 : w9.heap.size + 1 = w9.heap.size := Option.some.inj e2; omega))
                       | fail))
                  all_goals
                    have e12 : i + 1 + (WS.length - i) = WS.length + 1 := by omega
                    rw [e12] at r12 ⊢
                    have HTF : Aside (Two B w1 w12 (fun q => ((ofRow a q ∨ q = X) ∨ ofRow (some ⟨b1, o1, none⟩) q) ∨ ofRow a12 q) a12 c12 (WS.take i ++ (D, A) :: WS.drop i) zs ∧ (WS.take i ++ (D, A) :: WS.drop i).Perm zs) :=
                      put_done (HT8.out.after HW9.out.1) b12 r12 rfl hi HW9.out.2 (fun _ => HL9.out) HNO.out HPZ.out
                    have hlF : (WS.take i ++ (D, A) :: WS.drop i).length = WS.length + 1 := by rw [(perm_insert WS (D, A) i).length_eq, List.length_append]; rfl
                    clear r12 b12 r11 g11 g12 b11 HW9 HR9 HNO HPZ HT8 hown1 hown2 hown3 hrow1 hrow2 hrow3 hx2 hx3 hx2d hx3d hb1' hb2' hb3' z0 z1
                    have HSM : Aside _ := tim_same (c := c12) HTF.out.1.st HTF.out.1.srt HTF.out.2 HTF.out.1.row hlF
                    go_wp2_with fail
                    refine Calls.mono HSM.out ?_
                    rintro e w9 ⟨rfl, b9⟩
                    have HN : Aside (Two B w1 w9 (ofRow (a12)) (a12) (c12) (WS.take i ++ (D, A) :: WS.drop i) zs ∧ (WS.take i ++ (D, A) :: WS.drop i).Perm zs) := ⟨(HTF.out.1.after b9).only, HTF.out.2⟩
                    have HLN : Hid ((WS.take i ++ (D, A) :: WS.drop i).length ≤ k + 1) := by show _ ≤ _; rw [hlF]; omega
                    clear b9 HSM HTF
                    go_wp2
                    go_roundw
                    case rel => exact ⟨k + 1, a12, c12, WS.take i ++ (D, A) :: WS.drop i, zs, by omega, HLN.out, by go_num, by rw [hlF], HN.out⟩
                    case measure => simp [intOf]; omega
                · have HW10 : Aside (Below w8.heap.size w8 w9 ∧ ∀ q, q < i + 1 → tlt (tget WS q) (D, A) = true) := ⟨HW9.out.1, fun q hq => by
                    by_cases e : q = i
                    · rw [e]; exact HL9.out
                    · exact HW9.out.2 q (by omega)⟩
                  clear HW9 HR9 z0 z1 hY9
                  go_wp2
                  go_roundw
                  case rel => exact ⟨i + 1, by omega, by go_num, HW10.out⟩
                  case measure => simp [intOf]; omega
            · have hiw : i = WS.length := by omega
              have hll : ¬ (i : Int) < (WS.length : Int) := by omega
              have hcap := HT8.out.cap
              have HIW : Hid (i = WS.length) := hiw
              clear hiw
              go_wp2_with fail
              go_quiet (fail)
              have z0 : (wr.drewN nq).cell? ⟨Y, 0, none⟩ = some (.int .i64 D) := y0
              have z1 : (wr.drewN nq).cell? ⟨Y, 1, none⟩ = some (.int .i64 A) := y1
              have HW9 : Aside (Below w8.heap.size w8 (wr.drewN nq) ∧ ∀ q, q < i → tlt (tget WS q) (D, A) = true) := ⟨HW.out.1.trans ⟨rfl, rfl, rfl, Nat.le_refl _, fun _ _ => rfl⟩, HW.out.2⟩
              have HR9 : Aside (TRow (wr.drewN nq) a8 WS) := HT8.out.row.below HW9.out.1
              have hY9 : Y < (wr.drewN nq).heap.size := hYl
              have bb9 := Below.refl (wr.drewN nq).heap.size (wr.drewN nq)
              clear y0 y1 HW hYl A8 hll
              generalize wr.drewN nq = w9 at *
              have hci : (i : Int) ≤ (c8 : Int) := by omega
              rcases AD8.out with e8 | ⟨g8, e8⟩
              · subst e8
                have hc0 := HT8.out.nil rfl
                subst hc0
                have hW0 : WS = [] := List.length_eq_zero_iff.1 (by omega)
                subst hW0
                obtain rfl : i = 0 := by have h9 := HIW.out; simpa using h9
                go_wp2_with fail
                have hown1 : (w9.alloc (.cells #[] 35)).ownsRow w9.heap.size 35 2 (.slice (some ⟨w9.heap.size, 0, none⟩) 0 0) 0 (tcells []) := World.ownsRow_made w9 #[] 0 (Nat.le_refl _) (Nat.zero_le _) rfl
                have hown2 : ((w9.alloc (.cells #[] 35)).alloc (.cells #[.int .i64 D, .int .i64 A] 35)).ownsRow w9.heap.size 35 2 (.slice (some ⟨w9.heap.size, 0, none⟩) 0 0) 0 (tcells []) := ownsRow_alloc hown1 _
                have hown3 : ((w9.alloc (.cells #[.int .i64 D, .int .i64 A] 35)).alloc (.cells #[] 35)).ownsRow w9.heap.size 35 2 (.slice (some ⟨w9.heap.size + 1, 0, none⟩) 0 0) 0 (tcells []) := by
                  have := World.ownsRow_made (base := w9.heap.size) (e := 35) (size := 2) (w9.alloc (.cells #[.int .i64 D, .int .i64 A] 35)) #[] 0 (by simp) (Nat.zero_le _) rfl
                  rwa [show (w9.alloc (.cells #[.int .i64 D, .int .i64 A] 35)).heap.size = w9.heap.size + 1 by simp] at this
                have hb1' : Below w9.heap.size w9 (w9.alloc (.cells #[] 35)) := upd_box _
                have hb2' : Below w9.heap.size w9 ((w9.alloc (.cells #[] 35)).alloc (.cells #[.int .i64 D, .int .i64 A] 35)) := below_two w9 _ _
                have hb3' : Below w9.heap.size w9 ((w9.alloc (.cells #[.int .i64 D, .int .i64 A] 35)).alloc (.cells #[] 35)) := below_two w9 _ _
                have hrow1 : TRow (w9.alloc (.cells #[] 35)) none (([] : List Tm)) := (.inl rfl)
                have hrow2 : TRow ((w9.alloc (.cells #[] 35)).alloc (.cells #[.int .i64 D, .int .i64 A] 35)) none (([] : List Tm)) := (.inl rfl)
                have hrow3 : TRow ((w9.alloc (.cells #[.int .i64 D, .int .i64 A] 35)).alloc (.cells #[] 35)) none (([] : List Tm)) := (.inl rfl)
                have hx2 : TRow ((w9.alloc (.cells #[] 35)).alloc (.cells #[.int .i64 D, .int .i64 A] 35)) (some ⟨w9.heap.size + 1, 0, none⟩) [(D, A)] := by
                  have := TRow.boxed (w9.alloc (.cells #[] 35)) D A
                  rwa [show (w9.alloc (.cells #[] 35)).heap.size = w9.heap.size + 1 by simp] at this
                have hx3 : TRow ((w9.alloc (.cells #[.int .i64 D, .int .i64 A] 35)).alloc (.cells #[] 35)) (some ⟨w9.heap.size, 0, none⟩) [(D, A)] := (TRow.boxed w9 D A).below (upd_box _)
                have hx2d : TRow (World.drew ((w9.alloc (.cells #[] 35)).alloc (.cells #[.int .i64 D, .int .i64 A] 35))) (some ⟨w9.heap.size + 1, 0, none⟩) [(D, A)] := hx2
                have hx3d : TRow (World.drew ((w9.alloc (.cells #[.int .i64 D, .int .i64 A] 35)).alloc (.cells #[] 35))) (some ⟨w9.heap.size, 0, none⟩) [(D, A)] := hx3
                have hl1 : (([] : List Tm)).length = 0 := rfl
                have hl3 : (([] : List Tm)).length = 0 := rfl
                have hf1 : 0 + 0 ≤ 10000 := by omega
                have hf2 : 0 + 1 ≤ 10000 := by omega
                have hf3 : 0 + 1 + (0) ≤ 10000 := by omega
                go_region_held3 (fun w' => Below w9.heap.size w9 w' ∧ w'.cell? ⟨Y, 0, none⟩ = some (.int .i64 D) ∧ w'.cell? ⟨Y, 1, none⟩ = some (.int .i64 A))
                  (refine ⟨?_, (Below.cell (p := ⟨Y, 0, none⟩) ?_ hY9).trans z0, (Below.cell (p := ⟨Y, 1, none⟩) ?_ hY9).trans z1⟩ <;> (with_reducible (repeat (first | assumption | refine Below.drew ?_ | refine blw_alloc ?_ _))))
                  ((first
                     | (refine step_append_tm (by rfl) _ _ (by rfl) w9.heap.size (0 + 1) (0) a11 none c11 (0) (([] : List Tm) ++ [(D, A)]) (([] : List Tm)) (by kernel_rfl) (by kernel_rfl) r11 hl3 (.inl rfl) (fun _ => ⟨rfl, rfl⟩) (fun e => absurd rfl e) hf3 b11.size (0 + 1 + (0)) rfl ?_; intro a12 c12 w12 r12 g12 n12; have b12 : Below w9.heap.size w9 w12 := b11.grown g12 b11.size (fun k hk => own_base r11 hk))
                     | (refine step_append_tm (by rfl) _ _ (by rfl) w9.heap.size 0 1 a10 (some ⟨w10.heap.size, 0, none⟩) c10 1 (([] : List Tm)) [(D, A)] (by kernel_rfl) (by kernel_rfl) (ownsRow_alloc r10 _) rfl (TRow.boxed w10 D A) (fun e => by cases e) (fun _ => ⟨w10.heap.size, 0, rfl⟩) hf2 (blw_alloc b10 (.cells #[.int .i64 D, .int .i64 A] 35)).size (0 + 1) rfl ?_; intro a11 c11 w11 r11 g11 n11; have b11 : Below w9.heap.size w9 w11 := (blw_alloc b10 (.cells #[.int .i64 D, .int .i64 A] 35)).grown g11 (blw_alloc b10 (.cells #[.int .i64 D, .int .i64 A] 35)).size (fun k hk => own_base r10 hk))
                     | (refine step_append_tm (by rfl) _ _ (by rfl) w9.heap.size 0 1 a10b (some ⟨w9.heap.size + 1, 0, none⟩) c10b 1 (([] : List Tm)) [(D, A)] (by kernel_rfl) (by kernel_rfl) r10b rfl t10b (fun e => by cases e) (fun _ => ⟨w9.heap.size + 1, 0, rfl⟩) hf2 b10b.size (0 + 1) rfl ?_; intro a11 c11 w11 r11 g11 n11; have b11 : Below w9.heap.size w9 w11 := b10b.grown g11 b10b.size (fun k hk => own_base r10b hk))
                     | (refine step_append_tm (by rfl) _ _ (by rfl) w9.heap.size 0 1 a10c (some ⟨w9.heap.size, 0, none⟩) c10c 1 (([] : List Tm)) [(D, A)] (by kernel_rfl) (by kernel_rfl) r10c rfl t10c (fun e => by cases e) (fun _ => ⟨w9.heap.size, 0, rfl⟩) hf2 b10c.size (0 + 1) rfl ?_; intro a11 c11 w11 r11 g11 n11; have b11 : Below w9.heap.size w9 w11 := b10c.grown g11 b10c.size (fun k hk => own_base r10c hk))
                     | (refine step_append_tm (by rfl) _ _ (by rfl) w9.heap.size 0 0 (some ⟨w9.heap.size, 0, none⟩) none 0 0 [] (([] : List Tm)) (by kernel_rfl) (by kernel_rfl) hown1 hl1 hrow1 (fun _ => ⟨rfl, rfl⟩) (fun e => absurd rfl e) hf1 hb1'.size 0 (Nat.zero_add 0) ?_; intro a10 c10 w10 r10 g10 n10; have b10 : Below w9.heap.size w9 w10 := (Below.drew hb1').grown g10 hb1'.size (fun k hk => own_base hown1 hk))
                     | (refine step_append_tm (by rfl) _ _ (by rfl) w9.heap.size 0 0 (some ⟨w9.heap.size, 0, none⟩) none 0 0 [] (([] : List Tm)) (by kernel_rfl) (by kernel_rfl) hown2 hl1 hrow2 (fun _ => ⟨rfl, rfl⟩) (fun e => absurd rfl e) hf1 hb2'.size 0 (Nat.zero_add 0) ?_; intro a10b c10b w10b r10b g10b n10b; have b10b : Below w9.heap.size w9 w10b := (Below.drew hb2').grown g10b hb2'.size (fun k hk => own_base hown2 hk); have t10b : TRow w10b (some ⟨w9.heap.size + 1, 0, none⟩) [(D, A)] := TRow.grown hx2d g10b (fun q o e e2 => by cases e; have h9 : w9.heap.size = w9.heap.size + 1 := Option.some.inj e2; omega))
                     | (refine step_append_tm (by rfl) _ _ (by rfl) w9.heap.size 0 0 (some ⟨w9.heap.size + 1, 0, none⟩) none 0 0 [] (([] : List Tm)) (by kernel_rfl) (by kernel_rfl) hown3 hl1 hrow3 (fun _ => ⟨rfl, rfl⟩) (fun e => absurd rfl e) hf1 hb3'.size 0 (Nat.zero_add 0) ?_; intro a10c c10c w10c r10c g10c n10c; have b10c : Below w9.heap.size w9 w10c := (Below.drew hb3').grown g10c hb3'.size (fun k hk => own_base hown3 hk); have t10c : TRow w10c (some ⟨w9.heap.size, 0, none⟩) [(D, A)] := TRow.grown hx3d g10c (fun q o e e2 => by cases e; have h9 : w9.heap.size + 1 = w9.heap.size := Option.some.inj e2; omega))
                     | fail))
                all_goals
                  have e12 : 0 + 1 + (0) = 0 + 1 := by omega
                  rw [e12] at r12 ⊢
                  have HTF : Aside (Two B w1 w12 (fun q => ((ofRow a q ∨ q = X) ∨ ofRow none q) ∨ ofRow a12 q) a12 c12 (([] : List Tm) ++ (D, A) :: ([] : List Tm)) zs ∧ (([] : List Tm) ++ (D, A) :: ([] : List Tm)).Perm zs) :=
                    put_done (HT8.out.after HW9.out.1) b12 r12 rfl hi HW9.out.2 (fun h => absurd h (Nat.lt_irrefl 0)) HNO.out HPZ.out
                  have hlF : (([] : List Tm) ++ (D, A) :: ([] : List Tm)).length = 0 + 1 := rfl
                  clear r12 b12 r11 g11 g12 b11 HW9 HR9 HNO HPZ HT8 hown1 hown2 hown3 hrow1 hrow2 hrow3 hx2 hx3 hx2d hx3d hb1' hb2' hb3' z0 z1
                  have HSM : Aside _ := tim_same (c := c12) HTF.out.1.st HTF.out.1.srt HTF.out.2 HTF.out.1.row hlF
                  go_wp2_with fail
                  refine Calls.mono HSM.out ?_
                  rintro e w9 ⟨rfl, b9⟩
                  have HN : Aside (Two B w1 w9 (ofRow (a12)) (a12) (c12) (([] : List Tm) ++ (D, A) :: ([] : List Tm)) zs ∧ (([] : List Tm) ++ (D, A) :: ([] : List Tm)).Perm zs) := ⟨(HTF.out.1.after b9).only, HTF.out.2⟩
                  have HLN : Hid ((([] : List Tm) ++ (D, A) :: ([] : List Tm)).length ≤ k + 1) := by show _ ≤ _; rw [hlF]; omega
                  clear b9 HSM HTF
                  go_wp2
                  go_roundw
                  case rel => exact ⟨k + 1, a12, c12, ([] : List Tm) ++ (D, A) :: ([] : List Tm), zs, by omega, HLN.out, by go_num, by rw [hlF], HN.out⟩
                  case measure => simp [intOf]; omega
              · subst e8
                by_cases hcn : c8 = i
                · obtain rfl : i = WS.length := HIW.out
                  subst hcn
                  go_wp2_with fail
                  have hown1 : (w9.alloc (.cells #[] 35)).ownsRow w9.heap.size 35 2 (.slice (some ⟨w9.heap.size, 0, none⟩) 0 0) 0 (tcells []) := World.ownsRow_made w9 #[] 0 (Nat.le_refl _) (Nat.zero_le _) rfl
                  have hown2 : ((w9.alloc (.cells #[] 35)).alloc (.cells #[.int .i64 D, .int .i64 A] 35)).ownsRow w9.heap.size 35 2 (.slice (some ⟨w9.heap.size, 0, none⟩) 0 0) 0 (tcells []) := ownsRow_alloc hown1 _
                  have hown3 : ((w9.alloc (.cells #[.int .i64 D, .int .i64 A] 35)).alloc (.cells #[] 35)).ownsRow w9.heap.size 35 2 (.slice (some ⟨w9.heap.size + 1, 0, none⟩) 0 0) 0 (tcells []) := by
                    have := World.ownsRow_made (base := w9.heap.size) (e := 35) (size := 2) (w9.alloc (.cells #[.int .i64 D, .int .i64 A] 35)) #[] 0 (by simp) (Nat.zero_le _) rfl
                    rwa [show (w9.alloc (.cells #[.int .i64 D, .int .i64 A] 35)).heap.size = w9.heap.size + 1 by simp] at this
                  have hb1' : Below w9.heap.size w9 (w9.alloc (.cells #[] 35)) := upd_box _
                  have hb2' : Below w9.heap.size w9 ((w9.alloc (.cells #[] 35)).alloc (.cells #[.int .i64 D, .int .i64 A] 35)) := below_two w9 _ _
                  have hb3' : Below w9.heap.size w9 ((w9.alloc (.cells #[.int .i64 D, .int .i64 A] 35)).alloc (.cells #[] 35)) := below_two w9 _ _
                  have hrow1 : TRow (w9.alloc (.cells #[] 35)) (some ⟨g8, 0, none⟩) (WS.take WS.length) := TRow.take (HR9.out.below (upd_box _)) WS.length
                  have hrow2 : TRow ((w9.alloc (.cells #[] 35)).alloc (.cells #[.int .i64 D, .int .i64 A] 35)) (some ⟨g8, 0, none⟩) (WS.take WS.length) := TRow.take (HR9.out.below (below_two w9 _ _)) WS.length
                  have hrow3 : TRow ((w9.alloc (.cells #[.int .i64 D, .int .i64 A] 35)).alloc (.cells #[] 35)) (some ⟨g8, 0, none⟩) (WS.take WS.length) := TRow.take (HR9.out.below (below_two w9 _ _)) WS.length
                  have hx2 : TRow ((w9.alloc (.cells #[] 35)).alloc (.cells #[.int .i64 D, .int .i64 A] 35)) (some ⟨w9.heap.size + 1, 0, none⟩) [(D, A)] := by
                    have := TRow.boxed (w9.alloc (.cells #[] 35)) D A
                    rwa [show (w9.alloc (.cells #[] 35)).heap.size = w9.heap.size + 1 by simp] at this
                  have hx3 : TRow ((w9.alloc (.cells #[.int .i64 D, .int .i64 A] 35)).alloc (.cells #[] 35)) (some ⟨w9.heap.size, 0, none⟩) [(D, A)] := (TRow.boxed w9 D A).below (upd_box _)
                  have hx2d : TRow (World.drew ((w9.alloc (.cells #[] 35)).alloc (.cells #[.int .i64 D, .int .i64 A] 35))) (some ⟨w9.heap.size + 1, 0, none⟩) [(D, A)] := hx2
                  have hx3d : TRow (World.drew ((w9.alloc (.cells #[.int .i64 D, .int .i64 A] 35)).alloc (.cells #[] 35))) (some ⟨w9.heap.size, 0, none⟩) [(D, A)] := hx3
                  have hl1 : (WS.take WS.length).length = WS.length := by rw [List.length_take]; omega
                  have hl3 : (WS.drop WS.length).length = 0 := by rw [List.length_drop]; omega
                  have hf1 : 0 + WS.length ≤ 10000 := by omega
                  have hf2 : WS.length + 1 ≤ 10000 := by omega
                  have hf3 : WS.length + 1 + (0) ≤ 10000 := by omega
                  go_region_held3 (fun w' => Below w9.heap.size w9 w' ∧ w'.cell? ⟨Y, 0, none⟩ = some (.int .i64 D) ∧ w'.cell? ⟨Y, 1, none⟩ = some (.int .i64 A))
                    (refine ⟨?_, (Below.cell (p := ⟨Y, 0, none⟩) ?_ hY9).trans z0, (Below.cell (p := ⟨Y, 1, none⟩) ?_ hY9).trans z1⟩ <;> (with_reducible (repeat (first | assumption | refine Below.drew ?_ | refine blw_alloc ?_ _))))
                    ((first
                       | (refine step_append_tm (by rfl) _ _ (by rfl) w9.heap.size (WS.length + 1) (0) a11 (some ⟨g8, 0, none⟩) c11 (0) (WS.take WS.length ++ [(D, A)]) (WS.drop WS.length) (by kernel_rfl) (by kernel_rfl) r11 hl3 (.inl List.drop_length) (fun e => by cases e) (fun _ => ⟨g8, 0, rfl⟩) hf3 b11.size (WS.length + 1 + (0)) rfl ?_; intro a12 c12 w12 r12 g12 n12; have b12 : Below w9.heap.size w9 w12 := b11.grown g12 b11.size (fun k hk => own_base r11 hk))
                       | (refine step_append_tm (by rfl) _ _ (by rfl) w9.heap.size WS.length 1 a10 (some ⟨w10.heap.size, 0, none⟩) c10 1 (WS.take WS.length) [(D, A)] (by kernel_rfl) (by kernel_rfl) (ownsRow_alloc r10 _) rfl (TRow.boxed w10 D A) (fun e => by cases e) (fun _ => ⟨w10.heap.size, 0, rfl⟩) hf2 (blw_alloc b10 (.cells #[.int .i64 D, .int .i64 A] 35)).size (WS.length + 1) rfl ?_; intro a11 c11 w11 r11 g11 n11; have b11 : Below w9.heap.size w9 w11 := (blw_alloc b10 (.cells #[.int .i64 D, .int .i64 A] 35)).grown g11 (blw_alloc b10 (.cells #[.int .i64 D, .int .i64 A] 35)).size (fun k hk => own_base r10 hk))
                       | (refine step_append_tm (by rfl) _ _ (by rfl) w9.heap.size WS.length 1 a10b (some ⟨w9.heap.size + 1, 0, none⟩) c10b 1 (WS.take WS.length) [(D, A)] (by kernel_rfl) (by kernel_rfl) r10b rfl t10b (fun e => by cases e) (fun _ => ⟨w9.heap.size + 1, 0, rfl⟩) hf2 b10b.size (WS.length + 1) rfl ?_; intro a11 c11 w11 r11 g11 n11; have b11 : Below w9.heap.size w9 w11 := b10b.grown g11 b10b.size (fun k hk => own_base r10b hk))
                       | (refine step_append_tm (by rfl) _ _ (by rfl) w9.heap.size WS.length 1 a10c (some ⟨w9.heap.size, 0, none⟩) c10c 1 (WS.take WS.length) [(D, A)] (by kernel_rfl) (by kernel_rfl) r10c rfl t10c (fun e => by cases e) (fun _ => ⟨w9.heap.size, 0, rfl⟩) hf2 b10c.size (WS.length + 1) rfl ?_; intro a11 c11 w11 r11 g11 n11; have b11 : Below w9.heap.size w9 w11 := b10c.grown g11 b10c.size (fun k hk => own_base r10c hk))
                       | (refine step_append_tm (by rfl) _ _ (by rfl) w9.heap.size 0 WS.length (some ⟨w9.heap.size, 0, none⟩) (some ⟨g8, 0, none⟩) 0 WS.length [] (WS.take WS.length) (by kernel_rfl) (by kernel_rfl) hown1 hl1 hrow1 (fun e => by cases e) (fun _ => ⟨g8, 0, rfl⟩) hf1 hb1'.size WS.length (Nat.zero_add WS.length) ?_; intro a10 c10 w10 r10 g10 n10; have b10 : Below w9.heap.size w9 w10 := (Below.drew hb1').grown g10 hb1'.size (fun k hk => own_base hown1 hk))
                       | (refine step_append_tm (by rfl) _ _ (by rfl) w9.heap.size 0 WS.length (some ⟨w9.heap.size, 0, none⟩) (some ⟨g8, 0, none⟩) 0 WS.length [] (WS.take WS.length) (by kernel_rfl) (by kernel_rfl) hown2 hl1 hrow2 (fun e => by cases e) (fun _ => ⟨g8, 0, rfl⟩) hf1 hb2'.size WS.length (Nat.zero_add WS.length) ?_; intro a10b c10b w10b r10b g10b n10b; have b10b : Below w9.heap.size w9 w10b := (Below.drew hb2').grown g10b hb2'.size (fun k hk => own_base hown2 hk); have t10b : TRow w10b (some ⟨w9.heap.size + 1, 0, none⟩) [(D, A)] := TRow.grown hx2d g10b (fun q o e e2 => by cases e; have h9 : w9.heap.size = w9.heap.size + 1 := Option.some.inj e2; omega))
                       | (refine step_append_tm (by rfl) _ _ (by rfl) w9.heap.size 0 WS.length (some ⟨w9.heap.size + 1, 0, none⟩) (some ⟨g8, 0, none⟩) 0 WS.length [] (WS.take WS.length) (by kernel_rfl) (by kernel_rfl) hown3 hl1 hrow3 (fun e => by cases e) (fun _ => ⟨g8, 0, rfl⟩) hf1 hb3'.size WS.length (Nat.zero_add WS.length) ?_; intro a10c c10c w10c r10c g10c n10c; have b10c : Below w9.heap.size w9 w10c := (Below.drew hb3').grown g10c hb3'.size (fun k hk => own_base hown3 hk); have t10c : TRow w10c (some ⟨w9.heap.size, 0, none⟩) [(D, A)] := TRow.grown hx3d g10c (fun q o e e2 => by cases e; have h9 : w9.heap.size + 1 = w9.heap.size := Option.some.inj e2; omega))
                       | fail))
                  all_goals
                    have e12 : WS.length + 1 + (0) = WS.length + 1 := by omega
                    rw [e12] at r12 ⊢
                    have HTF : Aside (Two B w1 w12 (fun q => ((ofRow a q ∨ q = X) ∨ ofRow (some ⟨g8, 0, none⟩) q) ∨ ofRow a12 q) a12 c12 (WS.take WS.length ++ (D, A) :: WS.drop WS.length) zs ∧ (WS.take WS.length ++ (D, A) :: WS.drop WS.length).Perm zs) :=
                      put_done (HT8.out.after HW9.out.1) b12 r12 rfl hi HW9.out.2 (fun h => absurd h (Nat.lt_irrefl _)) HNO.out HPZ.out
                    have hlF : (WS.take WS.length ++ (D, A) :: WS.drop WS.length).length = WS.length + 1 := by rw [(perm_insert WS (D, A) WS.length).length_eq, List.length_append]; rfl
                    clear r12 b12 r11 g11 g12 b11 HW9 HR9 HNO HPZ HT8 hown1 hown2 hown3 hrow1 hrow2 hrow3 hx2 hx3 hx2d hx3d hb1' hb2' hb3' z0 z1
                    have HSM : Aside _ := tim_same (c := c12) HTF.out.1.st HTF.out.1.srt HTF.out.2 HTF.out.1.row hlF
                    go_wp2_with fail
                    refine Calls.mono HSM.out ?_
                    rintro e w9 ⟨rfl, b9⟩
                    have HN : Aside (Two B w1 w9 (ofRow (a12)) (a12) (c12) (WS.take WS.length ++ (D, A) :: WS.drop WS.length) zs ∧ (WS.take WS.length ++ (D, A) :: WS.drop WS.length).Perm zs) := ⟨(HTF.out.1.after b9).only, HTF.out.2⟩
                    have HLN : Hid ((WS.take WS.length ++ (D, A) :: WS.drop WS.length).length ≤ k + 1) := by show _ ≤ _; rw [hlF]; omega
                    clear b9 HSM HTF
                    go_wp2
                    go_roundw
                    case rel => exact ⟨k + 1, a12, c12, WS.take WS.length ++ (D, A) :: WS.drop WS.length, zs, by omega, HLN.out, by go_num, by rw [hlF], HN.out⟩
                    case measure => simp [intOf]; omega
                · skip
                  go_wp2_with fail
                  have hown1 : (w9.alloc (.cells #[] 35)).ownsRow w9.heap.size 35 2 (.slice (some ⟨w9.heap.size, 0, none⟩) 0 0) 0 (tcells []) := World.ownsRow_made w9 #[] 0 (Nat.le_refl _) (Nat.zero_le _) rfl
                  have hown2 : ((w9.alloc (.cells #[] 35)).alloc (.cells #[.int .i64 D, .int .i64 A] 35)).ownsRow w9.heap.size 35 2 (.slice (some ⟨w9.heap.size, 0, none⟩) 0 0) 0 (tcells []) := ownsRow_alloc hown1 _
                  have hown3 : ((w9.alloc (.cells #[.int .i64 D, .int .i64 A] 35)).alloc (.cells #[] 35)).ownsRow w9.heap.size 35 2 (.slice (some ⟨w9.heap.size + 1, 0, none⟩) 0 0) 0 (tcells []) := by
                    have := World.ownsRow_made (base := w9.heap.size) (e := 35) (size := 2) (w9.alloc (.cells #[.int .i64 D, .int .i64 A] 35)) #[] 0 (by simp) (Nat.zero_le _) rfl
                    rwa [show (w9.alloc (.cells #[.int .i64 D, .int .i64 A] 35)).heap.size = w9.heap.size + 1 by simp] at this
                  have hb1' : Below w9.heap.size w9 (w9.alloc (.cells #[] 35)) := upd_box _
                  have hb2' : Below w9.heap.size w9 ((w9.alloc (.cells #[] 35)).alloc (.cells #[.int .i64 D, .int .i64 A] 35)) := below_two w9 _ _
                  have hb3' : Below w9.heap.size w9 ((w9.alloc (.cells #[.int .i64 D, .int .i64 A] 35)).alloc (.cells #[] 35)) := below_two w9 _ _
                  have hrow1 : TRow (w9.alloc (.cells #[] 35)) (some ⟨g8, 0, none⟩) (WS.take i) := TRow.take (HR9.out.below (upd_box _)) i
                  have hrow2 : TRow ((w9.alloc (.cells #[] 35)).alloc (.cells #[.int .i64 D, .int .i64 A] 35)) (some ⟨g8, 0, none⟩) (WS.take i) := TRow.take (HR9.out.below (below_two w9 _ _)) i
                  have hrow3 : TRow ((w9.alloc (.cells #[.int .i64 D, .int .i64 A] 35)).alloc (.cells #[] 35)) (some ⟨g8, 0, none⟩) (WS.take i) := TRow.take (HR9.out.below (below_two w9 _ _)) i
                  have hx2 : TRow ((w9.alloc (.cells #[] 35)).alloc (.cells #[.int .i64 D, .int .i64 A] 35)) (some ⟨w9.heap.size + 1, 0, none⟩) [(D, A)] := by
                    have := TRow.boxed (w9.alloc (.cells #[] 35)) D A
                    rwa [show (w9.alloc (.cells #[] 35)).heap.size = w9.heap.size + 1 by simp] at this
                  have hx3 : TRow ((w9.alloc (.cells #[.int .i64 D, .int .i64 A] 35)).alloc (.cells #[] 35)) (some ⟨w9.heap.size, 0, none⟩) [(D, A)] := (TRow.boxed w9 D A).below (upd_box _)
                  have hx2d : TRow (World.drew ((w9.alloc (.cells #[] 35)).alloc (.cells #[.int .i64 D, .int .i64 A] 35))) (some ⟨w9.heap.size + 1, 0, none⟩) [(D, A)] := hx2
                  have hx3d : TRow (World.drew ((w9.alloc (.cells #[.int .i64 D, .int .i64 A] 35)).alloc (.cells #[] 35))) (some ⟨w9.heap.size, 0, none⟩) [(D, A)] := hx3
                  have hl1 : (WS.take i).length = i := by rw [List.length_take]; omega
                  have hl3 : (WS.drop i).length = WS.length - i := by rw [List.length_drop]
                  have hf1 : 0 + i ≤ 10000 := by omega
                  have hf2 : i + 1 ≤ 10000 := by omega
                  have hf3 : i + 1 + (WS.length - i) ≤ 10000 := by omega
                  go_region_held3 (fun w' => Below w9.heap.size w9 w' ∧ w'.cell? ⟨Y, 0, none⟩ = some (.int .i64 D) ∧ w'.cell? ⟨Y, 1, none⟩ = some (.int .i64 A))
                    (refine ⟨?_, (Below.cell (p := ⟨Y, 0, none⟩) ?_ hY9).trans z0, (Below.cell (p := ⟨Y, 1, none⟩) ?_ hY9).trans z1⟩ <;> (with_reducible (repeat (first | assumption | refine Below.drew ?_ | refine blw_alloc ?_ _))))
                    ((first
                       | (refine step_append_tm (by rfl) _ _ (by rfl) w9.heap.size (i + 1) (WS.length - i) a11 (some ⟨g8, i * 2, none⟩) c11 (c8 - i) (WS.take i ++ [(D, A)]) (WS.drop i) (by kernel_rfl) (by kernel_rfl) r11 hl3 (TRow.drop0 (HR9.out.below b11) i) (fun e => by cases e) (fun _ => ⟨g8, i * 2, rfl⟩) hf3 b11.size (i + 1 + (WS.length - i)) rfl ?_; intro a12 c12 w12 r12 g12 n12; have b12 : Below w9.heap.size w9 w12 := b11.grown g12 b11.size (fun k hk => own_base r11 hk))
                       | (refine step_append_tm (by rfl) _ _ (by rfl) w9.heap.size i 1 a10 (some ⟨w10.heap.size, 0, none⟩) c10 1 (WS.take i) [(D, A)] (by kernel_rfl) (by kernel_rfl) (ownsRow_alloc r10 _) rfl (TRow.boxed w10 D A) (fun e => by cases e) (fun _ => ⟨w10.heap.size, 0, rfl⟩) hf2 (blw_alloc b10 (.cells #[.int .i64 D, .int .i64 A] 35)).size (i + 1) rfl ?_; intro a11 c11 w11 r11 g11 n11; have b11 : Below w9.heap.size w9 w11 := (blw_alloc b10 (.cells #[.int .i64 D, .int .i64 A] 35)).grown g11 (blw_alloc b10 (.cells #[.int .i64 D, .int .i64 A] 35)).size (fun k hk => own_base r10 hk))
                       | (refine step_append_tm (by rfl) _ _ (by rfl) w9.heap.size i 1 a10b (some ⟨w9.heap.size + 1, 0, none⟩) c10b 1 (WS.take i) [(D, A)] (by kernel_rfl) (by kernel_rfl) r10b rfl t10b (fun e => by cases e) (fun _ => ⟨w9.heap.size + 1, 0, rfl⟩) hf2 b10b.size (i + 1) rfl ?_; intro a11 c11 w11 r11 g11 n11; have b11 : Below w9.heap.size w9 w11 := b10b.grown g11 b10b.size (fun k hk => own_base r10b hk))
                       | (refine step_append_tm (by rfl) _ _ (by rfl) w9.heap.size i 1 a10c (some ⟨w9.heap.size, 0, none⟩) c10c 1 (WS.take i) [(D, A)] (by kernel_rfl) (by kernel_rfl) r10c rfl t10c (fun e => by cases e) (fun _ => ⟨w9.heap.size, 0, rfl⟩) hf2 b10c.size (i + 1) rfl ?_; intro a11 c11 w11 r11 g11 n11; have b11 : Below w9.heap.size w9 w11 := b10c.grown g11 b10c.size (fun k hk => own_base r10c hk))
                       | (refine step_append_tm (by rfl) _ _ (by rfl) w9.heap.size 0 i (some ⟨w9.heap.size, 0, none⟩) (some ⟨g8, 0, none⟩) 0 c8 [] (WS.take i) (by kernel_rfl) (by kernel_rfl) hown1 hl1 hrow1 (fun e => by cases e) (fun _ => ⟨g8, 0, rfl⟩) hf1 hb1'.size i (Nat.zero_add i) ?_; intro a10 c10 w10 r10 g10 n10; have b10 : Below w9.heap.size w9 w10 := (Below.drew hb1').grown g10 hb1'.size (fun k hk => own_base hown1 hk))
                       | (refine step_append_tm (by rfl) _ _ (by rfl) w9.heap.size 0 i (some ⟨w9.heap.size, 0, none⟩) (some ⟨g8, 0, none⟩) 0 c8 [] (WS.take i) (by kernel_rfl) (by kernel_rfl) hown2 hl1 hrow2 (fun e => by cases e) (fun _ => ⟨g8, 0, rfl⟩) hf1 hb2'.size i (Nat.zero_add i) ?_; intro a10b c10b w10b r10b g10b n10b; have b10b : Below w9.heap.size w9 w10b := (Below.drew hb2').grown g10b hb2'.size (fun k hk => own_base hown2 hk); have t10b : TRow w10b (some ⟨w9.heap.size + 1, 0, none⟩) [(D, A)] := TRow.grown hx2d g10b (fun q o e e2 => by cases e; have h9 : w9.heap.size = w9.heap.size + 1 := Option.some.inj e2; omega))
                       | (refine step_append_tm (by rfl) _ _ (by rfl) w9.heap.size 0 i (some ⟨w9.heap.size + 1, 0, none⟩) (some ⟨g8, 0, none⟩) 0 c8 [] (WS.take i) (by kernel_rfl) (by kernel_rfl) hown3 hl1 hrow3 (fun e => by cases e) (fun _ => ⟨g8, 0, rfl⟩) hf1 hb3'.size i (Nat.zero_add i) ?_; intro a10c c10c w10c r10c g10c n10c; have b10c : Below w9.heap.size w9 w10c := (Below.drew hb3').grown g10c hb3'.size (fun k hk => own_base hown3 hk); have t10c : TRow w10c (some ⟨w9.heap.size, 0, none⟩) [(D, A)] := TRow.grown hx3d g10c (fun q o e e2 => by cases e; have h9 : w9.heap.size + 1 = w9.heap.size := Option.some.inj e2; omega))
                       | fail))
                  all_goals
                    have e12 : i + 1 + (WS.length - i) = WS.length + 1 := by omega
                    rw [e12] at r12 ⊢
                    have HTF : Aside (Two B w1 w12 (fun q => ((ofRow a q ∨ q = X) ∨ ofRow (some ⟨g8, 0, none⟩) q) ∨ ofRow a12 q) a12 c12 (WS.take i ++ (D, A) :: WS.drop i) zs ∧ (WS.take i ++ (D, A) :: WS.drop i).Perm zs) :=
                      put_done (HT8.out.after HW9.out.1) b12 r12 rfl hi HW9.out.2 (fun h => by omega) HNO.out HPZ.out
                    have hlF : (WS.take i ++ (D, A) :: WS.drop i).length = WS.length + 1 := by rw [(perm_insert WS (D, A) i).length_eq, List.length_append]; rfl
                    clear r12 b12 r11 g11 g12 b11 HW9 HR9 HNO HPZ HT8 hown1 hown2 hown3 hrow1 hrow2 hrow3 hx2 hx3 hx2d hx3d hb1' hb2' hb3' z0 z1
                    have HSM : Aside _ := tim_same (c := c12) HTF.out.1.st HTF.out.1.srt HTF.out.2 HTF.out.1.row hlF
                    go_wp2_with fail
                    refine Calls.mono HSM.out ?_
                    rintro e w9 ⟨rfl, b9⟩
                    have HN : Aside (Two B w1 w9 (ofRow (a12)) (a12) (c12) (WS.take i ++ (D, A) :: WS.drop i) zs ∧ (WS.take i ++ (D, A) :: WS.drop i).Perm zs) := ⟨(HTF.out.1.after b9).only, HTF.out.2⟩
                    have HLN : Hid ((WS.take i ++ (D, A) :: WS.drop i).length ≤ k + 1) := by show _ ≤ _; rw [hlF]; omega
                    clear b9 HSM HTF
                    go_wp2
                    go_roundw
                    case rel => exact ⟨k + 1, a12, c12, WS.take i ++ (D, A) :: WS.drop i, zs, by omega, HLN.out, by go_num, by rw [hlF], HN.out⟩
                    case measure => simp [intOf]; omega
      · by_cases hK3 : K = 3
        · subst hK3
          as_aux_lemma =>
            have HWO : Aside _ := mod_without (c := c) HT5.out.1.row rfl (by omega) A
            have lw : (without ms A).length ≤ ms.length := List.length_filter_le _ _
            go_wp2_with fail
            refine Calls.mono HWO.out ?_
            rintro e w6 ⟨a6, c6, rfl, o6, b6⟩
            have HT6 : Aside (Two B w1 w6 (fun q => (ofRow a q ∨ q = X) ∨ ofRow a6 q) a6 c6 (without ms A) ys) := HT5.out.1.renew b6 o6 (srt_without HT5.out.1.srt A)
            have HP : Aside ((without ms A).Perm (without ys A) ∧ ms.Perm ys) := ⟨without_perm HT5.out.2 A, HT5.out.2⟩
            have v1 := (b6.cell (p := ⟨X, 1, none⟩) hX).trans z1
            have e1 := HP.out.1.length_eq
            have e2 := HP.out.2.length_eq
            have HST : Aside _ := two_stop HT6.out A hA
            rw [← e1, ← e2] at HST
            clear b6 o6 z0 z1 z2 HT5 HWO HT6 e1 e2
            by_cases hq : (without ms A).length < ms.length
            · have hqz : ((without ms A).length : Int) < (ms.length : Int) := by omega
              rw [decide_eq_true hq] at HST
              go_wp2_with fail
              refine Calls.mono HST.out ?_
              rintro e w7 ⟨rfl, zs, t7, p7⟩
              have HTF : Aside (Two B w1 w7 (fun q => (ofRow a q ∨ q = X) ∨ ofRow a6 q) a6 c6 (without ms A) zs ∧ (without ms A).Perm zs) := ⟨t7, HP.out.1.trans p7.symm⟩
              clear t7 p7 HST HP
              have HSM : Aside _ := tim_same (c := c6) HTF.out.1.st HTF.out.1.srt HTF.out.2 HTF.out.1.row rfl
              go_wp2_with fail
              refine Calls.mono HSM.out ?_
              rintro e w9 ⟨rfl, b9⟩
              have HN : Aside (Two B w1 w9 (ofRow a6) (a6) c6 (without ms A) zs ∧ (without ms A).Perm zs) := ⟨(HTF.out.1.after b9).only, HTF.out.2⟩
              have HLN : Hid ((without ms A).length ≤ k + 1) := Nat.le_trans lw (Nat.le_trans hm (Nat.le_succ k))
              clear b9 HSM HTF
              go_wp2
              go_roundw
              case rel => exact ⟨k + 1, a6, c6, without ms A, zs, by omega, HLN.out, by go_num, rfl, HN.out⟩
              case measure => simp [intOf]; omega
            · have hqz : ¬ ((without ms A).length : Int) < (ms.length : Int) := by omega
              rw [decide_eq_false hq] at HST
              go_wp2_with fail
              refine Calls.mono HST.out ?_
              rintro e w7 ⟨rfl, zs, t7, p7⟩
              have HTF : Aside (Two B w1 w7 (fun q => (ofRow a q ∨ q = X) ∨ ofRow a6 q) a6 c6 (without ms A) zs ∧ (without ms A).Perm zs) := ⟨t7, HP.out.1.trans p7.symm⟩
              clear t7 p7 HST HP
              have HSM : Aside _ := tim_same (c := c6) HTF.out.1.st HTF.out.1.srt HTF.out.2 HTF.out.1.row rfl
              go_wp2_with fail
              refine Calls.mono HSM.out ?_
              rintro e w9 ⟨rfl, b9⟩
              have HN : Aside (Two B w1 w9 (ofRow a6) (a6) c6 (without ms A) zs ∧ (without ms A).Perm zs) := ⟨(HTF.out.1.after b9).only, HTF.out.2⟩
              have HLN : Hid ((without ms A).length ≤ k + 1) := Nat.le_trans lw (Nat.le_trans hm (Nat.le_succ k))
              clear b9 HSM HTF
              go_wp2
              go_roundw
              case rel => exact ⟨k + 1, a6, c6, without ms A, zs, by omega, HLN.out, by go_num, rfl, HN.out⟩
              case measure => simp [intOf]; omega
        · have hne : (K == 3) = false := by simpa using hK3
          clear hK3
          as_aux_lemma =>
            have HDU : Aside _ := two_due HT5.out.1 HT5.out.2 D
            have HP : Aside (ms.Perm ys) := HT5.out.2
            clear HT5
            go_wp2_with fail
            refine Calls.mono HDU.out ?_
            rintro e w6 ⟨j, a6, c6, hj, rfl, r6, d6, n6, u6, zs, t6, p6⟩
            have v2 := (u6.cell (p := ⟨X, 2, none⟩) hX (fun e => e.2 (.inr rfl))).trans z2
            have R6 : Aside (IntRow w6 a6 j (fun i => (tget ms i).2)) := r6
            have D6 : Aside ((∀ i, i < j → (tget ms i).1 ≤ D) ∧ (j < ms.length → D < (tget ms j).1)) := ⟨d6, n6⟩
            have HT6 : Aside (Two B w1 w6 (fun q => ofRow a q ∨ q = X) a c ms zs ∧ zs.Perm (ms.drop j)) := ⟨t6, p6⟩
            have hX6 : X < w6.heap.size := Nat.lt_of_lt_of_le hX u6.size
            clear r6 d6 n6 t6 p6 u6 z0 z1 z2 HDU
            go_wp2
            go_loopw [11] (fun s wq => ∃ i : Nat, i ≤ j ∧ s = .int .i64 i ∧ Aside (Below w6.heap.size w6 wq)) (fun s _ => j - (intOf s).toNat)
            case atStart => exact ⟨0, Nat.zero_le _, rfl, Below.refl _ _⟩
            case round =>
              obtain ⟨i, hi, rfl, HW⟩ := hrel
              have y2 := (HW.out.cell (p := ⟨X, 2, none⟩) hX6).trans v2
              by_cases hij : i < j
              · have him : (i : Int) < (ms.length : Int) := by omega
                have hijz : (i : Int) < (j : Int) := by omega
                obtain ⟨b1, o1, rfl, hb1, hc1⟩ := (HT6.out.1.row.below HW.out).at_ (by omega)
                obtain ⟨l0, l1⟩ := hc1 i (by omega)
                obtain ⟨b3, o3, rfl, hb3, hc3⟩ := (R6.out.below HW.out) (by omega)
                have m1 := hc3 i hij
                have hday : (tget ms i).1 ≤ D := D6.out.1 i hij
                clear hc1 hc3 v2
                dsimp only at m1
                go_wp2_with fail
                go_quiet (fail)
                go_wp2_with fail
                go_quiet (fail)
                go_wp2
                go_roundw
                case rel => exact ⟨i + 1, by omega, by go_num, HW.out.trans ⟨rfl, rfl, rfl, Nat.le_refl _, fun _ _ => rfl⟩⟩
                case measure => simp [intOf]; omega
              · obtain rfl : i = j := by omega
                have HC : Aside (Below w6.heap.size w6 wr.drew) := HW.out.trans ⟨rfl, rfl, rfl, Nat.le_refl _, fun _ _ => rfl⟩
                have hcap := HT6.out.1.cap
                have hci : (i : Int) ≤ (c : Int) := by omega
                by_cases hin : i < ms.length
                · have him : (i : Int) < (ms.length : Int) := by omega
                  obtain ⟨b1, o1, rfl, hb1, hc1⟩ := (HT6.out.1.row.below HW.out).at_ (by omega)
                  obtain ⟨l0, l1⟩ := hc1 i (by omega)
                  have hday : decide ((tget ms i).1 ≤ D) = false := decide_eq_false (by have := D6.out.2 hin; omega)
                  have hcn : ¬ c = i := by omega
                  clear hc1
                  go_wp2_with fail
                  go_quiet (fail)
                  go_wp2_with fail
                  have HTF : Aside (Two B w1 (wr.drewN nq) (fun q => ofRow (some ⟨b1, o1, none⟩) q ∨ q = X) (some ⟨b1, o1 + i * 2, none⟩) (c - i) (ms.drop i) zs ∧ (ms.drop i).Perm zs) :=
                    ⟨(HT6.out.1.cut hj (some ⟨b1, o1 + i * 2, none⟩) (.inr ⟨b1, o1, rfl, rfl⟩) (fun e => by cases e)).after (HW.out.trans ⟨rfl, rfl, rfl, Nat.le_refl _, fun _ _ => rfl⟩), HT6.out.2.symm⟩
                  clear HT6 D6 R6 HW HC v2 y2 l0 l1
                  have HSM : Aside _ := tim_same (c := c - i) HTF.out.1.st HTF.out.1.srt HTF.out.2 HTF.out.1.row List.length_drop
                  go_wp2_with fail
                  refine Calls.mono HSM.out ?_
                  rintro e w9 ⟨rfl, b9⟩
                  have HN : Aside (Two B w1 w9 (ofRow (some ⟨b1, o1 + i * 2, none⟩)) (some ⟨b1, o1 + i * 2, none⟩) (c - i) (ms.drop i) zs ∧ (ms.drop i).Perm zs) := ⟨(HTF.out.1.after b9).only, HTF.out.2⟩
                  have HLN : Hid ((ms.drop i).length ≤ k + 1) := by show _ ≤ _; rw [List.length_drop]; omega
                  clear b9 HSM HTF
                  go_wp2
                  go_roundw
                  case rel => exact ⟨k + 1, some ⟨b1, o1 + i * 2, none⟩, c - i, ms.drop i, zs, by omega, HLN.out, by go_num, by rw [List.length_drop], HN.out⟩
                  case measure => simp [intOf]; omega
                · obtain rfl : i = ms.length := by omega
                  have hl0 : (ms.drop ms.length).length = 0 := by rw [List.length_drop]; omega
                  have hll : ¬ (ms.length : Int) < (ms.length : Int) := by omega
                  cases a with
                  | none =>
                    have hc0 := HT6.out.1.nil rfl
                    subst hc0
                    have hm0 : ms.length = 0 := by omega
                    have HTQ : Aside (∀ m, Two B w1 (wr.drewN m) (fun q => ofRow (none) q ∨ q = X) (none) (0) (ms.drop ms.length) zs ∧ (ms.drop ms.length).Perm zs) := fun m => by
                      have := (HT6.out.1.cut hj (none) (.inl ⟨rfl, rfl⟩) (fun _ => by omega)).after (show Below w6.heap.size w6 (wr.drewN m) from HW.out.trans ⟨rfl, rfl, rfl, Nat.le_refl _, fun _ _ => rfl⟩)
                      exact ⟨by rwa [Nat.zero_sub] at this, HT6.out.2.symm⟩
                    rw [hm0] at HTQ hl0 ⊢
                    clear HT6 D6 R6 HW HC v2 y2 hll
                    go_wp2_with fail
                    go_quiet (fail)
                    have HTF : Aside _ := HTQ.out nq
                    clear HTQ
                    have HSM : Aside _ := tim_same (c := 0) HTF.out.1.st HTF.out.1.srt HTF.out.2 HTF.out.1.row hl0
                    go_wp2_with fail
                    refine Calls.mono HSM.out ?_
                    rintro e w9 ⟨rfl, b9⟩
                    have HN : Aside (Two B w1 w9 (ofRow (none)) (none) (0) (ms.drop 0) zs ∧ (ms.drop 0).Perm zs) := ⟨(HTF.out.1.after b9).only, HTF.out.2⟩
                    have HLN : Hid ((ms.drop 0).length ≤ k + 1) := by show _ ≤ _; rw [hl0]; omega
                    clear b9 HSM HTF
                    go_wp2
                    go_roundw
                    case rel => exact ⟨k + 1, none, 0, ms.drop 0, zs, by omega, HLN.out, by go_num, by rw [hl0], HN.out⟩
                    case measure => simp [intOf]; omega
                  | some ad =>
                    obtain ⟨b1, o1, rfl, _⟩ := HT6.out.1.blk _ rfl
                    by_cases hcn : c = ms.length
                    · subst hcn
                      have HTQ : Aside (∀ m, Two B w1 (wr.drewN m) (fun q => ofRow (some ⟨b1, o1, none⟩) q ∨ q = X) (some ⟨b1, o1, none⟩) (0) (ms.drop ms.length) zs ∧ (ms.drop ms.length).Perm zs) := fun m => by
                        have := (HT6.out.1.cut hj (some ⟨b1, o1, none⟩) (.inl ⟨rfl, rfl⟩) (fun e => by cases e)).after (show Below w6.heap.size w6 (wr.drewN m) from HW.out.trans ⟨rfl, rfl, rfl, Nat.le_refl _, fun _ _ => rfl⟩)
                        exact ⟨by rwa [Nat.sub_self] at this, HT6.out.2.symm⟩
                      clear HT6 D6 R6 HW HC v2
                      go_wp2_with fail
                      go_quiet (fail)
                      have HTF : Aside _ := HTQ.out nq
                      clear HTQ
                      have HSM : Aside _ := tim_same (c := 0) HTF.out.1.st HTF.out.1.srt HTF.out.2 HTF.out.1.row hl0
                      go_wp2_with fail
                      refine Calls.mono HSM.out ?_
                      rintro e w9 ⟨rfl, b9⟩
                      have HN : Aside (Two B w1 w9 (ofRow (some ⟨b1, o1, none⟩)) (some ⟨b1, o1, none⟩) (0) (ms.drop ms.length) zs ∧ (ms.drop ms.length).Perm zs) := ⟨(HTF.out.1.after b9).only, HTF.out.2⟩
                      have HLN : Hid ((ms.drop ms.length).length ≤ k + 1) := by show _ ≤ _; rw [hl0]; omega
                      clear b9 HSM HTF
                      go_wp2
                      go_roundw
                      case rel => exact ⟨k + 1, some ⟨b1, o1, none⟩, 0, ms.drop ms.length, zs, by omega, HLN.out, by go_num, by rw [hl0], HN.out⟩
                      case measure => simp [intOf]; omega
                    · have hcl : ms.length < c := by omega
                      have HTQ : Aside (∀ m, Two B w1 (wr.drewN m) (fun q => ofRow (some ⟨b1, o1, none⟩) q ∨ q = X) (some ⟨b1, o1 + ms.length * 2, none⟩) (c - ms.length) (ms.drop ms.length) zs ∧ (ms.drop ms.length).Perm zs) := fun m => by
                        have := (HT6.out.1.cut hj (some ⟨b1, o1 + ms.length * 2, none⟩) (.inr ⟨b1, o1, rfl, rfl⟩) (fun e => by cases e)).after (show Below w6.heap.size w6 (wr.drewN m) from HW.out.trans ⟨rfl, rfl, rfl, Nat.le_refl _, fun _ _ => rfl⟩)
                        exact ⟨this, HT6.out.2.symm⟩
                      clear HT6 D6 R6 HW HC v2
                      go_wp2_with fail
                      go_quiet (fail)
                      have HTF : Aside _ := HTQ.out nq
                      clear HTQ
                      have HSM : Aside _ := tim_same (c := c - ms.length) HTF.out.1.st HTF.out.1.srt HTF.out.2 HTF.out.1.row hl0
                      go_wp2_with fail
                      refine Calls.mono HSM.out ?_
                      rintro e w9 ⟨rfl, b9⟩
                      have HN : Aside (Two B w1 w9 (ofRow (some ⟨b1, o1 + ms.length * 2, none⟩)) (some ⟨b1, o1 + ms.length * 2, none⟩) (c - ms.length) (ms.drop ms.length) zs ∧ (ms.drop ms.length).Perm zs) := ⟨(HTF.out.1.after b9).only, HTF.out.2⟩
                      have HLN : Hid ((ms.drop ms.length).length ≤ k + 1) := by show _ ≤ _; rw [hl0]; omega
                      clear b9 HSM HTF
                      go_wp2
                      go_roundw
                      case rel => exact ⟨k + 1, some ⟨b1, o1 + ms.length * 2, none⟩, c - ms.length, ms.drop ms.length, zs, by omega, HLN.out, by go_num, by rw [hl0], HN.out⟩
                      case measure => simp [intOf]; omega
    · obtain rfl : k = r := by omega
      have HF : Aside (Below w.heap.size w wr) := HBX.out _ HT.out.1.below
      clear HT
      go_wp2
      go_ret
      exact ⟨rfl, HF.out⟩

theorem timerPlays_law (b : Option Addr) (r cb : Nat) (g : Nat → Sct) (w : World) (hg : ActRow w b r g) (hgw : ∀ k, W64 (g k).A) :
    Calls Try.prog 3 #[.slice b r cb] w fun e w' => e = .returned (.bool true) ∧ Below w.heap.size w w' := by
  by_cases h1 : 100 < r
  · exact timerPlays_long b r cb w h1
  · exact timerPlays_ok b r cb g w (by omega) hg hgw

theorem timerPlays_contract (W : World) (args : Array Value) (h : Each Try.prog W Try.f3.params.toList args.toList) :
    Calls Try.prog 3 args W fun e W' => e = .returned (.bool true) ∧ Below W.heap.size W W' := by
  rw [Try.params3] at h
  obtain ⟨v0, r0, e0, ⟨_, o0⟩, d0, h⟩ := h.cons
  obtain rfl := h.nil
  obtain ⟨args⟩ := args
  obtain rfl : args = [v0] := e0
  obtain ⟨sa0, sn0, sc0, rfl, hsc0⟩ := val_slice o0 Try.underlying22
  rw [hsc0] at d0
  obtain ⟨g0, hg0, hw0⟩ := acts_of d0
  exact timerPlays_law _ _ _ g0 W hg0 hw0

theorem timerPlays_lifted (os : Os) (started : os.Started) (H : Type) (enc : TypeId × Value → H) :
    ReturnsInHanded {} Try.checked os 3 .any (Rows.timerPlaysSpec.pre6 enc Try.prog Try.f3 Rows.timerPlaysRow.domain false) (Rows.timerPlaysSpec.post enc Try.prog Try.f3 false true false false) :=
  law_lifted (C := Try.checked) seat_own seat_laid (by kernel_rfl) Try.func3 rfl (tb := 4) rfl Try.underlying4
    (by
      rw [Try.params3]; intro t ht; simp at ht
      obtain rfl := ht; exact ⟨by kernel_rfl, of_decide_eq_true (by kernel_rfl)⟩)
    (fun H ds hl => by
      rw [Try.params3] at hl
      match ds, hl with
      | [d1], _ => rfl)
    os started H enc
    (ChangeSpec.witness6 (enc := enc) (C := Try.checked) false ⟨#[], #[.slice none 0 0], []⟩ 8 (by kernel_rfl) (by kernel_rfl) (by kernel_rfl) (by kernel_rfl))
    timerPlays_contract

theorem timerPlays_holds : Rows.TimerPlaysSaid :=
  OpenClaim.holds_of_wide 3 Try.f3 rfl rfl rfl rfl rfl rfl rfl ⟨rfl, rfl, rfl, rfl, rfl⟩ rfl rfl rfl rfl rfl (by kernel_rfl) Try.func3 (by kernel_rfl)
    (of_decide_eq_true (by kernel_rfl)) (by unfold Func.isWrapper; first | (rw [if_pos (by decide +kernel)]; kernel_rfl) | (rw [if_neg (by decide +kernel)]; exact ⟨rfl, rfl⟩))
    (fun os started H enc _ => timerPlays_lifted os started H enc)
#print axioms timerPlays_holds
end Go.Proofs.Ytoeiliaaidmmkaa
