/-
  The document's Asked; rows of one cell an element. Conditions: those of the theorems.
-/
import Derived.Test.YtadaaoljpeojcaaSplitC
import Derived.Test.YtadaaoljpeojcaaPush
import Derived.Test.YtadaaoljpeojcaaMoneyDiv
namespace Go.Proofs.Ytadaaoljpeojcaa
open Go.RowKit
set_option maxRecDepth 100000

set_option maxHeartbeats 1000000 in
theorem ref_asked (a : Option Addr) (ws : List Int) (n c : Nat) (s : Int) (w : World) (hn : ws.length = n) (hx : IsInts w a ws) (hl : n ≤ maxLen) :
    Calls Try.prog 9 #[.int .i64 s, .slice a n c] w fun e w' => e = .returned (.int .i64 (errS s ws)) ∧ w = w' := by
  unfold maxLen at hl
  by_cases h0 : n < 1
  · have hr : errS s ws = 1 := errS_arg (by unfold rightW few; rw [hn, decide_eq_false (by omega)]; rfl)
    rw [hr]
    have h0' : (n : Int) < 1 := by omega
    obtain rfl : n = 0 := by omega
    clear hn hr h0 hx
    go_enter Try.func9, Try.ntmps9
    go_wp2
    go_ret
    exact ⟨rfl, rfl⟩
  · by_cases h1 : 200 < n
    · have hr : errS s ws = 1 := errS_arg (by unfold rightW few; rw [hn, decide_eq_false (by omega)]; rfl)
      rw [hr]
      have h0' : ¬ (n : Int) < 1 := by omega
      have h1' : 200 < (n : Int) := by omega
      clear hn hr hx
      go_enter Try.func9, Try.ntmps9
      go_wp2
      go_ret
      exact ⟨rfl, rfl⟩
    · have hr : rightW ws = ws.all okW := by unfold rightW few; rw [hn, decide_eq_true (by omega)]; rfl
      have h0' : ¬ (n : Int) < 1 := by omega
      have h1' : ¬ 200 < (n : Int) := by omega
      have hn200 : n ≤ 200 := by omega
      generalize hK : errS s ws = K
      have HN := Lib.hid hn
      have HK := Lib.hid hK
      have HR := Lib.hid hr
      clear hn hr hK
      go_enter Try.func9, Try.ntmps9
      go_wp2
      go_loop [5, 17] (fun v i => ∃ (k : Nat) (t : Int), k ≤ n ∧ v = .int .i64 t ∧ i = .int .i64 k ∧ 0 ≤ t ∧ t ≤ 1125899906842624 * (k : Int) ∧ Hid (t = sumTo (wt ws) k) ∧ Hid (ws.all okW = (ws.drop k).all okW)) (fun _ i => n - (intOf i).toNat)
      case atStart => exact ⟨0, 0, Nat.zero_le _, rfl, rfl, Int.le_refl _, by simp, rfl, rfl⟩
      case round =>
        obtain ⟨k, t, hk, rfl, rfl, ht0, ht1, HT, HS⟩ := hrel
        by_cases hlt : k < n
        · rcases hx with rfl | ⟨b, off, rfl, hb, hcs⟩
          · have := HN.out; simp at this; omega
          have hlk : k < ws.length := by rw [HN.out]; exact hlt
          have hck := hcs k hlk
          clear hcs
          have hkn : (k : Int) < (n : Int) := by omega
          have hd : Hid (ws.drop k = ws[k] :: ws.drop (k + 1)) := List.drop_eq_getElem_cons hlk
          have hw : Hid (wt ws k = ws[k]) := by show wt ws k = _; simp [wt, List.getD, hlk]
          generalize ws[k] = x at *
          by_cases hc : okW x = true
          · obtain ⟨x1, x2⟩ := okW_yes hc
            have x0 : ¬ x < 0 := by omega
            have x3 : ¬ 1125899906842624 < x := by omega
            have HC := Lib.hid hc
            clear hc
            go_wp2
            go_round
            case rel =>
              refine ⟨k + 1, t + x, by omega, rfl, by go_num, by omega, by omega, ?_, ?_⟩
              · show _ = _
                rw [sumTo, hw.out, HT.out]
              · show _ = _
                rw [HS.out, hd.out, List.all_cons, HC.out, Bool.true_and]
            case measure => simp [intOf]; omega
          · have hc : okW x = false := by simpa using hc
            have hno : K = 1 := by
              rw [← HK.out]
              exact errS_arg (by rw [HR.out, HS.out, hd.out, List.all_cons, hc, Bool.false_and])
            have hxx := okW_no hc
            have HNO := Lib.hid hno
            clear hc hno HS hd HK HR
            by_cases x0 : x < 0
            · clear hxx
              go_wp2
              go_ret
              exact ⟨by rw [HNO.out]; rfl, rfl⟩
            · have x3 : 1125899906842624 < x := by omega
              clear hxx
              go_wp2
              go_ret
              exact ⟨by rw [HNO.out]; rfl, rfl⟩
        · obtain rfl : k = n := by omega
          have hall : ws.all okW = true := by rw [HS.out, List.drop_of_length_le (by have := HN.out; omega)]; rfl
          have hts : t = ws.sum := by rw [HT.out, ← all_sum, HN.out]
          have hrr : rightW ws = true := by rw [HR.out]; exact hall
          by_cases s0 : s < 0
          · have HNO : Hid (K = 9) := by rw [← HK.out]; exact errS_sum hrr (decide_eq_false (by omega))
            clear hts hrr hall HT HS HK
            go_wp2
            go_ret
            exact ⟨by rw [HNO.out]; rfl, rfl⟩
          · by_cases s1 : 1125899906842624 < s
            · have HNO : Hid (K = 9) := by rw [← HK.out]; exact errS_sum hrr (decide_eq_false (by omega))
              clear hts hrr hall HT HS HK
              go_wp2
              go_ret
              exact ⟨by rw [HNO.out]; rfl, rfl⟩
            · by_cases t1 : 1125899906842624 < t
              · have HNO : Hid (K = 9) := by rw [← HK.out]; exact errS_all hrr (by omega)
                clear hts hrr hall HT HS HK
                go_wp2
                go_ret
                exact ⟨by rw [HNO.out]; rfl, rfl⟩
              · have HNO : Hid (K = 0) := by rw [← HK.out]; exact errS_none hrr (decide_eq_true (by omega)) (by omega)
                clear hts hrr hall HT HS HK
                go_wp2
                go_ret
                exact ⟨by rw [HNO.out]; rfl, rfl⟩

/-! ### Rows, cell by cell -/
structure RowV (B S n : Nat) (f : Nat → Value) (W : World) : Prop where
  new : B ≤ S
  lt : S < W.heap.size
  cs : ∀ t, t < n → W.cell? ⟨S, t, none⟩ = some (f t)
  fs : ∀ t, t < n → W.frozen? ⟨S, t, none⟩ = false
def updV (f : Nat → Value) (k : Nat) (x : Value) (t : Nat) : Value := if t = k then x else f t
theorem RowV.after {B S n : Nat} {f : Nat → Value} {W W' : World} (h : RowV B S n f W) (hb : Below W.heap.size W W') : RowV B S n f W' :=
  ⟨h.new, Nat.lt_of_lt_of_le h.lt hb.size, fun t ht => (hb.cell (p := ⟨S, t, none⟩) h.lt).trans (h.cs t ht), fun t ht => (hb.frozen (p := ⟨S, t, none⟩) h.lt).trans (h.fs t ht)⟩
theorem RowV.congr {B S n : Nat} {f g : Nat → Value} {W : World} (h : RowV B S n f W) (hf : ∀ t, t < n → f t = g t) : RowV B S n g W :=
  ⟨h.new, h.lt, fun t ht => by rw [← hf t ht]; exact h.cs t ht, h.fs⟩
theorem RowV.put {B S n : Nat} {f : Nat → Value} {W : World} (h : RowV B S n f W) (k : Nat) (hk : k < n) (x : Value) : RowV B S n (updV f k x) (W.setCell ⟨S, k, none⟩ x) :=
  ⟨h.new, by simpa using h.lt, fun t ht => by
    unfold updV
    by_cases e : t = k
    · subst e; rw [if_pos rfl]; exact World.cell?_setCell_same _ _ _ (h.cs t ht)
    · rw [if_neg e, World.cell?_setCell_other _ _ _ _ (by intro e'; simp only [Addr.mk.injEq] at e'; omega)]; exact h.cs t ht,
    fun t ht => by rw [World.frozen?_setCell]; exact h.fs t ht⟩
theorem RowV.other {B S n : Nat} {f : Nat → Value} {W : World} (h : RowV B S n f W) {R : Nat} (hR : R ≠ S) (k : Nat) (x : Value) : RowV B S n f (W.setCell ⟨R, k, none⟩ x) :=
  ⟨h.new, by simpa using h.lt, fun t ht => by rw [World.cell?_setCell_other _ _ _ _ (by intro e'; simp only [Addr.mk.injEq] at e'; exact hR (by omega))]; exact h.cs t ht, fun t ht => by rw [World.frozen?_setCell]; exact h.fs t ht⟩
theorem RowV.owned {W : World} {B : Nat} {e : TypeId} {n c : Nat} {xs : List Value} {a : Option Addr} (h : W.ownsRow B e 1 (.slice a n c) n xs) (hn : 0 < n) : ∃ S, a = some ⟨S, 0, none⟩ ∧ n ≤ c ∧ RowV B S n (fun t => xs.getD t (.bool false)) W := by
  obtain ⟨h1, ⟨_, h3⟩ | ⟨g, cap, cur, h2, h3, h4, h5, h6, h7, h8⟩⟩ := h
  · omega
  injection h2 with e1 e2 e3
  subst e1 e3
  refine ⟨g, rfl, h5, h3, (Array.getElem?_eq_some_iff.1 h4).1, fun t ht => ?_, fun t ht => ?_⟩
  · have hl : t < xs.length := by omega
    have h9 : cur[t]? = some (xs.getD t (.bool false)) := by
      have e : (cur.toList.take (n * 1))[t]? = some (xs.getD t (.bool false)) := by rw [h8]; simp [List.getD, hl]
      rw [List.getElem?_take, if_pos (by omega)] at e
      simpa using e
    unfold World.cell?
    rw [h4]
    exact h9
  · simp [World.frozen?, h4]
end Go.Proofs.Ytadaaoljpeojcaa
