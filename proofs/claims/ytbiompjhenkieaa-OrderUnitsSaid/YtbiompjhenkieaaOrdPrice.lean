/-
  Package order: Price. Conditions: those of each theorem.
-/
import Derived.Test.YtbiompjhenkieaaOrd1
import Derived.Test.YtbiompjhenkieaaOrderDoc
namespace Go.Proofs.Ytbiompjhenkieaa
open Go.RowKit
set_option maxRecDepth 100000

theorem order_price_found (aO aS aT : Option Addr) (no co ns cs nt ct : Nat) (C : Cfg) (sku : Int) (w : World) (hC : CfgIs w aO no aS ns aT nt C) (k : Nat) (hk : k < C.sups.length) (HF : Aside (Calls Try.prog 25 #[.slice aS ns cs, .int .i64 sku] (w.alloc (.cells (cfgCells aO no co aS ns cs aT nt ct) 26)) fun e w' => e = .returned (.int .i64 k) ∧ Below (w.alloc (.cells (cfgCells aO no co aS ns cs aT nt ct) 26)).heap.size (w.alloc (.cells (cfgCells aO no co aS ns cs aT nt ct) 26)) w')) :
    Calls Try.prog 12 #[.agg (cfgCells aO no co aS ns cs aT nt ct), .int .i64 sku] w fun e w' => e = .returned (.tuple #[.int .i64 C.sups[k].price, .int .i64 0]) ∧ Below w.heap.size w w' := by
  have hbn : Below w.heap.size w (w.alloc (.cells (cfgCells aO no co aS ns cs aT nt ct) 26)) := (Below.refl _ _).alloc (Nat.le_refl _) _
  have HB : Aside _ := hbn
  have HA : Aside _ := arr_new w (cfgCells aO no co aS ns cs aT nt ct) 26
  have hkn : (k : Int) < (ns : Int) := by have := hC.sl; omega
  have hk0 : ¬ (k : Int) < 0 := by omega
  have hk1 : (0 : Int) ≤ (k : Int) := by omega
  rcases hC.sa with hnil | ⟨b, off, rfl, hb, hc⟩
  · rw [hnil] at hk; simp at hk
  have hp := hc k hk
  have HP : Aside _ := hp
  clear hC hbn hc hp
  generalize C.sups[k] = s at *
  go_enter Try.func12, Try.ntmps12
  go_upto_region 1 with (fail)
  show Code.wp _ _ _ _ (w.alloc (.cells (cfgCells aO no co (some ⟨b, off, none⟩) ns cs aT nt ct) 26))
  generalize w.alloc (.cells (cfgCells aO no co (some ⟨b, off, none⟩) ns cs aT nt ct) 26) = w1 at *
  obtain ⟨y0, y1, y2⟩ := cfgAt_all HA.out
  simp only [Nat.zero_add] at y1 y2
  go_wp2_with fail
  refine (Calls.mono HF.out ?_)
  rintro e w2 ⟨rfl, b2⟩
  have HB2 : Aside _ := HB.out.trans (b2.mono HB.out.size)
  obtain ⟨z0, z1, z2⟩ := SupAt.all (HP.out.below HB2.out hb)
  obtain ⟨x0, x1, x2⟩ := cfgAt_all (HA.out.grown b2)
  simp only [Nat.zero_add] at x1 x2
  clear y0 y1 y2 b2 HF
  go_wp2
  go_ret2
  exact ⟨rfl, HB2.out⟩
theorem order_price_none (aO aS aT : Option Addr) (no co ns cs nt ct : Nat) (sku : Int) (w : World) (HF : Aside (Calls Try.prog 25 #[.slice aS ns cs, .int .i64 sku] (w.alloc (.cells (cfgCells aO no co aS ns cs aT nt ct) 26)) fun e w' => e = .returned (.int .i64 (-1)) ∧ Below (w.alloc (.cells (cfgCells aO no co aS ns cs aT nt ct) 26)).heap.size (w.alloc (.cells (cfgCells aO no co aS ns cs aT nt ct) 26)) w')) :
    Calls Try.prog 12 #[.agg (cfgCells aO no co aS ns cs aT nt ct), .int .i64 sku] w fun e w' => e = .returned (.tuple #[.int .i64 0, .int .i64 7]) ∧ Below w.heap.size w w' := by
  have hbn : Below w.heap.size w (w.alloc (.cells (cfgCells aO no co aS ns cs aT nt ct) 26)) := (Below.refl _ _).alloc (Nat.le_refl _) _
  have HB : Aside _ := hbn
  have HA : Aside _ := arr_new w (cfgCells aO no co aS ns cs aT nt ct) 26
  clear hbn
  go_enter Try.func12, Try.ntmps12
  go_upto_region 1 with (fail)
  show Code.wp _ _ _ _ (w.alloc (.cells (cfgCells aO no co aS ns cs aT nt ct) 26))
  generalize w.alloc (.cells (cfgCells aO no co aS ns cs aT nt ct) 26) = w1 at *
  obtain ⟨y0, y1, y2⟩ := cfgAt_all HA.out
  simp only [Nat.zero_add] at y1 y2
  go_wp2_with fail
  refine (Calls.mono HF.out ?_)
  rintro e w2 ⟨rfl, b2⟩
  have HB2 : Aside _ := HB.out.trans (b2.mono HB.out.size)
  clear y0 y1 y2 b2 HF
  go_wp2
  go_ret2
  exact ⟨rfl, HB2.out⟩

theorem first_any (ss : List Sup) (sku : Int) : ∀ n, n ≤ ss.length → (∃ (k : Nat) (hk : k < ss.length), k < n ∧ ss[k].sku = sku ∧ ∀ j (_ : j < k) (h2 : j < ss.length), ss[j].sku ≠ sku) ∨ ∀ j (_ : j < n) (h2 : j < ss.length), ss[j].sku ≠ sku
  | 0, _ => .inr fun j h => absurd h (Nat.not_lt_zero _)
  | n + 1, hn => by
    rcases first_any ss sku n (by omega) with ⟨k, hk, h1, h2, h3⟩ | h
    · exact .inl ⟨k, hk, by omega, h2, h3⟩
    · by_cases e : (ss[n]'(by omega)).sku = sku
      · exact .inl ⟨n, by omega, by omega, e, h⟩
      · refine .inr fun j h1 h2 => ?_
        by_cases hj : j = n
        · subst hj; exact e
        · exact h j (by omega) h2
theorem order_price (aO aS aT : Option Addr) (no co ns cs nt ct : Nat) (C : Cfg) (sku : Int) (w : World) (hC : CfgIs w aO no aS ns aT nt C) (_hf : CfgFit C) (_hk : CfgCaps no co ns cs nt ct) (_hs : I64 sku) :
    Calls Try.prog 12 #[.agg (cfgCells aO no co aS ns cs aT nt ct), .int .i64 sku] w fun e w' => e = .returned (.tuple #[.int .i64 (priceV C sku), .int .i64 (priceE C sku)]) ∧ Below w.heap.size w w' := by
  have hbn : Below w.heap.size w (w.alloc (.cells (cfgCells aO no co aS ns cs aT nt ct) 26)) := (Below.refl _ _).alloc (Nat.le_refl _) _
  have hF := ord_first sku aS C.sups ns cs _ hC.sm hC.sl (hC.sa.below hbn)
  rcases first_any C.sups sku C.sups.length (Nat.le_refl _) with ⟨k, hk, -, h2, h3⟩ | h
  · have e1 : priceV C sku = C.sups[k].price := by unfold priceV; rw [price_found hk h2 (fun j hj => h3 j hj (by omega))]; rfl
    have e2 : priceE C sku = 0 := by unfold priceE; rw [price_found hk h2 (fun j hj => h3 j hj (by omega))]; rfl
    rw [e1, e2]
    refine order_price_found aO aS aT no co ns cs nt ct C sku w hC k hk (hF.mono ?_)
    rintro e w' ⟨⟨i, rfl, hi⟩, hb⟩
    refine ⟨?_, hb⟩
    rcases hi with ⟨m, rfl, ⟨hm, em⟩, hbm⟩ | ⟨rfl, hno⟩
    · have : m = k := by
        rcases Nat.lt_trichotomy m k with x | x | x
        · exact absurd em (h3 m x hm)
        · exact x
        · exact absurd h2 (hbm k x hk)
      rw [this]
    · exact absurd h2 (hno k hk)
  · have hh : ∀ j (hj : j < C.sups.length), C.sups[j].sku ≠ sku := fun j hj => h j hj hj
    have e1 : priceV C sku = 0 := by unfold priceV; rw [price_none hh]; rfl
    have e2 : priceE C sku = 7 := by unfold priceE; rw [price_none hh]; rfl
    rw [e1, e2]
    refine order_price_none aO aS aT no co ns cs nt ct sku w (hF.mono ?_)
    rintro e w' ⟨⟨i, rfl, hi⟩, hb⟩
    refine ⟨?_, hb⟩
    rcases hi with ⟨m, rfl, ⟨hm, em⟩, -⟩ | ⟨rfl, -⟩
    · exact absurd em (hh m hm)
    · rfl
end Go.Proofs.Ytbiompjhenkieaa
