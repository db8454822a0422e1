/-
  The statements' own side: recouplaw11.model. Conditions: those of each theorem.
-/
import Derived.Test.YtakdodcdgmbhaaaStkModel
import Derived.Deep.RegionLaw
import Derived.Deep.RegionHeld3
namespace Go.Proofs.Ytakdodcdgmbhaaa
open Go.RowKit Go.Deep
set_option maxRecDepth 100000

/-- The cells of the first n units, as the document's side has them. -/
def refRows (u : Nat → Itm) (n : Nat) : List (Array Value) := (List.range n).map fun k => (u k).rarr
theorem refRows_size (u : Nat → Itm) (n : Nat) : ∀ c ∈ refRows u n, c.size = 4 := by
  intro c hc
  unfold refRows at hc
  obtain ⟨k, _, rfl⟩ := List.mem_map.1 hc
  rfl
theorem refRows_snoc (u : Nat → Itm) (k : Nat) : flatCells (refRows u (k + 1)) = flatCells (refRows u k) ++ (u k).rarr.toList := by
  unfold refRows flatCells
  rw [List.range_succ, List.map_append, List.map_append, List.flatten_append]
  simp
theorem ref_one (x : Itm) : ∀ v ∈ x.rarr.toList, v.oneCell' = true := by
  intro v hv
  simp only [Itm.rarr, List.mem_cons, List.not_mem_nil, or_false] at hv
  rcases hv with rfl | rfl | rfl | rfl <;> rfl
theorem row_news (w : World) (x : Array Value) (t : TypeId) : ∀ j v, x.toList[j]? = some v → (w.alloc (.cells x t)).cell? ((⟨w.heap.size, 0, none⟩ : Addr).add j) = some v := by
  intro j v hj
  have e : (⟨w.heap.size, 0, none⟩ : Addr).add j = ⟨w.heap.size, 0 + j, none⟩ := by unfold Addr.add; split <;> simp_all
  rw [e]
  exact (arr_new w x t).cells j v (by rwa [Array.getElem?_toList] at hj)

/-- The document's units, so far. -/
structure ModAt (w W : World) (v : Value) (k : Nat) (u : Nat → Itm) : Prop where
  below : Below w.heap.size w W
  row : W.ownsRow w.heap.size 37 4 v k (flatCells (refRows u k))
theorem ModAt.push {w W W' w9 : World} {a a9 : Option Addr} {k c c9 : Nat} {u : Nat → Itm} (h : ModAt w W (.slice a k c) k u) (hb : Below W.heap.size W W') (hW : W.heap.size ≤ W'.heap.size)
    (r1 : w9.ownsRow w.heap.size 37 4 (.slice a9 (k + 1) c9) (k + 1) (flatCells (refRows u k) ++ (u k).rarr.toList)) (r2 : W'.grownBy w9 (Value.slice a k c).ownBlock) : ModAt w w9 (.slice a9 (k + 1) c9) (k + 1) u := by
  refine ⟨(h.below.trans (hb.mono h.below.size)).grown r2 (Nat.le_trans h.below.size hW) (fun q hq => own_base h.row hq), ?_⟩
  rw [refRows_snoc]
  exact r1

/-- The document's units lie in block H. -/
structure RefAt (w : World) (a : Option Addr) (H n : Nat) (u : Nat → Itm) : Prop where
  at_ : 0 < n → a = some ⟨H, 0, none⟩
  row : 0 < n → Row4 w H n (fun k => (u k).rarr)
theorem ModAt.ref {w W : World} {a : Option Addr} {n c : Nat} {u : Nat → Itm} (h : ModAt w W (.slice a n c) n u) : ∃ H, RefAt W a H n u ∧ w.heap.size ≤ H := by
  rcases h.row.2 with ⟨hv, x⟩ | ⟨g, cap, cur, hv, hgb, hgc, hle, hcm, -, -⟩
  · injection hv with e1 e2 e3
    exact ⟨w.heap.size, ⟨fun h => by omega, fun h => by omega⟩, Nat.le_refl _⟩
  · injection hv with e1 e2 e3
    subst e1 e3
    have hgl : g < W.heap.size := (Array.getElem?_eq_some_iff.1 hgc).1
    refine ⟨g, ⟨fun _ => rfl, fun _ => ⟨hgl, fun k hk => ?_, fun j => World.ownsRow.frozenAt h.row j⟩⟩, hgb⟩
    have hr := arr_of_own (refRows_size u n) (by simp [refRows]) h.row hgl
    have := hr k (by simpa [refRows] using hk)
    simpa [refRows] using this
theorem RefAt.upd {S : Nat → Prop} {w w' : World} {a : Option Addr} {H n : Nat} {u : Nat → Itm} (h : RefAt w a H n u) (hu : Upd S w w') (hn : 0 < n → ¬ S H) : RefAt w' a H n u :=
  ⟨h.at_, fun h0 => (h.row h0).upd hu (hn h0)⟩
theorem RefAt.below {w w' : World} {a : Option Addr} {H n : Nat} {u : Nat → Itm} (h : RefAt w a H n u) (hb : Below w.heap.size w w') : RefAt w' a H n u :=
  h.upd (S := fun _ => False) (Upd.below hb) (fun _ x => x)

theorem stk_model_len (a b : Option Addr) (n m c d : Nat) (w : World) (hm : ¬ n = m) : Calls Try.prog 9 #[.slice a n c, .slice b m d] w fun e w' => e = .returned (.tuple #[.slice none 0 0, .bool false]) ∧ w' = w := by
  have h1 : ((n : Int) == (m : Int)) = false := by simp; omega
  go_enter Try.func9, Try.ntmps9
  go_wp2
  go_ret2
  exact ⟨rfl, rfl⟩
theorem stk_model_many (a b : Option Addr) (n c d : Nat) (w : World) (hm : 200 < n) : Calls Try.prog 9 #[.slice a n c, .slice b n d] w fun e w' => e = .returned (.tuple #[.slice none 0 0, .bool false]) ∧ w' = w := by
  have h1 : (200 : Int) < (n : Int) := by omega
  go_enter Try.func9, Try.ntmps9
  go_wp2
  go_ret2
  exact ⟨rfl, rfl⟩

/-- What model answers. -/
def ModelIs (w : World) (n : Nat) (f : Nat → Int) (u : Nat → Itm) (e : Ending) (w' : World) : Prop :=
  (anyBad f n = true ∧ e = .returned (.tuple #[.slice none 0 0, .bool false]) ∧ Below w.heap.size w w') ∨ (anyBad f n = false ∧ ∃ a c, e = .returned (.tuple #[.slice a n c, .bool true]) ∧ ModAt w w' (.slice a n c) n u)

set_option maxHeartbeats 4000000 in
theorem stk_model (a b : Option Addr) (n c d : Nat) (s f : Nat → Int) (w : World) (hm : n ≤ 200) (hs : IntRow w a n s) (hr : IntRow w b n f) : Calls Try.prog 9 #[.slice a n c, .slice b n d] w (ModelIs w n f (newU s f)) := by
  have HSK : Aside _ := hs
  have HPL : Aside _ := hr
  have h1 : ¬ (200 : Int) < (n : Int) := by omega
  clear hs hr
  go_enter Try.func9, Try.ntmps9
  go_wp2
  go_loopw [6, 20] (fun v i wr => ∃ (k : Nat) (a' : Option Addr) (c' : Nat), k ≤ n ∧ i = .int .i64 k ∧ v = .slice a' k c' ∧ Aside (ModAt w wr (.slice a' k c') k (newU s f)) ∧ Hid (∀ j, j < k → badP (f j) = false)) (fun _ i _ => n - (intOf i).toNat)
  case atStart => exact ⟨0, none, 0, Nat.zero_le _, rfl, rfl, ⟨Below.refl _ _, World.ownsRow_nil _ _ _ _⟩, fun j h => absurd h (Nat.not_lt_zero _)⟩
  case round =>
    obtain ⟨k, a', c', hk, rfl, rfl, HM, HK⟩ := hrel
    by_cases hlt : k < n
    · have hkn : (k : Int) < (n : Int) := by omega
      have hk0 : (0 : Int) ≤ (k : Int) := by omega
      have hn0 : 0 < n := by omega
      have HB : Aside (Below w.heap.size w wr) := HM.out.below
      obtain ⟨q1, o1, rfl, l1, c1⟩ := HSK.out hn0
      obtain ⟨q2, o2, rfl, l2, c2⟩ := HPL.out hn0
      have x1 : wr.cell? ⟨q1, o1 + k, none⟩ = some (.int .i64 (s k)) := (HB.out.cell (p := ⟨q1, o1 + k, none⟩) l1).trans (c1 k hlt)
      have x2 : wr.cell? ⟨q2, o2 + k, none⟩ = some (.int .i64 (f k)) := (HB.out.cell (p := ⟨q2, o2 + k, none⟩) l2).trans (c2 k hlt)
      have HE : Hid (badP (f k) = true → anyBad f n = true) := fun e => anyBad_yes hlt e
      have HT : Hid (badP (f k) = false → ∀ j, j < k + 1 → badP (f j) = false) := fun e j h => by
        by_cases hj : j = k
        · subst hj; exact e
        · exact HK.out j (by omega)
      have HUK : Hid (newU s f k = ⟨s k, f k, false, false⟩) := rfl
      clear c1 c2
      by_cases hv : f k < 0
      · have HA := Lib.hid (HE.out (by simp [badP, hv]))
        clear HT HM HE
        generalize f k = v at *
        go_wp2
        go_ret2
        exact .inl ⟨HA.out, rfl, HB.out⟩
      by_cases hw : 8 < f k
      · have HA := Lib.hid (HE.out (by simp [badP, hw]))
        clear HT HM HE
        generalize f k = v at *
        go_wp2
        go_ret2
        exact .inl ⟨HA.out, rfl, HB.out⟩
      have HA := Lib.hid (HT.out (by simp [badP]; omega))
      clear HT HE HK
      have hmx : k + 1 ≤ maxLen := by unfold maxLen; omega
      have hby : (k + 1) * 24 ≤ 140737488355328 := by omega
      have hbs : w.heap.size ≤ wr.heap.size := HB.out.size
      have hl1 : q1 < wr.heap.size := Nat.lt_of_lt_of_le l1 hbs
      have hl2 : q2 < wr.heap.size := Nat.lt_of_lt_of_le l2 hbs
      have hT1 : ¬ (Value.slice a' k c').ownBlock = some q1 := fun e => by have := own_base HM.out.row e; omega
      have hT2 : ¬ (Value.slice a' k c').ownBlock = some q2 := fun e => by have := own_base HM.out.row e; omega
      have b0 := Upd.refl (fun g => (Value.slice a' k c').ownBlock = some g) wr
      have v0 := Below.refl wr.heap.size wr
      go_upto_region 9 with (fail)
      clear HSK HPL HB
      go_region_held3 (fun w' => Upd (fun g => (Value.slice a' k c').ownBlock = some g) wr w' ∧ w'.cell? ⟨q1, o1 + k, none⟩ = some (.int .i64 (s k)) ∧ w'.cell? ⟨q2, o2 + k, none⟩ = some (.int .i64 (f k)))
        (refine ⟨?_, (Upd.cell (S := (fun g => (Value.slice a' k c').ownBlock = some g)) (w := wr) (p := ⟨q1, o1 + k, none⟩) ?_ hl1 hT1).trans x1, (Upd.cell (S := (fun g => (Value.slice a' k c').ownBlock = some g)) (w := wr) (p := ⟨q2, o2 + k, none⟩) ?_ hl2 hT2).trans x2⟩ <;> (with_reducible (repeat (first | assumption | refine Upd.drew ?_ | refine Upd.alloc ?_ _))))
        ((refine step_append_row (by rfl) _ _ 29 (by rfl) w.heap.size 37 _ 4 24 Try.underlying29 info_unitz rfl (by decide) (.slice a' k c') k (flatCells (refRows (newU s f) k)) (by kernel_rfl) (HM.out.row.alloc _) ⟨wr.heap.size, 0, none⟩ 1 (newU s f k).rarr.toList (by kernel_rfl) rfl (row_news wr (newU s f k).rarr 37) (ref_one _) (k + 1) rfl hmx hby (Nat.le_trans hbs (by simp)) ?_; intro a9 c9 w9 r1 r2 r3; have u9 : Upd (fun g => (Value.slice a' k c').ownBlock = some g) wr w9 := ((Upd.refl (fun g => (Value.slice a' k c').ownBlock = some g) wr).alloc (.cells (newU s f k).rarr 37)).drew.grown r2 (fun k hk => .inl hk)))
      all_goals
        have HM9 : Aside (ModAt w w9 (.slice a9 (k + 1) c9) (k + 1) (newU s f)) := ModAt.push HM.out (blw_alloc v0 (.cells (newU s f k).rarr 37)).drew (by simp) r1 r2
        clear HM b0 v0 x1 x2 hT1 hT2 r1 r2 r3 u9
        go_wp2
        go_roundw
        case rel => exact ⟨k + 1, a9, c9, by omega, by go_num, rfl, HM9.out, HA.out⟩
        case measure => simp [intOf]; omega
    · obtain rfl : k = n := by omega
      have HA : Hid (anyBad f k = false) := by
        show _ = _
        unfold anyBad
        rw [List.any_eq_false]
        intro j hj
        rw [HK.out j (List.mem_range.1 hj)]
        decide
      go_wp2
      go_ret2
      exact .inr ⟨HA.out, a', c', rfl, HM.out⟩
end Go.Proofs.Ytakdodcdgmbhaaa
