/-
  The document's frame: recoupref01.Frame. Conditions: those of each theorem.
-/
import Derived.Test.YtdbngmnpfcdhdaaDoorNumbers
import Derived.Test.YtdbngmnpfcdhdaaDoorSum
import Derived.Deep.CutBlock
namespace Go.Proofs.YtdbngmnpfcdhdaaDoor
open Go.RowKit
set_option maxRecDepth 100000

/-- A frame of some bytes. -/
def frameOf (xs : List UInt8) : List UInt8 := 165 :: (le xs.length 2 ++ (le (crcSum (le xs.length 2 ++ xs) : Nat) 4 ++ xs))
theorem frameOf_len (xs : List UInt8) : (frameOf xs).length = 7 + xs.length := by
  simp [frameOf, le_length]; omega

theorem own_empty (w : World) : (w.alloc (.cells #[] 5)).ownsRow w.heap.size 5 1 (.slice (some ⟨w.heap.size, 0, none⟩) 0 0) 0 (([] : List UInt8).map bval) :=
  World.ownsRow_made w #[] 0 (Nat.le_refl _) (Nat.zero_le _) rfl
theorem own_byte (w : World) (x : UInt8) : (w.alloc (.cells #[.int .u8 (x.toNat : Int)] 5)).ownsRow w.heap.size 5 1 (.slice (some ⟨w.heap.size, 0, none⟩) 1 1) 1 ([x].map bval) := by
  refine ⟨rfl, .inr ⟨w.heap.size, 1, #[.int .u8 (x.toNat : Int)], rfl, Nat.le_refl _, heap_alloc_new w _, Nat.le_refl _, by decide, rfl, rfl⟩⟩

theorem wpList_append_own1 {P : Program} {w : World} {ops : Array Oper} {rest : List Oper} {o : Oper} {a : Act} {Q : Exit → Act → World → Prop} (hgd : o.guard = none) (s x : Operand) (t : TypeId)
    (ho : o.op = .call { callee := .builtin .append, args := #[s, x], argTypes := #[t, t] })
    (base : Nat) (e : TypeId) (ht : P.underlying t = some (.slice e)) (hi : (P.info? e).map (fun i => (i.zero, i.size, i.bytes)) = some (some (.int .u8 0), 1, 1))
    (v : Value) (n : Nat) (xs : List UInt8) (hs : a.eval s = v) (hown : w.ownsRow base e 1 v n (xs.map bval))
    (ad : Option Addr) (ys : List UInt8) (m : Nat) (hm : ys.length = m) (c : Nat) (hx : a.eval x = .slice ad m c) (hy : IsBytes w ad ys) (hnc : ad = none → c = 0) (k : Nat) (hk : n + m = k) (hb : k ≤ 140737488355328) (hbase : base ≤ w.heap.size)
    (h : ∀ a' c' w', w'.ownsRow base e 1 (.slice a' k c') k ((xs ++ ys).map bval) → Below base w w' → (∀ g, (Value.slice a' k c').ownBlock = some g → v.ownBlock = some g ∨ w.heap.size ≤ g) → Upd (fun g => v.ownBlock = some g) w w' →
      wpList P ops Q rest (a.put o.dst (.slice a' k c')) w') :
    wpList P ops Q (o :: rest) a w := by
  subst hk
  refine wpList_append_bytes hgd s x t ho base e ht hi v n xs hs hown ad ys m hm c hx hy hnc hb hbase ?_
  intro a' c' w' h1 h2 h3
  exact h a' c' w' h1 ((Below.refl base w).grown h2 hbase (fun k hk => own_ge hown hk)) (fun g hg => (h3 g hg).imp id (fun e => by omega)) ((Upd.refl _ _).grown h2 (fun k hk => .inl hk))

set_option maxHeartbeats 1600000 in
theorem frame_ref (a : Option Addr) (xs : List UInt8) (n c : Nat) (w : World) (hn : xs.length = n) (hx : IsBytes w a xs) (hnc : a = none → c = 0) (hl : n ≤ 1000000) :
    Calls Tryd.prog 12 #[.slice a n c] w fun e w' => (∃ a' c', e = .returned (.slice a' (7 + n) c') ∧ w'.ownsRow w.heap.size 5 1 (.slice a' (7 + n) c') (7 + n) ((frameOf xs).map bval)) ∧ Below w.heap.size w w' := by
  have HN := Lib.hid hn
  clear hn
  go_enter Tryd.func12, Tryd.ntmps12
  go_wp2_with fail
  refine (bytes_ref n 2 w (by omega) (by omega) (by decide)).mono ?_
  rintro e w1 ⟨⟨a1, c1, rfl, hr1⟩, b1⟩
  obtain ⟨g1, -, -, -, g5⟩ := bytes_of_row hr1
  have hll : Hid ((le (n : Int) 2).length = 2) := le_length _ _
  have A2 : Below w1.heap.size w1 (w1.alloc (.cells #[] 5)) := upd_box _
  have o2 := own_empty w1
  have g2 := g1.below A2
  have z2 : w1.heap.size ≤ (w1.alloc (.cells #[] 5)).heap.size := by simp
  go_upto_region 3 with (first
    | (at_builtin; refine wpList_append_own1 rfl _ _ 22 rfl w1.heap.size 5 Tryd.underlying22 u8_info (.slice (some ⟨w1.heap.size, 0, none⟩) 0 0) 0 [] rfl o2 a1 (le (n : Int) 2) 2 hll.out c1 rfl g2 g5 2 rfl (by decide) z2 ?_; intro a3 c3 w3 hr3 hb3 hn3 hu3; have B3 : Below w1.heap.size w1 w3 := A2.trans hb3; have hx3 := hx.below (b1.trans (B3.mono b1.size)))
    | (at_builtin; refine wpList_append_own1 rfl _ _ 22 rfl w1.heap.size 5 Tryd.underlying22 u8_info (.slice a3 2 c3) 2 _ rfl hr3 a xs n HN.out c rfl hx3 hnc (2 + n) rfl (by omega) B3.size ?_; intro a4 c4 w4 hr4 hb4 hn4 hu4))
  have B4 : Below w1.heap.size w1 w4 := B3.trans hb4
  rw [List.nil_append] at hr4
  obtain ⟨g4, -, -, -, -⟩ := bytes_of_row hr4
  have A5 : Below w4.heap.size w4 (w4.alloc (.cells #[.int .u8 165] 5)) := upd_box _
  have o5 : (w4.alloc (.cells #[.int .u8 165] 5)).ownsRow w4.heap.size 5 1 (.slice (some ⟨w4.heap.size, 0, none⟩) 1 1) 1 (([165] : List UInt8).map bval) := own_byte w4 165
  have g15 := (g1.below B4).below A5
  have z5 : w4.heap.size ≤ (w4.alloc (.cells #[.int .u8 165] 5)).heap.size := by simp
  clear o2 g2 z2 hr3 hb3 hn3 hu3 hb4 hn4 hu4 A2
  go_upto_region 4 with (at_builtin; refine wpList_append_own1 rfl _ _ 22 rfl w4.heap.size 5 Tryd.underlying22 u8_info (.slice (some ⟨w4.heap.size, 0, none⟩) 1 1) 1 [165] rfl o5 a1 (le (n : Int) 2) 2 hll.out c1 rfl g15 g5 3 rfl (by decide) z5 ?_; intro a5 c5 w5 hr5 hb5 hn5 hu5)
  have B5 : Below w4.heap.size w4 w5 := A5.trans hb5
  have hlen : Hid ((le (n : Int) 2 ++ xs).length = 2 + n) := by
    show (le (n : Int) 2 ++ xs).length = 2 + n
    rw [List.length_append, hll.out, HN.out]
  have hS := crcSum_lt (le (n : Int) 2 ++ xs)
  go_wp2_with fail
  refine (sum_ref a4 (le (n : Int) 2 ++ xs) (2 + n) c4 w5 hlen.out (g4.below B5) (by unfold maxLen; omega)).mono ?_
  rintro e w6 ⟨rfl, rfl⟩
  have HC : Hid (crcSum (le (n : Int) 2 ++ xs) = crcSum (le xs.length 2 ++ xs)) := by
    show crcSum (le (n : Int) 2 ++ xs) = crcSum (le xs.length 2 ++ xs)
    rw [HN.out]
  generalize crcSum (le (n : Int) 2 ++ xs) = cs at *
  go_wp2_with fail
  refine (bytes_ref cs 4 w5 (by omega) (by omega) (by decide)).mono ?_
  rintro e w6 ⟨⟨a6, c6, rfl, hr6⟩, b6⟩
  obtain ⟨g6, -, -, -, g65⟩ := bytes_of_row hr6
  have hl4 : Hid ((le (cs : Int) 4).length = 4) := le_length _ _
  have o6 := ownsRow_upd (S := fun _ => False) hr5 (below_upd _ b6) (fun _ _ h => h)
  have B6 : Below w4.heap.size w4 w6 := B5.trans (b6.mono B5.size)
  have B16 : Below w.heap.size w w6 := b1.trans ((B4.trans (B6.mono B4.size)).mono b1.size)
  have hx6 := hx.below B16
  clear A5 o5 g15 z5 hr5 hb5 hn5 hu5 hr4 hr1
  go_wp2_with (first
    | (at_builtin; refine wpList_append_own1 rfl _ _ 22 rfl w4.heap.size 5 Tryd.underlying22 u8_info (.slice a5 3 c5) 3 _ rfl o6 a6 (le (cs : Int) 4) 4 hl4.out c6 rfl g6 g65 7 rfl (by decide) B6.size ?_; intro a7 c7 w7 hr7 hb7 hn7 hu7; have B7 : Below w4.heap.size w4 w7 := B6.trans hb7; have hx7 := hx.below (b1.trans ((B4.trans (B7.mono B4.size)).mono b1.size)))
    | (at_builtin; refine wpList_append_own1 rfl _ _ 22 rfl w4.heap.size 5 Tryd.underlying22 u8_info (.slice a7 7 c7) 7 _ rfl hr7 a xs n HN.out c rfl hx7 hnc (7 + n) rfl (by omega) B7.size ?_; intro a8 c8 w8 hr8 hb8 hn8 hu8))
  go_ret
  have B8 : Below w4.heap.size w4 w8 := B7.trans hb8
  refine ⟨⟨a8, c8, rfl, ?_⟩, b1.trans ((B4.trans (B8.mono B4.size)).mono b1.size)⟩
  have e : frameOf xs = [165] ++ le (n : Int) 2 ++ le (cs : Int) 4 ++ xs := by
    unfold frameOf
    rw [← HC.out, HN.out]
    simp
  rw [e]
  exact row_mono hr8 (Nat.le_trans b1.size B4.size)
end Go.Proofs.YtdbngmnpfcdhdaaDoor
