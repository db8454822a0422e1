/-
  The law's flag, and its Bytes of a formed command. Conditions: those of each theorem.
-/
import Derived.Test.YtmaoimjfkncnpaaCmRead
namespace Go.Proofs.Ytmaoimjfkncnpaa
open Go.RowKit
set_option maxRecDepth 100000

theorem by_info : (Try.prog.info? 5).map (fun i => (i.zero, i.size, i.bytes)) = some (some (.int .u8 0), 1, 1) := by kernel_rfl
theorem byte_val {v : Int} (h0 : 0 ≤ v) (h1 : v ≤ 255) : ((byteAt v 0).toNat : Int) = v := by
  rw [byteAt_int]
  simp
  omega
theorem le_one (v : Int) : le v 1 = [byteAt v 0] := rfl
theorem own_byteV (w : World) {v : Int} (h0 : 0 ≤ v) (h1 : v ≤ 255) : (w.alloc (.cells #[.int .u8 v] 5)).ownsRow w.heap.size 5 1 (.slice (some ⟨w.heap.size, 0, none⟩) 1 1) 1 ((le v 1).map bval) := by
  have := own_byte w (byteAt v 0)
  rw [byte_val h0 h1] at this
  exact this
theorem bytes_one (w : World) {v : Int} (h0 : 0 ≤ v) (h1 : v ≤ 255) : IsBytes (w.alloc (.cells #[.int .u8 v] 5)) (some ⟨w.heap.size, 0, none⟩) (le v 1) := by
  refine .inr ⟨w.heap.size, 0, rfl, by simp, fun i hi => ?_⟩
  obtain rfl : i = 0 := by rw [le_length] at hi; omega
  rw [Nat.zero_add, cell_of_row _ _ 0 _ _ _ (heap_alloc_new w _)]
  simp only [le_one, List.getElem_singleton, byte_val h0 h1]
  rfl
theorem bytes_two (w : World) {v u : Int} (h0 : 0 ≤ v) (h1 : v ≤ 255) (g0 : 0 ≤ u) (g1 : u ≤ 255) : IsBytes (w.alloc (.cells #[.int .u8 v, .int .u8 u] 5)) (some ⟨w.heap.size, 0, none⟩) (le v 1 ++ le u 1) := by
  refine .inr ⟨w.heap.size, 0, rfl, by simp, fun i hi => ?_⟩
  have hi : i < 2 := hi
  rw [Nat.zero_add, cell_of_row _ _ i _ _ _ (heap_alloc_new w _)]
  match i, hi with
  | 0, _ => simp [le_one, byte_val h0 h1]
  | 1, _ => simp [le_one, byte_val g0 g1]
theorem bytes_w (v : Int) (size : Nat) (h0 : 0 ≤ v) (h1 : v ≤ 4294967295) (hs : size ≤ 8) (w : World) :
    Calls Try.prog 28 #[.int .u64 v, .int .i64 size] w fun e w' => (∃ a c, e = .returned (.slice a size c) ∧ IsBytes w' a (le v size) ∧ (a = none → c = 0)) ∧ Below w.heap.size w w' := by
  refine (bytes_ref v size w h0 (by omega) (by omega)).mono ?_
  rintro e w' ⟨⟨a, c, rfl, hr⟩, hb⟩
  obtain ⟨h1, _, _, _, h5⟩ := bytes_of_row hr
  exact ⟨⟨a, c, rfl, h1, h5⟩, hb⟩
theorem flagI_small (b : Bool) : 0 ≤ flagI b ∧ flagI b ≤ 255 := by cases b <;> decide
set_option maxHeartbeats 400000 in
theorem law_flag (b : Bool) (w : World) : Calls Try.prog 29 #[.bool b] w fun e w' => e = .returned (.int .u8 (flagI b)) ∧ w = w' := by
  cases b with
  | true =>
    go_enter Try.func29, Try.ntmps29
    go_wp2
    go_ret
    exact ⟨rfl, rfl⟩
  | false =>
    go_enter Try.func29, Try.ntmps29
    go_wp2
    go_ret
    exact ⟨rfl, rfl⟩
theorem fits_i1 {v : Int} (h : fits v 1 = true) : 0 ≤ v ∧ v ≤ 255 := by simp [fits] at h; omega
theorem fits_i2 {v : Int} (h : fits v 2 = true) : 0 ≤ v ∧ v ≤ 65535 := by simp [fits] at h; omega
theorem fits_i4 {v : Int} (h : fits v 4 = true) : 0 ≤ v ∧ v ≤ 4294967295 := by simp [fits] at h; omega
/-- Bytes of the call's own, so far. -/
structure Bld (W w' : World) (a : Option Addr) (m c : Nat) (xs : List UInt8) : Prop where
  row : w'.ownsRow W.heap.size 5 1 (.slice a m c) m (xs.map bval)
  below : Below W.heap.size W w'
theorem Bld.later {W w' w'' : World} {a : Option Addr} {m c : Nat} {xs : List UInt8} (h : Bld W w' a m c xs) (hb : Below w'.heap.size w' w'') : Bld W w'' a m c xs :=
  ⟨ownsRow_upd h.row (below_upd (fun _ => False) hb) (fun _ _ x => x), h.below.trans (hb.mono h.below.size)⟩
theorem Bld.conv {W w' : World} {a : Option Addr} {m c : Nat} {xs ys : List UInt8} (h : Bld W w' a m c xs) (e : xs = ys) : Bld W w' a m c ys := e ▸ h

set_option maxHeartbeats 8000000 in
theorem law_bytes (r : Com) (us : List Int) {w : World} (hr : LiAt w r.uA r.uN r.uC us) (hf : FormedC r us) :
    Calls Try.prog 14 #[.agg #[.int .i64 r.kind, .int .i64 r.ord, .slice r.uA r.uN r.uC, .int .i64 r.rea, .int .i64 r.want, .bool r.cred, .int .i64 r.rma, .int .i64 r.unit, .int .i64 r.grd, .int .i64 r.days, .int .i64 r.key, .bool r.yes]] w fun e w' => (∃ a n c, e = .returned (.slice a n c) ∧ w'.ownsRow w.heap.size 5 1 (.slice a n c) n ((comBytes r us).map bval)) ∧ Below w.heap.size w w' := by
  obtain ⟨n0, n1, uA, uN, uC, n3, n4, n5, n6, n7, n8, n9, n10, n11⟩ := r
  dsimp only at *
  obtain ⟨W, hW, hs2, hb2, X1⟩ := one_box w 24 ⟨n0, n1, uA, uN, uC, n3, n4, n5, n6, n7, n8, n9, n10, n11⟩
  dsimp only at hW
  have HX : Aside (ComBox W w.heap.size 24 ⟨n0, n1, uA, uN, uC, n3, n4, n5, n6, n7, n8, n9, n10, n11⟩) := X1
  have HB : Aside (Below w.heap.size w W) := hb2
  have HU : Aside (LiAt W uA uN uC us) := hr.below hb2
  have HF : Aside (FormedC ⟨n0, n1, uA, uN, uC, n3, n4, n5, n6, n7, n8, n9, n10, n11⟩ us) := hf
  clear hr hf X1 hb2 hs2
  go_enter Try.func14, Try.ntmps14
  go_upto_region 1 with (fail)
  rw [← hW]
  clear hW
  obtain ⟨g1, hg1⟩ : ∃ g, g = w.heap.size := ⟨_, rfl⟩
  rw [← hg1] at HX ⊢
  clear hg1
  obtain ⟨y0, y1, y2, y3, y4, y5, y6, y7, y8, y9, y10, y11⟩ := HX.out.cells
  have hl1 := HX.out.lt
  dsimp only at y0 y1 y2 y3 y4 y5 y6 y7 y8 y9 y10 y11
  have hk := HF.out.1.kind
  dsimp only at hk
  obtain ⟨hk0, hk1⟩ := hk
  have hk2 : 0 ≤ n0 := by omega
  go_upto_region 3 with (fail)
  have H1 : Aside (Bld W (W.alloc (.cells #[.int .u8 n0] 5)) (some ⟨W.heap.size, 0, none⟩) 1 1 (le n0 1)) := ⟨own_byteV W hk2 (by omega), upd_box _⟩
  have HX1 : Aside (ComBox (W.alloc (.cells #[.int .u8 n0] 5)) g1 24 ⟨n0, n1, uA, uN, uC, n3, n4, n5, n6, n7, n8, n9, n10, n11⟩) := HX.out.below (upd_box _)
  obtain ⟨a1, ha1⟩ : ∃ a : Option Addr, a = some ⟨W.heap.size, 0, none⟩ := ⟨_, rfl⟩
  rw [← ha1] at H1 ⊢
  have HXW : Aside (ComBox W g1 24 ⟨n0, n1, uA, uN, uC, n3, n4, n5, n6, n7, n8, n9, n10, n11⟩) := HX.out
  clear ha1 y0 y1 y2 y3 y4 y5 y6 y7 y8 y9 y10 y11 hl1 HX hk2
  generalize W.alloc (.cells #[.int .u8 n0] 5) = w1 at *
  rcases (show n0 = 1 ∨ n0 = 2 ∨ n0 = 3 ∨ n0 = 4 ∨ n0 = 5 ∨ n0 = 6 ∨ n0 = 7 ∨ n0 = 8 by omega) with rfl | rfl | rfl | rfl | rfl | rfl | rfl | rfl
  · have hq := HF.out.1.fit.req rfl
    have hc := HF.out.2 rfl
    have hq1 : 0 ≤ n1 ∧ n1 ≤ 255 := fits_i1 hq.ord
    have hq3 : 0 ≤ n3 ∧ n3 ≤ 255 := fits_i1 hq.rea
    have hq4 : 0 ≤ n4 ∧ n4 ≤ 65535 := fits_i2 hq.want
    have HLU : Hid (us.length = uN) := HU.out.len
    have hun : uN ≤ 60 := by have := HLU.out; omega
    have HUB : Hid (∀ x ∈ us, 0 ≤ x ∧ x ≤ 255) := fun x hx => by have := fits_i1 (hq.us x hx); omega
    clear hq hc
    obtain ⟨hq10, hq11⟩ := hq1
    obtain ⟨hq30, hq31⟩ := hq3
    obtain ⟨hq40, hq41⟩ := hq4
    have hun' : (uN : Int) ≤ 60 := by omega
    have hun0 : (0 : Int) ≤ (uN : Int) := by omega
    obtain ⟨y0, y1, y2, y3, y4, y5, y6, y7, y8, y9, y10, y11⟩ := HX1.out.cells
    have hl1 := HX1.out.lt
    dsimp only at y0 y1 y2 y3 y4 y5 y6 y7 y8 y9 y10 y11
    have HL := H1.out.later (upd_box (w := w1) (.cells #[.int .u8 (n1), .int .u8 ((uN : Int))] 5))
    have HXL : Aside (ComBox (w1.alloc (.cells #[.int .u8 (n1), .int .u8 ((uN : Int))] 5)) g1 24 ⟨1, n1, uA, uN, uC, n3, n4, n5, n6, n7, n8, n9, n10, n11⟩) := HX1.out.below (upd_box _)
    go_upto_region 5 with (at_builtin; refine wpList_append_own1 rfl _ _ 26 rfl W.heap.size 5 Try.underlying26 by_info (.slice a1 (1) 1) (1) _ rfl HL.row (some ⟨w1.heap.size, 0, none⟩) (le (n1) 1 ++ le ((uN : Int)) 1) 2 (by simp [le_length]) 2 rfl (bytes_two w1 (by omega) (by omega) (by omega) (by omega)) (fun x => by cases x) (3) rfl (by omega) HL.below.size ?_; intro a2 c2 w2 h1 h2 h3 h4)
    have H2 : Aside (Bld W w2 a2 (3) c2 (le (1 : Int) 1 ++ (le (n1) 1 ++ le ((uN : Int)) 1))) := ⟨h1, HL.below.trans h2⟩
    have HX2 : Aside (ComBox w2 g1 24 ⟨1, n1, uA, uN, uC, n3, n4, n5, n6, n7, n8, n9, n10, n11⟩) := HXW.out.below (HL.below.trans h2)
    clear h1 h2 h3 h4 HL HXL H1 HX1 y0 y1 y2 y3 y4 y5 y6 y7 y8 y9 y10 y11 hl1
    obtain ⟨xsA, hxsA⟩ : ∃ l, l = le (1 : Int) 1 ++ (le (n1) 1 ++ le ((uN : Int)) 1) := ⟨_, rfl⟩
    rw [← hxsA] at H2
    have HXA := Lib.hid hxsA
    clear hxsA
    obtain ⟨y0, y1, y2, y3, y4, y5, y6, y7, y8, y9, y10, y11⟩ := HX2.out.cells
    have hl1 := HX2.out.lt
    dsimp only at y0 y1 y2 y3 y4 y5 y6 y7 y8 y9 y10 y11
    go_wp2_with fail
    clear y0 y1 y2 y3 y4 y5 y6 y7 y8 y9 y10 y11 hl1
    go_loopw [3, 4, 26] (fun s _ i wr => ∃ (k m : Nat) (a' : Option Addr) (c' : Nat), k ≤ uN ∧ i = .int .i64 k ∧ s = .slice a' m c' ∧ m = 3 + k ∧ Aside (Bld W wr a' m c' (xsA ++ listB 0 (us.take k)))) (fun _ _ i _ => uN - (intOf i).toNat)
    case atStart => exact ⟨0, 3, a2, c2, Nat.zero_le _, rfl, rfl, rfl, H2.out.conv (by rw [List.take_zero, listB, List.append_nil])⟩
    case round =>
      have HX0 : Aside (ComBox W g1 24 ⟨1, n1, uA, uN, uC, n3, n4, n5, n6, n7, n8, n9, n10, n11⟩) := HXW.out
      clear HX2 H2
      obtain ⟨k, m, a', c', hk, rfl, rfl, hmk, HO⟩ := hrel
      have HXR : Aside (ComBox wr g1 24 ⟨1, n1, uA, uN, uC, n3, n4, n5, n6, n7, n8, n9, n10, n11⟩) := HX0.out.below HO.out.below
      by_cases hlt : k < uN
      · have hkn : (k : Int) < (uN : Int) := by omega
        have hk0 : (0 : Int) ≤ (k : Int) := by omega
        have hl0 : k < us.length := by rw [HLU.out]; exact hlt
        rcases (HU.out.below HO.out.below).at' with e | ⟨b, off, hA, hb, hcs⟩
        · rw [e] at hl0; exact absurd hl0 (Nat.not_lt_zero _)
        have hck := hcs k hl0
        obtain ⟨hx0, hx1⟩ := HUB.out us[k] (List.getElem_mem hl0)
        have HTX : Hid (xsA ++ listB 0 (us.take (k + 1)) = xsA ++ listB 0 (us.take k) ++ le us[k] 1) := by
          show _ = _
          rw [listB_take 0 us k hl0, List.append_assoc, Int.add_zero]
        clear hcs
        generalize us[k] = x at *
        obtain ⟨-, -, y2, -⟩ := HXR.out.cells
        have hl1 := HXR.out.lt
        dsimp only at y2
        subst hA
        have HL := HO.out.later (upd_box (w := wr) (.cells #[.int .u8 x] 5))
        have hm9 : m ≤ 100 := by omega
        go_wp2_with (at_builtin; refine wpList_append_own1 rfl _ _ 26 rfl W.heap.size 5 Try.underlying26 by_info (.slice a' m c') m _ rfl HL.row (some ⟨wr.heap.size, 0, none⟩) (le x 1) 1 (le_length _ _) 1 rfl (bytes_one wr hx0 hx1) (fun x => by cases x) (m + 1) rfl (by omega) HL.below.size ?_; intro a8 c8 w8 h1 h2 h3 h4)
        have HN : Aside (Bld W w8 a8 (m + 1) c8 (xsA ++ listB 0 (us.take (k + 1)))) := (⟨h1, HL.below.trans h2⟩ : Bld W w8 a8 (m + 1) c8 _).conv HTX.out.symm
        clear h1 h2 h3 h4 HL HO HTX y2 hl1 hck HXR
        go_roundw
        case rel => exact ⟨k + 1, 3 + k + 1, a8, c8, by omega, by go_num, rfl, by omega, by have := HN.out; rwa [hmk] at this⟩
        case measure => simp [intOf]; omega
      · obtain rfl : uN = k := by omega
        subst hmk
        have H3 : Aside (Bld W wr a' (3 + uN) c' (xsA ++ listB 0 us)) := HO.out.conv (by rw [List.take_of_length_le (by rw [HLU.out]; exact Nat.le_refl _)])
        have HX3 : Aside (ComBox wr g1 24 ⟨1, n1, uA, uN, uC, n3, n4, n5, n6, n7, n8, n9, n10, n11⟩) := HXR.out
        clear HO HXR
        obtain ⟨xsB, hxsB⟩ : ∃ l, l = xsA ++ listB 0 us := ⟨_, rfl⟩
        rw [← hxsB] at H3
        have HXB := Lib.hid hxsB
        clear hxsB
        obtain ⟨w3, hw3⟩ : ∃ v, v = wr := ⟨_, rfl⟩
        rw [← hw3] at H3 HX3 ⊢
        clear hw3
        obtain ⟨a3, ha3⟩ : ∃ v, v = a' := ⟨_, rfl⟩
        obtain ⟨c3, hc3⟩ : ∃ v, v = c' := ⟨_, rfl⟩
        rw [← ha3, ← hc3] at H3 ⊢
        clear ha3 hc3
        obtain ⟨y0, y1, y2, y3, y4, y5, y6, y7, y8, y9, y10, y11⟩ := HX3.out.cells
        have hl1 := HX3.out.lt
        dsimp only at y0 y1 y2 y3 y4 y5 y6 y7 y8 y9 y10 y11
        have HL := H3.out.later (upd_box (w := w3) (.cells #[.int .u8 (n3)] 5))
        have HXL : Aside (ComBox (w3.alloc (.cells #[.int .u8 (n3)] 5)) g1 24 ⟨1, n1, uA, uN, uC, n3, n4, n5, n6, n7, n8, n9, n10, n11⟩) := HX3.out.below (upd_box _)
        go_upto_region 11 with (at_builtin; refine wpList_append_own1 rfl _ _ 26 rfl W.heap.size 5 Try.underlying26 by_info (.slice a3 (3 + uN) c3) (3 + uN) _ rfl HL.row (some ⟨w3.heap.size, 0, none⟩) (le (n3) 1) 1 (le_length _ _) 1 rfl (bytes_one w3 (by omega) (by omega)) (fun x => by cases x) (3 + uN + 1) rfl (by omega) HL.below.size ?_; intro a4 c4 w4 h1 h2 h3 h4)
        have H4 : Aside (Bld W w4 a4 (3 + uN + 1) c4 (xsB ++ (le (n3) 1))) := ⟨h1, HL.below.trans h2⟩
        have HX4 : Aside (ComBox w4 g1 24 ⟨1, n1, uA, uN, uC, n3, n4, n5, n6, n7, n8, n9, n10, n11⟩) := HXW.out.below (HL.below.trans h2)
        clear h1 h2 h3 h4 HL HXL H3 HX3 y0 y1 y2 y3 y4 y5 y6 y7 y8 y9 y10 y11 hl1
        obtain ⟨y0, y1, y2, y3, y4, y5, y6, y7, y8, y9, y10, y11⟩ := HX4.out.cells
        have hl1 := HX4.out.lt
        dsimp only at y0 y1 y2 y3 y4 y5 y6 y7 y8 y9 y10 y11
        have HC : Aside (∀ X, Calls Try.prog 28 #[.int .u64 n4, .int .i64 2] X fun e w' => (∃ a c, e = .returned (.slice a 2 c) ∧ IsBytes w' a (le n4 2) ∧ (a = none → c = 0)) ∧ Below X.heap.size X w') := fun X => bytes_w n4 2 (by omega) (by omega) (by decide) X
        go_wp2_with fail
        with_reducible refine Calls.mono (HC.out _) ?_
        rintro e w9 ⟨⟨a9, c9, rfl, g9, n9'⟩, b9⟩
        have HL := H4.out.later b9
        have HXL : Aside (ComBox w9 g1 24 ⟨1, n1, uA, uN, uC, n3, n4, n5, n6, n7, n8, n9, n10, n11⟩) := HX4.out.below b9
        clear HC
        go_upto_region 12 with (at_builtin; refine wpList_append_own1 rfl _ _ 26 rfl W.heap.size 5 Try.underlying26 by_info (.slice a4 (3 + uN + 1) c4) (3 + uN + 1) _ rfl HL.row (a9) (le n4 2) 2 (le_length _ _) c9 rfl g9 n9' (3 + uN + 1 + 2) rfl (by omega) HL.below.size ?_; intro a5 c5 w5 h1 h2 h3 h4)
        have H5 : Aside (Bld W w5 a5 (3 + uN + 1 + 2) c5 (xsB ++ (le (n3) 1) ++ (le n4 2))) := ⟨h1, HL.below.trans h2⟩
        have HX5 : Aside (ComBox w5 g1 24 ⟨1, n1, uA, uN, uC, n3, n4, n5, n6, n7, n8, n9, n10, n11⟩) := HXW.out.below (HL.below.trans h2)
        clear h1 h2 h3 h4 HL HXL H4 HX4 y0 y1 y2 y3 y4 y5 y6 y7 y8 y9 y10 y11 hl1 g9 n9' b9
        obtain ⟨y0, y1, y2, y3, y4, y5, y6, y7, y8, y9, y10, y11⟩ := HX5.out.cells
        have hl1 := HX5.out.lt
        dsimp only at y0 y1 y2 y3 y4 y5 y6 y7 y8 y9 y10 y11
        have HC : Aside (∀ X, Calls Try.prog 29 #[.bool n5] X fun e w' => e = .returned (.int .u8 (flagI n5)) ∧ X = w') := law_flag n5
        go_wp2_with fail
        with_reducible refine Calls.mono (HC.out _) ?_
        rintro e w9 ⟨rfl, rfl⟩
        clear HC
        have hfl0 := (flagI_small n5).1
        have hfl1 := (flagI_small n5).2
        have HL := H5.out.later (upd_box (w := w5) (.cells #[.int .u8 (flagI n5)] 5))
        have HXL : Aside (ComBox (w5.alloc (.cells #[.int .u8 (flagI n5)] 5)) g1 24 ⟨1, n1, uA, uN, uC, n3, n4, n5, n6, n7, n8, n9, n10, n11⟩) := HX5.out.below (upd_box _)
        go_upto_region 26 with (at_builtin; refine wpList_append_own1 rfl _ _ 26 rfl W.heap.size 5 Try.underlying26 by_info (.slice a5 (3 + uN + 1 + 2) c5) (3 + uN + 1 + 2) _ rfl HL.row (some ⟨w5.heap.size, 0, none⟩) (le (flagI n5) 1) 1 (le_length _ _) 1 rfl (bytes_one w5 (by omega) (by omega)) (fun x => by cases x) (3 + uN + 1 + 2 + 1) rfl (by omega) HL.below.size ?_; intro a6 c6 w6 h1 h2 h3 h4)
        have H6 : Aside (Bld W w6 a6 (3 + uN + 1 + 2 + 1) c6 (xsB ++ (le (n3) 1) ++ (le n4 2) ++ (le (flagI n5) 1))) := ⟨h1, HL.below.trans h2⟩
        have HX6 : Aside (ComBox w6 g1 24 ⟨1, n1, uA, uN, uC, n3, n4, n5, n6, n7, n8, n9, n10, n11⟩) := HXW.out.below (HL.below.trans h2)
        clear h1 h2 h3 h4 HL HXL H5 HX5 y0 y1 y2 y3 y4 y5 y6 y7 y8 y9 y10 y11 hl1 hfl0 hfl1
        have HR : Aside (w6.ownsRow w.heap.size 5 1 (.slice a6 (3 + uN + 1 + 2 + 1) c6) (3 + uN + 1 + 2 + 1) ((comBytes ⟨1, n1, uA, uN, uC, n3, n4, n5, n6, n7, n8, n9, n10, n11⟩ us).map bval)) := by
          have h : comBytes ⟨1, n1, uA, uN, uC, n3, n4, n5, n6, n7, n8, n9, n10, n11⟩ us = xsB ++ (le (n3) 1) ++ (le n4 2) ++ (le (flagI n5) 1) := by rw [HXB.out, HXA.out]; simp [comBytes, reqBytes, HLU.out]
          show World.ownsRow _ _ _ _ _ _ _
          rw [h]
          exact row_mono H6.out.row HB.out.size
        have HBF : Aside (Below w.heap.size w w6) := HB.out.trans (H6.out.below.mono HB.out.size)
        clear H6 HX6 HU HF HB
        go_wp2
        go_ret
        exact ⟨⟨a6, 3 + uN + 1 + 2 + 1, c6, rfl, HR.out⟩, HBF.out⟩
  · have hq : 0 ≤ n6 ∧ n6 ≤ 65535 := fits_i2 (HF.out.1.fit.rma (by dsimp only; omega) (by dsimp only; omega))
    obtain ⟨hq0, hq1⟩ := hq
    obtain ⟨y0, y1, y2, y3, y4, y5, y6, y7, y8, y9, y10, y11⟩ := HX1.out.cells
    have hl1 := HX1.out.lt
    dsimp only at y0 y1 y2 y3 y4 y5 y6 y7 y8 y9 y10 y11
    have HC : Aside (∀ X, Calls Try.prog 28 #[.int .u64 n6, .int .i64 2] X fun e w' => (∃ a c, e = .returned (.slice a 2 c) ∧ IsBytes w' a (le n6 2) ∧ (a = none → c = 0)) ∧ Below X.heap.size X w') := fun X => bytes_w n6 2 (by omega) (by omega) (by decide) X
    go_wp2_with fail
    with_reducible refine Calls.mono (HC.out _) ?_
    rintro e w9 ⟨⟨a9, c9, rfl, g9, n9'⟩, b9⟩
    have HL := H1.out.later b9
    have HXL : Aside (ComBox w9 g1 24 ⟨2, n1, uA, uN, uC, n3, n4, n5, n6, n7, n8, n9, n10, n11⟩) := HX1.out.below b9
    clear HC
    go_upto_region 26 with (at_builtin; refine wpList_append_own1 rfl _ _ 26 rfl W.heap.size 5 Try.underlying26 by_info (.slice a1 (1) 1) (1) _ rfl HL.row (a9) (le n6 2) 2 (le_length _ _) c9 rfl g9 n9' (3) rfl (by omega) HL.below.size ?_; intro a2 c2 w2 h1 h2 h3 h4)
    have H2 : Aside (Bld W w2 a2 (3) c2 (le (2 : Int) 1 ++ (le n6 2))) := ⟨h1, HL.below.trans h2⟩
    have HX2 : Aside (ComBox w2 g1 24 ⟨2, n1, uA, uN, uC, n3, n4, n5, n6, n7, n8, n9, n10, n11⟩) := HXW.out.below (HL.below.trans h2)
    clear h1 h2 h3 h4 HL HXL H1 HX1 y0 y1 y2 y3 y4 y5 y6 y7 y8 y9 y10 y11 hl1 g9 n9' b9
    have HR : Aside (w2.ownsRow w.heap.size 5 1 (.slice a2 (3) c2) (3) ((comBytes ⟨2, n1, uA, uN, uC, n3, n4, n5, n6, n7, n8, n9, n10, n11⟩ us).map bval)) := by
      have h : comBytes ⟨2, n1, uA, uN, uC, n3, n4, n5, n6, n7, n8, n9, n10, n11⟩ us = le (2 : Int) 1 ++ (le n6 2) := by simp [comBytes]
      show World.ownsRow _ _ _ _ _ _ _
      rw [h]
      exact row_mono H2.out.row HB.out.size
    have HBF : Aside (Below w.heap.size w w2) := HB.out.trans (H2.out.below.mono HB.out.size)
    clear H2 HX2 HU HF HB
    go_wp2
    go_ret
    exact ⟨⟨a2, 3, c2, rfl, HR.out⟩, HBF.out⟩
  · have hq : 0 ≤ n6 ∧ n6 ≤ 65535 := fits_i2 (HF.out.1.fit.rma (by dsimp only; omega) (by dsimp only; omega))
    obtain ⟨hq0, hq1⟩ := hq
    obtain ⟨y0, y1, y2, y3, y4, y5, y6, y7, y8, y9, y10, y11⟩ := HX1.out.cells
    have hl1 := HX1.out.lt
    dsimp only at y0 y1 y2 y3 y4 y5 y6 y7 y8 y9 y10 y11
    have HC : Aside (∀ X, Calls Try.prog 28 #[.int .u64 n6, .int .i64 2] X fun e w' => (∃ a c, e = .returned (.slice a 2 c) ∧ IsBytes w' a (le n6 2) ∧ (a = none → c = 0)) ∧ Below X.heap.size X w') := fun X => bytes_w n6 2 (by omega) (by omega) (by decide) X
    go_wp2_with fail
    with_reducible refine Calls.mono (HC.out _) ?_
    rintro e w9 ⟨⟨a9, c9, rfl, g9, n9'⟩, b9⟩
    have HL := H1.out.later b9
    have HXL : Aside (ComBox w9 g1 24 ⟨3, n1, uA, uN, uC, n3, n4, n5, n6, n7, n8, n9, n10, n11⟩) := HX1.out.below b9
    clear HC
    go_upto_region 26 with (at_builtin; refine wpList_append_own1 rfl _ _ 26 rfl W.heap.size 5 Try.underlying26 by_info (.slice a1 (1) 1) (1) _ rfl HL.row (a9) (le n6 2) 2 (le_length _ _) c9 rfl g9 n9' (3) rfl (by omega) HL.below.size ?_; intro a2 c2 w2 h1 h2 h3 h4)
    have H2 : Aside (Bld W w2 a2 (3) c2 (le (3 : Int) 1 ++ (le n6 2))) := ⟨h1, HL.below.trans h2⟩
    have HX2 : Aside (ComBox w2 g1 24 ⟨3, n1, uA, uN, uC, n3, n4, n5, n6, n7, n8, n9, n10, n11⟩) := HXW.out.below (HL.below.trans h2)
    clear h1 h2 h3 h4 HL HXL H1 HX1 y0 y1 y2 y3 y4 y5 y6 y7 y8 y9 y10 y11 hl1 g9 n9' b9
    have HR : Aside (w2.ownsRow w.heap.size 5 1 (.slice a2 (3) c2) (3) ((comBytes ⟨3, n1, uA, uN, uC, n3, n4, n5, n6, n7, n8, n9, n10, n11⟩ us).map bval)) := by
      have h : comBytes ⟨3, n1, uA, uN, uC, n3, n4, n5, n6, n7, n8, n9, n10, n11⟩ us = le (3 : Int) 1 ++ (le n6 2) := by simp [comBytes]
      show World.ownsRow _ _ _ _ _ _ _
      rw [h]
      exact row_mono H2.out.row HB.out.size
    have HBF : Aside (Below w.heap.size w w2) := HB.out.trans (H2.out.below.mono HB.out.size)
    clear H2 HX2 HU HF HB
    go_wp2
    go_ret
    exact ⟨⟨a2, 3, c2, rfl, HR.out⟩, HBF.out⟩
  · have hq : 0 ≤ n6 ∧ n6 ≤ 65535 := fits_i2 (HF.out.1.fit.rma (by dsimp only; omega) (by dsimp only; omega))
    obtain ⟨hq0, hq1⟩ := hq
    obtain ⟨y0, y1, y2, y3, y4, y5, y6, y7, y8, y9, y10, y11⟩ := HX1.out.cells
    have hl1 := HX1.out.lt
    dsimp only at y0 y1 y2 y3 y4 y5 y6 y7 y8 y9 y10 y11
    have HC : Aside (∀ X, Calls Try.prog 28 #[.int .u64 n6, .int .i64 2] X fun e w' => (∃ a c, e = .returned (.slice a 2 c) ∧ IsBytes w' a (le n6 2) ∧ (a = none → c = 0)) ∧ Below X.heap.size X w') := fun X => bytes_w n6 2 (by omega) (by omega) (by decide) X
    go_wp2_with fail
    with_reducible refine Calls.mono (HC.out _) ?_
    rintro e w9 ⟨⟨a9, c9, rfl, g9, n9'⟩, b9⟩
    have HL := H1.out.later b9
    have HXL : Aside (ComBox w9 g1 24 ⟨4, n1, uA, uN, uC, n3, n4, n5, n6, n7, n8, n9, n10, n11⟩) := HX1.out.below b9
    clear HC
    go_upto_region 26 with (at_builtin; refine wpList_append_own1 rfl _ _ 26 rfl W.heap.size 5 Try.underlying26 by_info (.slice a1 (1) 1) (1) _ rfl HL.row (a9) (le n6 2) 2 (le_length _ _) c9 rfl g9 n9' (3) rfl (by omega) HL.below.size ?_; intro a2 c2 w2 h1 h2 h3 h4)
    have H2 : Aside (Bld W w2 a2 (3) c2 (le (4 : Int) 1 ++ (le n6 2))) := ⟨h1, HL.below.trans h2⟩
    have HX2 : Aside (ComBox w2 g1 24 ⟨4, n1, uA, uN, uC, n3, n4, n5, n6, n7, n8, n9, n10, n11⟩) := HXW.out.below (HL.below.trans h2)
    clear h1 h2 h3 h4 HL HXL H1 HX1 y0 y1 y2 y3 y4 y5 y6 y7 y8 y9 y10 y11 hl1 g9 n9' b9
    have HR : Aside (w2.ownsRow w.heap.size 5 1 (.slice a2 (3) c2) (3) ((comBytes ⟨4, n1, uA, uN, uC, n3, n4, n5, n6, n7, n8, n9, n10, n11⟩ us).map bval)) := by
      have h : comBytes ⟨4, n1, uA, uN, uC, n3, n4, n5, n6, n7, n8, n9, n10, n11⟩ us = le (4 : Int) 1 ++ (le n6 2) := by simp [comBytes]
      show World.ownsRow _ _ _ _ _ _ _
      rw [h]
      exact row_mono H2.out.row HB.out.size
    have HBF : Aside (Below w.heap.size w w2) := HB.out.trans (H2.out.below.mono HB.out.size)
    clear H2 HX2 HU HF HB
    go_wp2
    go_ret
    exact ⟨⟨a2, 3, c2, rfl, HR.out⟩, HBF.out⟩
  · have hq : 0 ≤ n6 ∧ n6 ≤ 65535 := fits_i2 (HF.out.1.fit.rma (by dsimp only; omega) (by dsimp only; omega))
    obtain ⟨hq0, hq1⟩ := hq
    obtain ⟨y0, y1, y2, y3, y4, y5, y6, y7, y8, y9, y10, y11⟩ := HX1.out.cells
    have hl1 := HX1.out.lt
    dsimp only at y0 y1 y2 y3 y4 y5 y6 y7 y8 y9 y10 y11
    have HC : Aside (∀ X, Calls Try.prog 28 #[.int .u64 n6, .int .i64 2] X fun e w' => (∃ a c, e = .returned (.slice a 2 c) ∧ IsBytes w' a (le n6 2) ∧ (a = none → c = 0)) ∧ Below X.heap.size X w') := fun X => bytes_w n6 2 (by omega) (by omega) (by decide) X
    go_wp2_with fail
    with_reducible refine Calls.mono (HC.out _) ?_
    rintro e w9 ⟨⟨a9, c9, rfl, g9, n9'⟩, b9⟩
    have HL := H1.out.later b9
    have HXL : Aside (ComBox w9 g1 24 ⟨5, n1, uA, uN, uC, n3, n4, n5, n6, n7, n8, n9, n10, n11⟩) := HX1.out.below b9
    clear HC
    go_upto_region 26 with (at_builtin; refine wpList_append_own1 rfl _ _ 26 rfl W.heap.size 5 Try.underlying26 by_info (.slice a1 (1) 1) (1) _ rfl HL.row (a9) (le n6 2) 2 (le_length _ _) c9 rfl g9 n9' (3) rfl (by omega) HL.below.size ?_; intro a2 c2 w2 h1 h2 h3 h4)
    have H2 : Aside (Bld W w2 a2 (3) c2 (le (5 : Int) 1 ++ (le n6 2))) := ⟨h1, HL.below.trans h2⟩
    have HX2 : Aside (ComBox w2 g1 24 ⟨5, n1, uA, uN, uC, n3, n4, n5, n6, n7, n8, n9, n10, n11⟩) := HXW.out.below (HL.below.trans h2)
    clear h1 h2 h3 h4 HL HXL H1 HX1 y0 y1 y2 y3 y4 y5 y6 y7 y8 y9 y10 y11 hl1 g9 n9' b9
    have HR : Aside (w2.ownsRow w.heap.size 5 1 (.slice a2 (3) c2) (3) ((comBytes ⟨5, n1, uA, uN, uC, n3, n4, n5, n6, n7, n8, n9, n10, n11⟩ us).map bval)) := by
      have h : comBytes ⟨5, n1, uA, uN, uC, n3, n4, n5, n6, n7, n8, n9, n10, n11⟩ us = le (5 : Int) 1 ++ (le n6 2) := by simp [comBytes]
      show World.ownsRow _ _ _ _ _ _ _
      rw [h]
      exact row_mono H2.out.row HB.out.size
    have HBF : Aside (Below w.heap.size w w2) := HB.out.trans (H2.out.below.mono HB.out.size)
    clear H2 HX2 HU HF HB
    go_wp2
    go_ret
    exact ⟨⟨a2, 3, c2, rfl, HR.out⟩, HBF.out⟩
  · have hq : 0 ≤ n6 ∧ n6 ≤ 65535 := fits_i2 (HF.out.1.fit.rma (by dsimp only; omega) (by dsimp only; omega))
    obtain ⟨hq0, hq1⟩ := hq
    have hg := HF.out.1.fit.grd rfl
    obtain ⟨hg0, hg1⟩ : 0 ≤ n7 ∧ n7 ≤ 255 := fits_i1 hg.1
    obtain ⟨hg2, hg3⟩ : 0 ≤ n8 ∧ n8 ≤ 255 := fits_i1 hg.2
    clear hg
    obtain ⟨y0, y1, y2, y3, y4, y5, y6, y7, y8, y9, y10, y11⟩ := HX1.out.cells
    have hl1 := HX1.out.lt
    dsimp only at y0 y1 y2 y3 y4 y5 y6 y7 y8 y9 y10 y11
    have HC : Aside (∀ X, Calls Try.prog 28 #[.int .u64 n6, .int .i64 2] X fun e w' => (∃ a c, e = .returned (.slice a 2 c) ∧ IsBytes w' a (le n6 2) ∧ (a = none → c = 0)) ∧ Below X.heap.size X w') := fun X => bytes_w n6 2 (by omega) (by omega) (by decide) X
    go_wp2_with fail
    with_reducible refine Calls.mono (HC.out _) ?_
    rintro e w9 ⟨⟨a9, c9, rfl, g9, n9'⟩, b9⟩
    have HL := H1.out.later b9
    have HXL : Aside (ComBox w9 g1 24 ⟨6, n1, uA, uN, uC, n3, n4, n5, n6, n7, n8, n9, n10, n11⟩) := HX1.out.below b9
    clear HC
    go_upto_region 20 with (at_builtin; refine wpList_append_own1 rfl _ _ 26 rfl W.heap.size 5 Try.underlying26 by_info (.slice a1 (1) 1) (1) _ rfl HL.row (a9) (le n6 2) 2 (le_length _ _) c9 rfl g9 n9' (3) rfl (by omega) HL.below.size ?_; intro a2 c2 w2 h1 h2 h3 h4)
    have H2 : Aside (Bld W w2 a2 (3) c2 (le (6 : Int) 1 ++ (le n6 2))) := ⟨h1, HL.below.trans h2⟩
    have HX2 : Aside (ComBox w2 g1 24 ⟨6, n1, uA, uN, uC, n3, n4, n5, n6, n7, n8, n9, n10, n11⟩) := HXW.out.below (HL.below.trans h2)
    clear h1 h2 h3 h4 HL HXL H1 HX1 y0 y1 y2 y3 y4 y5 y6 y7 y8 y9 y10 y11 hl1 g9 n9' b9
    obtain ⟨y0, y1, y2, y3, y4, y5, y6, y7, y8, y9, y10, y11⟩ := HX2.out.cells
    have hl1 := HX2.out.lt
    dsimp only at y0 y1 y2 y3 y4 y5 y6 y7 y8 y9 y10 y11
    have HL := H2.out.later (upd_box (w := w2) (.cells #[.int .u8 (n7), .int .u8 (n8)] 5))
    have HXL : Aside (ComBox (w2.alloc (.cells #[.int .u8 (n7), .int .u8 (n8)] 5)) g1 24 ⟨6, n1, uA, uN, uC, n3, n4, n5, n6, n7, n8, n9, n10, n11⟩) := HX2.out.below (upd_box _)
    go_upto_region 26 with (at_builtin; refine wpList_append_own1 rfl _ _ 26 rfl W.heap.size 5 Try.underlying26 by_info (.slice a2 (3) c2) (3) _ rfl HL.row (some ⟨w2.heap.size, 0, none⟩) (le (n7) 1 ++ le (n8) 1) 2 (by simp [le_length]) 2 rfl (bytes_two w2 (by omega) (by omega) (by omega) (by omega)) (fun x => by cases x) (5) rfl (by omega) HL.below.size ?_; intro a3 c3 w3 h1 h2 h3 h4)
    have H3 : Aside (Bld W w3 a3 (5) c3 (le (6 : Int) 1 ++ (le n6 2) ++ (le (n7) 1 ++ le (n8) 1))) := ⟨h1, HL.below.trans h2⟩
    have HX3 : Aside (ComBox w3 g1 24 ⟨6, n1, uA, uN, uC, n3, n4, n5, n6, n7, n8, n9, n10, n11⟩) := HXW.out.below (HL.below.trans h2)
    clear h1 h2 h3 h4 HL HXL H2 HX2 y0 y1 y2 y3 y4 y5 y6 y7 y8 y9 y10 y11 hl1
    have HR : Aside (w3.ownsRow w.heap.size 5 1 (.slice a3 (5) c3) (5) ((comBytes ⟨6, n1, uA, uN, uC, n3, n4, n5, n6, n7, n8, n9, n10, n11⟩ us).map bval)) := by
      have h : comBytes ⟨6, n1, uA, uN, uC, n3, n4, n5, n6, n7, n8, n9, n10, n11⟩ us = le (6 : Int) 1 ++ (le n6 2) ++ (le (n7) 1 ++ le (n8) 1) := by simp [comBytes]
      show World.ownsRow _ _ _ _ _ _ _
      rw [h]
      exact row_mono H3.out.row HB.out.size
    have HBF : Aside (Below w.heap.size w w3) := HB.out.trans (H3.out.below.mono HB.out.size)
    clear H3 HX3 HU HF HB
    go_wp2
    go_ret
    exact ⟨⟨a3, 5, c3, rfl, HR.out⟩, HBF.out⟩
  · obtain ⟨hq0, hq1⟩ : 0 ≤ n9 ∧ n9 ≤ 65535 := fits_i2 (HF.out.1.fit.day rfl)
    obtain ⟨y0, y1, y2, y3, y4, y5, y6, y7, y8, y9, y10, y11⟩ := HX1.out.cells
    have hl1 := HX1.out.lt
    dsimp only at y0 y1 y2 y3 y4 y5 y6 y7 y8 y9 y10 y11
    have HC : Aside (∀ X, Calls Try.prog 28 #[.int .u64 n9, .int .i64 2] X fun e w' => (∃ a c, e = .returned (.slice a 2 c) ∧ IsBytes w' a (le n9 2) ∧ (a = none → c = 0)) ∧ Below X.heap.size X w') := fun X => bytes_w n9 2 (by omega) (by omega) (by decide) X
    go_wp2_with fail
    with_reducible refine Calls.mono (HC.out _) ?_
    rintro e w9 ⟨⟨a9, c9, rfl, g9, n9'⟩, b9⟩
    have HL := H1.out.later b9
    have HXL : Aside (ComBox w9 g1 24 ⟨7, n1, uA, uN, uC, n3, n4, n5, n6, n7, n8, n9, n10, n11⟩) := HX1.out.below b9
    clear HC
    go_upto_region 26 with (at_builtin; refine wpList_append_own1 rfl _ _ 26 rfl W.heap.size 5 Try.underlying26 by_info (.slice a1 (1) 1) (1) _ rfl HL.row (a9) (le n9 2) 2 (le_length _ _) c9 rfl g9 n9' (3) rfl (by omega) HL.below.size ?_; intro a2 c2 w2 h1 h2 h3 h4)
    have H2 : Aside (Bld W w2 a2 (3) c2 (le (7 : Int) 1 ++ (le n9 2))) := ⟨h1, HL.below.trans h2⟩
    have HX2 : Aside (ComBox w2 g1 24 ⟨7, n1, uA, uN, uC, n3, n4, n5, n6, n7, n8, n9, n10, n11⟩) := HXW.out.below (HL.below.trans h2)
    clear h1 h2 h3 h4 HL HXL H1 HX1 y0 y1 y2 y3 y4 y5 y6 y7 y8 y9 y10 y11 hl1 g9 n9' b9
    have HR : Aside (w2.ownsRow w.heap.size 5 1 (.slice a2 (3) c2) (3) ((comBytes ⟨7, n1, uA, uN, uC, n3, n4, n5, n6, n7, n8, n9, n10, n11⟩ us).map bval)) := by
      have h : comBytes ⟨7, n1, uA, uN, uC, n3, n4, n5, n6, n7, n8, n9, n10, n11⟩ us = le (7 : Int) 1 ++ (le n9 2) := by simp [comBytes]
      show World.ownsRow _ _ _ _ _ _ _
      rw [h]
      exact row_mono H2.out.row HB.out.size
    have HBF : Aside (Below w.heap.size w w2) := HB.out.trans (H2.out.below.mono HB.out.size)
    clear H2 HX2 HU HF HB
    go_wp2
    go_ret
    exact ⟨⟨a2, 3, c2, rfl, HR.out⟩, HBF.out⟩
  · obtain ⟨hq0, hq1⟩ : 0 ≤ n10 ∧ n10 ≤ 4294967295 := fits_i4 (HF.out.1.fit.key rfl)
    obtain ⟨y0, y1, y2, y3, y4, y5, y6, y7, y8, y9, y10, y11⟩ := HX1.out.cells
    have hl1 := HX1.out.lt
    dsimp only at y0 y1 y2 y3 y4 y5 y6 y7 y8 y9 y10 y11
    have HC : Aside (∀ X, Calls Try.prog 28 #[.int .u64 n10, .int .i64 4] X fun e w' => (∃ a c, e = .returned (.slice a 4 c) ∧ IsBytes w' a (le n10 4) ∧ (a = none → c = 0)) ∧ Below X.heap.size X w') := fun X => bytes_w n10 4 (by omega) (by omega) (by decide) X
    go_wp2_with fail
    with_reducible refine Calls.mono (HC.out _) ?_
    rintro e w9 ⟨⟨a9, c9, rfl, g9, n9'⟩, b9⟩
    have HL := H1.out.later b9
    have HXL : Aside (ComBox w9 g1 24 ⟨8, n1, uA, uN, uC, n3, n4, n5, n6, n7, n8, n9, n10, n11⟩) := HX1.out.below b9
    clear HC
    go_upto_region 25 with (at_builtin; refine wpList_append_own1 rfl _ _ 26 rfl W.heap.size 5 Try.underlying26 by_info (.slice a1 (1) 1) (1) _ rfl HL.row (a9) (le n10 4) 4 (le_length _ _) c9 rfl g9 n9' (5) rfl (by omega) HL.below.size ?_; intro a2 c2 w2 h1 h2 h3 h4)
    have H2 : Aside (Bld W w2 a2 (5) c2 (le (8 : Int) 1 ++ (le n10 4))) := ⟨h1, HL.below.trans h2⟩
    have HX2 : Aside (ComBox w2 g1 24 ⟨8, n1, uA, uN, uC, n3, n4, n5, n6, n7, n8, n9, n10, n11⟩) := HXW.out.below (HL.below.trans h2)
    clear h1 h2 h3 h4 HL HXL H1 HX1 y0 y1 y2 y3 y4 y5 y6 y7 y8 y9 y10 y11 hl1 g9 n9' b9
    obtain ⟨y0, y1, y2, y3, y4, y5, y6, y7, y8, y9, y10, y11⟩ := HX2.out.cells
    have hl1 := HX2.out.lt
    dsimp only at y0 y1 y2 y3 y4 y5 y6 y7 y8 y9 y10 y11
    have HC : Aside (∀ X, Calls Try.prog 29 #[.bool n11] X fun e w' => e = .returned (.int .u8 (flagI n11)) ∧ X = w') := law_flag n11
    go_wp2_with fail
    with_reducible refine Calls.mono (HC.out _) ?_
    rintro e w9 ⟨rfl, rfl⟩
    clear HC
    have hfl0 := (flagI_small n11).1
    have hfl1 := (flagI_small n11).2
    have HL := H2.out.later (upd_box (w := w2) (.cells #[.int .u8 (flagI n11)] 5))
    have HXL : Aside (ComBox (w2.alloc (.cells #[.int .u8 (flagI n11)] 5)) g1 24 ⟨8, n1, uA, uN, uC, n3, n4, n5, n6, n7, n8, n9, n10, n11⟩) := HX2.out.below (upd_box _)
    go_upto_region 26 with (at_builtin; refine wpList_append_own1 rfl _ _ 26 rfl W.heap.size 5 Try.underlying26 by_info (.slice a2 (5) c2) (5) _ rfl HL.row (some ⟨w2.heap.size, 0, none⟩) (le (flagI n11) 1) 1 (le_length _ _) 1 rfl (bytes_one w2 (by omega) (by omega)) (fun x => by cases x) (6) rfl (by omega) HL.below.size ?_; intro a3 c3 w3 h1 h2 h3 h4)
    have H3 : Aside (Bld W w3 a3 (6) c3 (le (8 : Int) 1 ++ (le n10 4) ++ (le (flagI n11) 1))) := ⟨h1, HL.below.trans h2⟩
    have HX3 : Aside (ComBox w3 g1 24 ⟨8, n1, uA, uN, uC, n3, n4, n5, n6, n7, n8, n9, n10, n11⟩) := HXW.out.below (HL.below.trans h2)
    clear h1 h2 h3 h4 HL HXL H2 HX2 y0 y1 y2 y3 y4 y5 y6 y7 y8 y9 y10 y11 hl1 hfl0 hfl1
    have HR : Aside (w3.ownsRow w.heap.size 5 1 (.slice a3 (6) c3) (6) ((comBytes ⟨8, n1, uA, uN, uC, n3, n4, n5, n6, n7, n8, n9, n10, n11⟩ us).map bval)) := by
      have h : comBytes ⟨8, n1, uA, uN, uC, n3, n4, n5, n6, n7, n8, n9, n10, n11⟩ us = le (8 : Int) 1 ++ (le n10 4) ++ (le (flagI n11) 1) := by simp [comBytes]
      show World.ownsRow _ _ _ _ _ _ _
      rw [h]
      exact row_mono H3.out.row HB.out.size
    have HBF : Aside (Below w.heap.size w w3) := HB.out.trans (H3.out.below.mono HB.out.size)
    clear H3 HX3 HU HF HB
    go_wp2
    go_ret
    exact ⟨⟨a3, 6, c3, rfl, HR.out⟩, HBF.out⟩
end Go.Proofs.Ytmaoimjfkncnpaa
