/-
  The law's Theirs and Ours. Conditions: those of each theorem.
-/
import Derived.Test.YtmaoimjfkncnpaaCm
import Derived.Deep.RegionHeld3
namespace Go.Proofs.Ytmaoimjfkncnpaa
open Go.RowKit
set_option maxRecDepth 100000

/-- Another place for the list. -/
def Com.at1 (r : Com) (uA : Option Addr) (uC : Nat) : Com := { r with uA := uA, uC := uC }

set_option maxHeartbeats 1000000 in
theorem law_ours (r : Com) (w : World) : Calls Try.prog 17 #[.agg #[.int .i64 r.kind, .int .i64 r.ord, .slice r.uA r.uN r.uC, .int .i64 r.rea, .int .i64 r.want, .bool r.cred, .int .i64 r.rma, .int .i64 r.unit, .int .i64 r.grd, .int .i64 r.days, .int .i64 r.key, .bool r.yes]] w fun e w' => e = .returned (.agg #[.int .i64 r.kind, .int .i64 r.ord, .slice r.uA r.uN r.uC, .int .i64 r.rea, .int .i64 r.want, .bool r.cred, .int .i64 r.rma, .int .i64 r.unit, .int .i64 r.grd, .int .i64 r.days, .int .i64 r.key, .bool r.yes]) ∧ Below w.heap.size w w' := by
  obtain ⟨n0, n1, uA, uN, uC, n3, n4, n5, n6, n7, n8, n9, n10, n11⟩ := r
  dsimp only at *
  have hcs := (ComBox.made w 30 ⟨n0, n1, uA, uN, uC, n3, n4, n5, n6, n7, n8, n9, n10, n11⟩).below (upd_box (.cells #[.int .i64 0, .int .i64 0, .slice none 0 0, .int .i64 0, .int .i64 0, .bool false, .int .i64 0, .int .i64 0, .int .i64 0, .int .i64 0, .int .i64 0, .bool false] 24))
  have HC : Aside _ := hcs.at_cells
  have hlt := hcs.lt
  have HH : Aside _ := (ComBox.made (w.alloc (.cells #[.int .i64 n0, .int .i64 n1, .slice uA uN uC, .int .i64 n3, .int .i64 n4, .bool n5, .int .i64 n6, .int .i64 n7, .int .i64 n8, .int .i64 n9, .int .i64 n10, .bool n11] 30)) 24 ⟨n0, n1, uA, uN, uC, n3, n4, n5, n6, n7, n8, n9, n10, n11⟩).at'
  rw [show (w.alloc (.cells #[.int .i64 n0, .int .i64 n1, .slice uA uN uC, .int .i64 n3, .int .i64 n4, .bool n5, .int .i64 n6, .int .i64 n7, .int .i64 n8, .int .i64 n9, .int .i64 n10, .bool n11] 30)).heap.size = w.heap.size + 1 by simp] at HH
  clear hcs
  go_enter Try.func17, Try.ntmps17
  go_wp2_with (first
    | (refine wpList_load_cells rfl 30 _ rfl w.heap.size 0 rfl _ _ HC.out Try.underlying30 rfl (by kernel_rfl) ?_)
    | (refine wpList_store_new rfl 24 _ _ rfl _ _ rfl rfl (by kernel_rfl) rfl rfl ?_))
  refine bodyPost_ret (results_cell_row rfl _ _ (w.heap.size + 1) 24 #[.int .i64 n0, .int .i64 n1, .slice uA uN uC, .int .i64 n3, .int .i64 n4, .bool n5, .int .i64 n6, .int .i64 n7, .int .i64 n8, .int .i64 n9, .int .i64 n10, .bool n11] (0, 0) _ rfl HH.out Try.underlying24 rfl info_comO) rfl ?_
  exact ⟨rfl, blw_alloc (upd_box _) _⟩

theorem set2_at {w : World} {g : Nat} {t : TypeId} {r : Com} (h : ComBox w g t r) (uA : Option Addr) (uC : Nat) : ComBox (w.setCell ⟨g, 2, none⟩ (.slice uA r.uN uC)) g t (r.at1 uA uC) := by
  have g0 := setCell_heap_at (o := 2) (u := .slice uA r.uN uC) h.at'
  exact ⟨by simpa [Com.at1] using g0⟩
theorem below_chain {a X b : World} (h : Below a.heap.size a X) (l : Below X.heap.size X b) : Below a.heap.size a b := h.trans (l.mono h.size)

set_option maxHeartbeats 4000000 in
theorem law_theirs (r : Com) (us : List Int) (w : World) (h : LiAt w r.uA r.uN r.uC us) (hu : r.uN ≤ 1000) :
    Calls Try.prog 10 #[.agg #[.int .i64 r.kind, .int .i64 r.ord, .slice r.uA r.uN r.uC, .int .i64 r.rea, .int .i64 r.want, .bool r.cred, .int .i64 r.rma, .int .i64 r.unit, .int .i64 r.grd, .int .i64 r.days, .int .i64 r.key, .bool r.yes]] w fun e w' => (∃ uA uC, e = .returned (.agg #[.int .i64 (r.at1 uA uC).kind, .int .i64 (r.at1 uA uC).ord, .slice (r.at1 uA uC).uA (r.at1 uA uC).uN (r.at1 uA uC).uC, .int .i64 (r.at1 uA uC).rea, .int .i64 (r.at1 uA uC).want, .bool (r.at1 uA uC).cred, .int .i64 (r.at1 uA uC).rma, .int .i64 (r.at1 uA uC).unit, .int .i64 (r.at1 uA uC).grd, .int .i64 (r.at1 uA uC).days, .int .i64 (r.at1 uA uC).key, .bool (r.at1 uA uC).yes]) ∧ NewLi w' w.heap.size uA r.uN uC us) ∧ Below w.heap.size w w' := by
  obtain ⟨n0, n1, uA, uN, uC, n3, n4, n5, n6, n7, n8, n9, n10, n11⟩ := r
  have H : Aside _ := h
  clear h
  dsimp only at *
  obtain ⟨W, hW, hs3, hb3, X1, X2, X3⟩ := three_boxes w 24 30 30 ⟨n0, n1, uA, uN, uC, n3, n4, n5, n6, n7, n8, n9, n10, n11⟩ com0 ⟨n0, n1, uA, uN, uC, n3, n4, n5, n6, n7, n8, n9, n10, n11⟩
  have hcs := (ComBox.made w 24 ⟨n0, n1, uA, uN, uC, n3, n4, n5, n6, n7, n8, n9, n10, n11⟩).below (upd_box (.cells #[.int .i64 0, .int .i64 0, .slice none 0 0, .int .i64 0, .int .i64 0, .bool false, .int .i64 0, .int .i64 0, .int .i64 0, .int .i64 0, .int .i64 0, .bool false] 30))
  have HC : Aside _ := hcs.at_cells
  clear hcs
  go_enter Try.func10, Try.ntmps10
  go_upto_region 2 with (first
    | (refine wpList_load_cells rfl 24 _ rfl w.heap.size 0 rfl _ _ HC.out Try.underlying24 rfl (by kernel_rfl) ?_)
    | (refine wpList_store_new rfl 30 _ _ rfl _ _ rfl rfl (by kernel_rfl) rfl rfl ?_))
  unfold com0 at hW
  dsimp only at hW
  rw [← hW]
  obtain ⟨g3, hg3⟩ : ∃ g, g = w.heap.size + 1 + 1 := ⟨_, rfl⟩
  have X3' : ComBox W g3 30 ⟨n0, n1, uA, uN, uC, n3, n4, n5, n6, n7, n8, n9, n10, n11⟩ := by rw [hg3]; exact X3
  rw [← hg3]
  obtain ⟨g2, hg2⟩ : ∃ g, g = w.heap.size + 1 := ⟨_, rfl⟩
  have X2' : ComBox W g2 30 com0 := by rw [hg2]; exact X2
  rw [← hg2]
  obtain ⟨g1, hg1⟩ : ∃ g, g = w.heap.size := ⟨_, rfl⟩
  have X1' : ComBox W g1 24 ⟨n0, n1, uA, uN, uC, n3, n4, n5, n6, n7, n8, n9, n10, n11⟩ := by rw [hg1]; exact X1
  rw [← hg1]
  have hne : ¬ g1 = g3 := by omega
  have hne2 : ¬ g2 = g3 := by omega
  have HLO : Hid (w.heap.size ≤ g1 ∧ w.heap.size ≤ g2 ∧ w.heap.size ≤ g3 ∧ w.heap.size ≤ W.heap.size ∧ g2 < W.heap.size ∧ g3 < W.heap.size) := ⟨by omega, by omega, by omega, by omega, by omega, by omega⟩
  obtain ⟨-, -, y2, -⟩ := X1'.cells
  have hgl := X1'.lt
  have HX3 : Aside _ := X3'
  have HX2 : Aside _ := X2'
  have HB3 : Aside (Below w.heap.size w W) := hb3
  have HW : Aside _ := H.out.below hb3
  have HU1 := Lib.hid HW.out.len
  have HU2 : Aside (IsInts W uA us) := HW.out.at'
  have HU3 : Hid (uA = none → uC = 0) := HW.out.nil
  have u0 := Upd.refl (fun q => q = g3) W
  have b0 := Below.refl W.heap.size W
  clear hW hs3 hb3 X1 X2 X3 X1' X2' X3' HC H hg1 hg2 hg3
  have hu6 : uN ≤ 1000000 := by omega
  go_upto_region 3 with (at_builtin; refine wpList_append_zero (w0 := W) rfl _ _ rfl ⟨_, _, rfl⟩ uA uN uC rfl us HU1.out HU2.out HU3.out hu6 ?_ ?_; (with_reducible (repeat (first | assumption | refine Below.drew ?_ | refine blw_alloc ?_ _))); intro a8 c8 w8 N8 b8 l8; have u8 : Upd (fun q => q = g3) W w8 := Upd.below b8; have X8 := HX3.out.below b8; obtain ⟨-, -, z2, -⟩ := X8.cells; have zf := X8.fz)
  have HV3 : Aside (ComBox (w8.setCell ⟨g3, 2, none⟩ (.slice a8 uN c8)) g3 30 ⟨n0, n1, a8, uN, c8, n3, n4, n5, n6, n7, n8, n9, n10, n11⟩) := set2_at X8 a8 c8
  have hu8 : Upd (fun k => k = g3) w8 (w8.setCell ⟨g3, 2, none⟩ (.slice a8 uN c8)) := upd_set _ _
  have HV2 : Aside (ComBox (w8.setCell ⟨g3, 2, none⟩ (.slice a8 uN c8)) g2 30 com0) := (HX2.out.below b8).upd hu8 hne2
  have HN8 : Aside (NewLi (w8.setCell ⟨g3, 2, none⟩ (.slice a8 uN c8)) W.heap.size a8 uN c8 us) := N8.upd hu8 (fun g h1 _ e => by have := HLO.out; omega)
  have HBV : Aside (Below w.heap.size w (w8.setCell ⟨g3, 2, none⟩ (.slice a8 uN c8))) := (HB3.out.trans (b8.mono HB3.out.size)).trans (hu8.toBelow (by have := HB3.out.size; have := b8.size; omega) (fun k hk e => by have := HLO.out; omega))
  clear N8 b8 l8 u8 X8 z2 zf hu8 u0 b0 y2 HX3 HX2 HB3 HW
  generalize w8.setCell ⟨g3, 2, none⟩ (.slice a8 uN c8) = V at *
  have HCV : Aside (∀ j v, (#[.int .i64 n0, .int .i64 n1, .slice a8 uN c8, .int .i64 n3, .int .i64 n4, .bool n5, .int .i64 n6, .int .i64 n7, .int .i64 n8, .int .i64 n9, .int .i64 n10, .bool n11] : Array Value)[j]? = some v → V.cell? ⟨g3, 0 + j, none⟩ = some v) := HV3.out.at_cells
  obtain ⟨y0, y1, y2, y3, y4, y5, y6, y7, y8, y9, y10, y11⟩ := HV2.out.cells
  have yf := HV2.out.fz
  have HF : Aside _ := set12_at HV2.out ⟨n0, n1, a8, uN, c8, n3, n4, n5, n6, n7, n8, n9, n10, n11⟩
  have HFU : Aside _ := set12_upd V g2 ⟨n0, n1, a8, uN, c8, n3, n4, n5, n6, n7, n8, n9, n10, n11⟩
  unfold set12 at HF HFU
  dsimp only at HF HFU
  clear HV2 HV3
  go_wp2_with (refine wpList_load_cells rfl 30 _ rfl g3 0 rfl _ _ HCV.out Try.underlying30 rfl (by kernel_rfl) ?_)
  refine bodyPost_ret (results_cell_row rfl _ _ g2 30 #[.int .i64 n0, .int .i64 n1, .slice a8 uN c8, .int .i64 n3, .int .i64 n4, .bool n5, .int .i64 n6, .int .i64 n7, .int .i64 n8, .int .i64 n9, .int .i64 n10, .bool n11] (0, 0) _ rfl HF.out.at' Try.underlying30 rfl info_com) rfl ?_
  exact ⟨⟨a8, c8, rfl, (HN8.out.upd HFU.out (fun g h1 _ e => by have := HLO.out; omega)).lower HLO.out.2.2.2.1⟩, HBV.out.trans (HFU.out.toBelow HBV.out.size (fun k hk e => by have := HLO.out; omega))⟩
end Go.Proofs.Ytmaoimjfkncnpaa
