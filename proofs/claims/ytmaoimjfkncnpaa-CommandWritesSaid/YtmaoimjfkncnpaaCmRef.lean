/-
  The document's Formed. Conditions: those of each theorem.
-/
import Derived.Test.YtmaoimjfkncnpaaCmRead
import Derived.Deep.DeepCutAuto
import Derived.Deep.CutBlock
namespace Go.Proofs.Ytmaoimjfkncnpaa
open Go.RowKit
set_option maxRecDepth 100000

theorem fits_iff1 {v : Int} : fits v 1 = true ↔ 0 ≤ v ∧ v ≤ 255 := by simp [fits]; omega
theorem fits_iff2 {v : Int} : fits v 2 = true ↔ 0 ≤ v ∧ v ≤ 65535 := by simp [fits]; omega
theorem fits_iff4 {v : Int} : fits v 4 = true ↔ 0 ≤ v ∧ v ≤ 4294967295 := by simp [fits]; omega
/-- All but the kind is zero. -/
structure AllZ (x : Com) : Prop where
  ord : x.ord = 0
  us : x.uN = 0
  rea : x.rea = 0
  want : x.want = 0
  cred : x.cred = false
  rma : x.rma = 0
  unit : x.unit = 0
  grd : x.grd = 0
  days : x.days = 0
  key : x.key = 0
  yes : x.yes = false
section
variable {n1 : Int} {uA : Option Addr} {uN uC : Nat} {n3 n4 : Int} {n5 : Bool} {n6 n7 n8 n9 n10 : Int} {n11 : Bool} {us : List Int}
theorem z_req (hu : us.length = uN) (h1 : 1 ≤ uN ∧ uN ≤ 60) (h2 : 0 ≤ n1 ∧ n1 ≤ 255) (h3 : 0 ≤ n3 ∧ n3 ≤ 255) (h4 : 0 ≤ n4 ∧ n4 ≤ 65535) (h5 : ∀ x ∈ us, 0 ≤ x ∧ x ≤ 255) : AllZ ⟨1, 0, none, 0, 0, 0, 0, false, n6, n7, n8, n9, n10, n11⟩ ↔ FormedC ⟨1, n1, uA, uN, uC, n3, n4, n5, n6, n7, n8, n9, n10, n11⟩ us := by
  constructor
  · rintro ⟨-, -, -, -, -, a6, a7, a8, a9, a10, a11⟩
    dsimp only at a6 a7 a8 a9 a10 a11
    refine ⟨⟨by dsimp only; omega, ⟨fun _ => ⟨fits_iff1.2 h2, fits_iff1.2 (by omega), fun x hx => by rw [Int.add_zero]; exact fits_iff1.2 (h5 x hx), fits_iff1.2 h3, fits_iff2.2 h4⟩, fun e => by dsimp only at e; omega, fun e => by dsimp only at e; omega, fun e => by dsimp only at e; omega, fun e => by dsimp only at e; omega⟩, ⟨fun e => absurd rfl e, fun _ => a6, fun _ => ⟨a7, a8⟩, fun _ => a9, fun _ => ⟨a10, a11⟩⟩⟩, fun _ => by omega⟩
  · rintro ⟨⟨-, -, z⟩, -⟩
    exact ⟨rfl, rfl, rfl, rfl, rfl, z.rma (.inl rfl), (z.grd (by dsimp only; omega)).1, (z.grd (by dsimp only; omega)).2, z.day (by dsimp only; omega), (z.key (by dsimp only; omega)).1, (z.key (by dsimp only; omega)).2⟩
theorem z_rma {k : Int} (hk : k = 2 ∨ k = 3 ∨ k = 4 ∨ k = 5) (hu : us.length = uN) (h6 : 0 ≤ n6 ∧ n6 ≤ 65535) : AllZ ⟨k, n1, uA, uN, uC, n3, n4, n5, 0, n7, n8, n9, n10, n11⟩ ↔ FormedC ⟨k, n1, uA, uN, uC, n3, n4, n5, n6, n7, n8, n9, n10, n11⟩ us := by
  constructor
  · rintro ⟨a1, a2, a3, a4, a5, -, a7, a8, a9, a10, a11⟩
    dsimp only at a1 a2 a3 a4 a5 a7 a8 a9 a10 a11
    exact ⟨⟨by dsimp only; omega, ⟨fun e => by dsimp only at e; omega, fun _ _ => fits_iff2.2 h6, fun e => by dsimp only at e; omega, fun e => by dsimp only at e; omega, fun e => by dsimp only at e; omega⟩, ⟨fun _ => ⟨a1, List.length_eq_zero_iff.1 (by omega), a3, a4, a5⟩, fun e => by dsimp only at e; omega, fun _ => ⟨a7, a8⟩, fun _ => a9, fun _ => ⟨a10, a11⟩⟩⟩, fun e => by dsimp only at e; omega⟩
  · rintro ⟨⟨-, -, z⟩, -⟩
    obtain ⟨b1, b2, b3, b4, b5⟩ := z.req (by dsimp only; omega)
    exact ⟨b1, by rw [b2] at hu; exact hu.symm, b3, b4, b5, rfl, (z.grd (by dsimp only; omega)).1, (z.grd (by dsimp only; omega)).2, z.day (by dsimp only; omega), (z.key (by dsimp only; omega)).1, (z.key (by dsimp only; omega)).2⟩
theorem z_grd (hu : us.length = uN) (h6 : 0 ≤ n6 ∧ n6 ≤ 65535) (h7 : 0 ≤ n7 ∧ n7 ≤ 255) (h8 : 0 ≤ n8 ∧ n8 ≤ 255) : AllZ ⟨6, n1, uA, uN, uC, n3, n4, n5, 0, 0, 0, n9, n10, n11⟩ ↔ FormedC ⟨6, n1, uA, uN, uC, n3, n4, n5, n6, n7, n8, n9, n10, n11⟩ us := by
  constructor
  · rintro ⟨a1, a2, a3, a4, a5, -, -, -, a9, a10, a11⟩
    dsimp only at a1 a2 a3 a4 a5 a9 a10 a11
    exact ⟨⟨by dsimp only; omega, ⟨fun e => by dsimp only at e; omega, fun _ _ => fits_iff2.2 h6, fun _ => ⟨fits_iff1.2 h7, fits_iff1.2 h8⟩, fun e => by dsimp only at e; omega, fun e => by dsimp only at e; omega⟩, ⟨fun _ => ⟨a1, List.length_eq_zero_iff.1 (by omega), a3, a4, a5⟩, fun e => by dsimp only at e; omega, fun e => absurd rfl e, fun _ => a9, fun _ => ⟨a10, a11⟩⟩⟩, fun e => by dsimp only at e; omega⟩
  · rintro ⟨⟨-, -, z⟩, -⟩
    obtain ⟨b1, b2, b3, b4, b5⟩ := z.req (by dsimp only; omega)
    exact ⟨b1, by rw [b2] at hu; exact hu.symm, b3, b4, b5, rfl, rfl, rfl, z.day (by dsimp only; omega), (z.key (by dsimp only; omega)).1, (z.key (by dsimp only; omega)).2⟩
theorem z_day (hu : us.length = uN) (h9 : 0 ≤ n9 ∧ n9 ≤ 65535) : AllZ ⟨7, n1, uA, uN, uC, n3, n4, n5, n6, n7, n8, 0, n10, n11⟩ ↔ FormedC ⟨7, n1, uA, uN, uC, n3, n4, n5, n6, n7, n8, n9, n10, n11⟩ us := by
  constructor
  · rintro ⟨a1, a2, a3, a4, a5, a6, a7, a8, -, a10, a11⟩
    dsimp only at a1 a2 a3 a4 a5 a6 a7 a8 a10 a11
    exact ⟨⟨by dsimp only; omega, ⟨fun e => by dsimp only at e; omega, fun _ e => by dsimp only at e; omega, fun e => by dsimp only at e; omega, fun _ => fits_iff2.2 h9, fun e => by dsimp only at e; omega⟩, ⟨fun _ => ⟨a1, List.length_eq_zero_iff.1 (by omega), a3, a4, a5⟩, fun _ => a6, fun _ => ⟨a7, a8⟩, fun e => absurd rfl e, fun _ => ⟨a10, a11⟩⟩⟩, fun e => by dsimp only at e; omega⟩
  · rintro ⟨⟨-, -, z⟩, -⟩
    obtain ⟨b1, b2, b3, b4, b5⟩ := z.req (by dsimp only; omega)
    exact ⟨b1, by rw [b2] at hu; exact hu.symm, b3, b4, b5, z.rma (by dsimp only; omega), (z.grd (by dsimp only; omega)).1, (z.grd (by dsimp only; omega)).2, rfl, (z.key (by dsimp only; omega)).1, (z.key (by dsimp only; omega)).2⟩
theorem z_key (hu : us.length = uN) (h10 : 0 ≤ n10 ∧ n10 ≤ 4294967295) : AllZ ⟨8, n1, uA, uN, uC, n3, n4, n5, n6, n7, n8, n9, 0, false⟩ ↔ FormedC ⟨8, n1, uA, uN, uC, n3, n4, n5, n6, n7, n8, n9, n10, n11⟩ us := by
  constructor
  · rintro ⟨a1, a2, a3, a4, a5, a6, a7, a8, a9, -, -⟩
    dsimp only at a1 a2 a3 a4 a5 a6 a7 a8 a9
    exact ⟨⟨by dsimp only; omega, ⟨fun e => by dsimp only at e; omega, fun _ e => by dsimp only at e; omega, fun e => by dsimp only at e; omega, fun e => by dsimp only at e; omega, fun _ => fits_iff4.2 h10⟩, ⟨fun _ => ⟨a1, List.length_eq_zero_iff.1 (by omega), a3, a4, a5⟩, fun _ => a6, fun _ => ⟨a7, a8⟩, fun _ => a9, fun e => absurd rfl e⟩⟩, fun e => by dsimp only at e; omega⟩
  · rintro ⟨⟨-, -, z⟩, -⟩
    obtain ⟨b1, b2, b3, b4, b5⟩ := z.req (by dsimp only; omega)
    exact ⟨b1, by rw [b2] at hu; exact hu.symm, b3, b4, b5, z.rma (by dsimp only; omega), (z.grd (by dsimp only; omega)).1, (z.grd (by dsimp only; omega)).2, z.day (by dsimp only; omega), rfl, rfl⟩
theorem f_req (h : FormedC ⟨1, n1, uA, uN, uC, n3, n4, n5, n6, n7, n8, n9, n10, n11⟩ us) : (1 ≤ us.length ∧ us.length ≤ 60) ∧ (0 ≤ n1 ∧ n1 ≤ 255) ∧ (0 ≤ n3 ∧ n3 ≤ 255) ∧ (0 ≤ n4 ∧ n4 ≤ 65535) ∧ ∀ x ∈ us, 0 ≤ x ∧ x ≤ 255 := by
  have q := h.1.fit.req rfl
  exact ⟨h.2 rfl, fits_iff1.1 q.ord, fits_iff1.1 q.rea, fits_iff2.1 q.want, fun x hx => by have := q.us x hx; rw [Int.add_zero] at this; exact fits_iff1.1 this⟩
theorem f_rma {k : Int} (hk : 2 ≤ k ∧ k ≤ 6) (h : FormedC ⟨k, n1, uA, uN, uC, n3, n4, n5, n6, n7, n8, n9, n10, n11⟩ us) : 0 ≤ n6 ∧ n6 ≤ 65535 := fits_iff2.1 (h.1.fit.rma hk.1 hk.2)
theorem f_grd (h : FormedC ⟨6, n1, uA, uN, uC, n3, n4, n5, n6, n7, n8, n9, n10, n11⟩ us) : (0 ≤ n7 ∧ n7 ≤ 255) ∧ (0 ≤ n8 ∧ n8 ≤ 255) := ⟨fits_iff1.1 (h.1.fit.grd rfl).1, fits_iff1.1 (h.1.fit.grd rfl).2⟩
theorem f_day (h : FormedC ⟨7, n1, uA, uN, uC, n3, n4, n5, n6, n7, n8, n9, n10, n11⟩ us) : 0 ≤ n9 ∧ n9 ≤ 65535 := fits_iff2.1 (h.1.fit.day rfl)
theorem f_key (h : FormedC ⟨8, n1, uA, uN, uC, n3, n4, n5, n6, n7, n8, n9, n10, n11⟩ us) : 0 ≤ n10 ∧ n10 ≤ 4294967295 := fits_iff4.1 (h.1.fit.key rfl)
end
def TellsF (r : Com) (us : List Int) (e : Ending) : Prop := ∃ q, e = .returned (.bool q) ∧ (q = true ↔ FormedC r us)
theorem TellsF.no {r : Com} {us : List Int} (h : ¬ FormedC r us) : TellsF r us (.returned (.bool false)) := ⟨false, rfl, (fun h => by cases h), fun f => absurd f h⟩
theorem TellsF.yes {r : Com} {us : List Int} (h : FormedC r us) : TellsF r us (.returned (.bool true)) := ⟨true, rfl, fun _ => h, fun _ => rfl⟩
theorem set1 {w : World} {g : Nat} {t : TypeId} {r : Com} (h : ComBox w g t r) (j : Nat) (v : Value) (s : Com) (hs : (#[.int .i64 r.kind, .int .i64 r.ord, .slice r.uA r.uN r.uC, .int .i64 r.rea, .int .i64 r.want, .bool r.cred, .int .i64 r.rma, .int .i64 r.unit, .int .i64 r.grd, .int .i64 r.days, .int .i64 r.key, .bool r.yes] : Array Value).setIfInBounds j v = #[.int .i64 s.kind, .int .i64 s.ord, .slice s.uA s.uN s.uC, .int .i64 s.rea, .int .i64 s.want, .bool s.cred, .int .i64 s.rma, .int .i64 s.unit, .int .i64 s.grd, .int .i64 s.days, .int .i64 s.key, .bool s.yes]) : ComBox (w.setCell ⟨g, j, none⟩ v) g t s := by
  have g0 := setCell_heap_at (o := j) (u := v) h.at'
  rw [hs] at g0
  exact ⟨g0⟩

set_option maxHeartbeats 16000000 in
theorem ref_formed (r : Com) (us : List Int) {w : World} (hr : LiAt w r.uA r.uN r.uC us) (hu : r.uN ≤ 100000) :
    Calls Try.prog 11 #[.agg #[.int .i64 r.kind, .int .i64 r.ord, .slice r.uA r.uN r.uC, .int .i64 r.rea, .int .i64 r.want, .bool r.cred, .int .i64 r.rma, .int .i64 r.unit, .int .i64 r.grd, .int .i64 r.days, .int .i64 r.key, .bool r.yes]] w fun e w' => TellsF r us e ∧ Below w.heap.size w w' := by
  obtain ⟨n0, n1, uA, uN, uC, n3, n4, n5, n6, n7, n8, n9, n10, n11⟩ := r
  dsimp only at *
  obtain ⟨W, hW, hs2, hb2, X1, X3⟩ := two_boxes w 24 24 ⟨n0, n1, uA, uN, uC, n3, n4, n5, n6, n7, n8, n9, n10, n11⟩ ⟨n0, n1, uA, uN, uC, n3, n4, n5, n6, n7, n8, n9, n10, n11⟩
  dsimp only at hW
  have HB : Aside (Below w.heap.size w W) := hb2
  have HX1 : Aside _ := X1
  have HX3 : Aside _ := X3
  have HU : Aside (LiAt W uA uN uC us) := hr.below hb2
  have HLU : Hid (us.length = uN) := hr.len
  have hcs := ComBox.made w 24 ⟨n0, n1, uA, uN, uC, n3, n4, n5, n6, n7, n8, n9, n10, n11⟩
  have HCV : Aside _ := hcs.at_cells
  clear hr X1 X3 hs2 hb2 hcs
  go_enter Try.func11, Try.ntmps11
  go_upto_block 0 with (first
    | (refine wpList_load_cells rfl 24 _ rfl w.heap.size 0 rfl _ _ HCV.out Try.underlying24 rfl (by kernel_rfl) ?_)
    | (refine wpList_store_new rfl 24 _ _ rfl _ _ rfl rfl (by kernel_rfl) rfl rfl ?_))
  rw [← hW]
  clear hW HCV
  obtain ⟨g3, hg3⟩ : ∃ g, g = w.heap.size + 1 := ⟨_, rfl⟩
  rw [← hg3] at HX3 ⊢
  obtain ⟨g1, hg1⟩ : ∃ g, g = w.heap.size := ⟨_, rfl⟩
  rw [← hg1] at HX1 ⊢
  have HG : Hid (w.heap.size ≤ g3 ∧ g1 ≠ g3 ∧ w.heap.size ≤ W.heap.size) := ⟨by omega, by omega, HB.out.size⟩
  clear hg1 hg3
  go_cut [] (fun wx => ∃ x, Aside (ComBox wx g3 24 x) ∧ Hid (AllZ x ↔ FormedC ⟨n0, n1, uA, uN, uC, n3, n4, n5, n6, n7, n8, n9, n10, n11⟩ us) ∧ Aside (Below w.heap.size w wx))
  case first =>
    obtain ⟨y0, y1, y2, y3, y4, y5, y6, y7, y8, y9, y10, y11⟩ := HX1.out.cells
    obtain ⟨z0, z1, z2, z3, z4, z5, z6, z7, z8, z9, z10, z11⟩ := HX3.out.cells
    have zf := HX3.out.fz
    have hl1 := HX1.out.lt
    have hl3 := HX3.out.lt
    have hne : ¬ g1 = g3 := HG.out.2.1
    have hne2 : ¬ g3 = g1 := fun e => HG.out.2.1 e.symm
    dsimp only at y0 y1 y2 y3 y4 y5 y6 y7 y8 y9 y10 y11 z0 z1 z2 z3 z4 z5 z6 z7 z8 z9 z10 z11
    by_cases hk : 1 ≤ n0 ∧ n0 ≤ 8
    · rcases (show n0 = 1 ∨ n0 = 2 ∨ n0 = 3 ∨ n0 = 4 ∨ n0 = 5 ∨ n0 = 6 ∨ n0 = 7 ∨ n0 = 8 by omega) with rfl | rfl | rfl | rfl | rfl | rfl | rfl | rfl
      · clear hk
        by_cases h8 : (uN : Int) < 1
        · skip
          have HN : Hid (¬ FormedC ⟨1, n1, uA, uN, uC, n3, n4, n5, n6, n7, n8, n9, n10, n11⟩ us) := fun f => by have := (f_req f).1; have := HLU.out; omega
          go_wp2
          go_ret
          exact ⟨TellsF.no HN.out, HB.out⟩
        · skip
          by_cases h7 : (60 : Int) < (uN : Int)
          · skip
            have HN : Hid (¬ FormedC ⟨1, n1, uA, uN, uC, n3, n4, n5, n6, n7, n8, n9, n10, n11⟩ us) := fun f => by have := (f_req f).1; have := HLU.out; omega
            go_wp2
            go_ret
            exact ⟨TellsF.no HN.out, HB.out⟩
          · skip
            by_cases h6 : (n1 : Int) < 0
            · skip
              have HN : Hid (¬ FormedC ⟨1, n1, uA, uN, uC, n3, n4, n5, n6, n7, n8, n9, n10, n11⟩ us) := fun f => by have := (f_req f).2.1; omega
              go_wp2
              go_ret
              exact ⟨TellsF.no HN.out, HB.out⟩
            · skip
              by_cases h5 : (255 : Int) < n1
              · skip
                have HN : Hid (¬ FormedC ⟨1, n1, uA, uN, uC, n3, n4, n5, n6, n7, n8, n9, n10, n11⟩ us) := fun f => by have := (f_req f).2.1; omega
                go_wp2
                go_ret
                exact ⟨TellsF.no HN.out, HB.out⟩
              · skip
                by_cases h4 : (n3 : Int) < 0
                · skip
                  have HN : Hid (¬ FormedC ⟨1, n1, uA, uN, uC, n3, n4, n5, n6, n7, n8, n9, n10, n11⟩ us) := fun f => by have := (f_req f).2.2.1; omega
                  go_wp2
                  go_ret
                  exact ⟨TellsF.no HN.out, HB.out⟩
                · skip
                  by_cases h3 : (255 : Int) < n3
                  · skip
                    have HN : Hid (¬ FormedC ⟨1, n1, uA, uN, uC, n3, n4, n5, n6, n7, n8, n9, n10, n11⟩ us) := fun f => by have := (f_req f).2.2.1; omega
                    go_wp2
                    go_ret
                    exact ⟨TellsF.no HN.out, HB.out⟩
                  · skip
                    by_cases h2 : (n4 : Int) < 0
                    · skip
                      have HN : Hid (¬ FormedC ⟨1, n1, uA, uN, uC, n3, n4, n5, n6, n7, n8, n9, n10, n11⟩ us) := fun f => by have := (f_req f).2.2.2.1; omega
                      go_wp2
                      go_ret
                      exact ⟨TellsF.no HN.out, HB.out⟩
                    · skip
                      by_cases h1 : (65535 : Int) < n4
                      · skip
                        have HN : Hid (¬ FormedC ⟨1, n1, uA, uN, uC, n3, n4, n5, n6, n7, n8, n9, n10, n11⟩ us) := fun f => by have := (f_req f).2.2.2.1; omega
                        go_wp2
                        go_ret
                        exact ⟨TellsF.no HN.out, HB.out⟩
                      · skip
                        have hb : (uN : Int) ≤ 60 := by omega
                        go_wp2_with fail
                        go_loop [4, 53] (fun _ i => ∃ k : Nat, k ≤ uN ∧ i = .int .i64 k ∧ Hid (∀ j (hj : j < us.length), j < k → 0 ≤ us[j] ∧ us[j] ≤ 255)) (fun _ i => uN - (intOf i).toNat)
                        case atStart => exact ⟨0, Nat.zero_le _, rfl, fun j _ hj => absurd hj (Nat.not_lt_zero _)⟩
                        case round =>
                          obtain ⟨k, hk, rfl, HK⟩ := hrel
                          by_cases hlt : k < uN
                          · have hkn : (k : Int) < (uN : Int) := by omega
                            have hk0 : (0 : Int) ≤ (k : Int) := by omega
                            have hlk : k < us.length := by rw [HLU.out]; exact hlt
                            rcases HU.out.at' with e | ⟨b, off, hA, hbb, hcs⟩
                            · rw [e] at hlk; exact absurd hlk (Nat.not_lt_zero _)
                            have hck := hcs k hlk
                            have HI : Hid (FormedC ⟨1, n1, uA, uN, uC, n3, n4, n5, n6, n7, n8, n9, n10, n11⟩ us → 0 ≤ us[k] ∧ us[k] ≤ 255) := fun f => (f_req f).2.2.2.2 _ (List.getElem_mem hlk)
                            have HT : Hid (0 ≤ us[k] ∧ us[k] ≤ 255 → ∀ j (hj : j < us.length), j < k + 1 → 0 ≤ us[j] ∧ us[j] ≤ 255) := fun q j hj h => by
                              by_cases e : j = k
                              · subst e; exact q
                              · exact HK.out j hj (by omega)
                            clear hcs
                            generalize us[k] = x at *
                            have HN0 : Hid (x < 0 → ¬ FormedC ⟨1, n1, uA, uN, uC, n3, n4, n5, n6, n7, n8, n9, n10, n11⟩ us) := fun h f => by have := HI.out f; omega
                            have HN1 : Hid (255 < x → ¬ FormedC ⟨1, n1, uA, uN, uC, n3, n4, n5, n6, n7, n8, n9, n10, n11⟩ us) := fun h f => by have := HI.out f; omega
                            subst hA
                            by_cases hx0 : x < 0
                            · have HN := Lib.hid (HN0.out hx0)
                              clear HI HT HN0 HN1
                              go_wp2
                              go_ret
                              exact ⟨TellsF.no HN.out, HB.out⟩
                            · by_cases hx1 : 255 < x
                              · have HN := Lib.hid (HN1.out hx1)
                                clear HI HT HN0 HN1
                                go_wp2
                                go_ret
                                exact ⟨TellsF.no HN.out, HB.out⟩
                              · have HE := Lib.hid (HT.out (by omega))
                                clear HI HT HN0 HN1
                                go_wp2
                                go_round
                                case rel => exact ⟨k + 1, by omega, by go_num, HE.out⟩
                                case measure => simp [intOf]; omega
                          · obtain rfl : uN = k := by omega
                            have HE : Hid (AllZ ⟨1, 0, none, 0, 0, 0, 0, false, n6, n7, n8, n9, n10, n11⟩ ↔ FormedC ⟨1, n1, uA, uN, uC, n3, n4, n5, n6, n7, n8, n9, n10, n11⟩ us) := z_req HLU.out (by omega) (by omega) (by omega) (by omega) (fun x hx => by
                              obtain ⟨j, hj, rfl⟩ := List.getElem_of_mem hx
                              exact HK.out j hj (by have := HLU.out; omega))
                            have HF : Aside (ComBox (((((W.setCell ⟨g3, 1, none⟩ (.int .i64 0)).setCell ⟨g3, 2, none⟩ (.slice none 0 0)).setCell ⟨g3, 3, none⟩ (.int .i64 0)).setCell ⟨g3, 4, none⟩ (.int .i64 0)).setCell ⟨g3, 5, none⟩ (.bool false)) g3 24 ⟨1, 0, none, 0, 0, 0, 0, false, n6, n7, n8, n9, n10, n11⟩) := set1 (set1 (set1 (set1 (set1 HX3.out 1 _ ⟨1, 0, uA, uN, uC, n3, n4, n5, n6, n7, n8, n9, n10, n11⟩ rfl) 2 _ ⟨1, 0, none, 0, 0, n3, n4, n5, n6, n7, n8, n9, n10, n11⟩ rfl) 3 _ ⟨1, 0, none, 0, 0, 0, n4, n5, n6, n7, n8, n9, n10, n11⟩ rfl) 4 _ ⟨1, 0, none, 0, 0, 0, 0, n5, n6, n7, n8, n9, n10, n11⟩ rfl) 5 _ _ rfl
                            have HFU : Aside (Upd (fun k => k = g3) W (((((W.setCell ⟨g3, 1, none⟩ (.int .i64 0)).setCell ⟨g3, 2, none⟩ (.slice none 0 0)).setCell ⟨g3, 3, none⟩ (.int .i64 0)).setCell ⟨g3, 4, none⟩ (.int .i64 0)).setCell ⟨g3, 5, none⟩ (.bool false))) := ((((upd_set (p := g3) _ _).trans (upd_set (p := g3) _ _) (fun _ _ x => x)).trans (upd_set (p := g3) _ _) (fun _ _ x => x)).trans (upd_set (p := g3) _ _) (fun _ _ x => x)).trans (upd_set (p := g3) _ _) (fun _ _ x => x)
                            go_wp2
                            go_meet
                            exact ⟨_, HF.out, HE.out, HB.out.trans (HFU.out.toBelow HG.out.2.2 (fun k hk e => by have := HG.out; have e : k = g3 := e; omega))⟩
      · clear hk
        have HF : Aside (ComBox (W.setCell ⟨g3, 6, none⟩ (.int .i64 0)) g3 24 ⟨2, n1, uA, uN, uC, n3, n4, n5, 0, n7, n8, n9, n10, n11⟩) := (set1 HX3.out 6 _ ⟨2, n1, uA, uN, uC, n3, n4, n5, 0, n7, n8, n9, n10, n11⟩ rfl)
        have HFU : Aside (Upd (fun k => k = g3) W (W.setCell ⟨g3, 6, none⟩ (.int .i64 0))) := upd_set (p := g3) _ _
        have HBF : Aside (Below w.heap.size w (W.setCell ⟨g3, 6, none⟩ (.int .i64 0))) := HB.out.trans (HFU.out.toBelow HG.out.2.2 (fun k hk e => by have := HG.out; have e : k = g3 := e; omega))
        by_cases h2 : (n6 : Int) < 0
        · skip
          have HN : Hid (¬ FormedC ⟨2, n1, uA, uN, uC, n3, n4, n5, n6, n7, n8, n9, n10, n11⟩ us) := fun f => by have := f_rma (by omega) f; omega
          go_wp2
          go_ret
          exact ⟨TellsF.no HN.out, HBF.out⟩
        · skip
          by_cases h1 : (65535 : Int) < n6
          · skip
            have HN : Hid (¬ FormedC ⟨2, n1, uA, uN, uC, n3, n4, n5, n6, n7, n8, n9, n10, n11⟩ us) := fun f => by have := f_rma (by omega) f; omega
            go_wp2
            go_ret
            exact ⟨TellsF.no HN.out, HBF.out⟩
          · skip
            have HE : Hid (AllZ ⟨2, n1, uA, uN, uC, n3, n4, n5, 0, n7, n8, n9, n10, n11⟩ ↔ FormedC ⟨2, n1, uA, uN, uC, n3, n4, n5, n6, n7, n8, n9, n10, n11⟩ us) := z_rma (by omega) HLU.out (by omega)
            go_wp2
            go_meet
            exact ⟨_, HF.out, HE.out, HBF.out⟩
      · clear hk
        have HF : Aside (ComBox (W.setCell ⟨g3, 6, none⟩ (.int .i64 0)) g3 24 ⟨3, n1, uA, uN, uC, n3, n4, n5, 0, n7, n8, n9, n10, n11⟩) := (set1 HX3.out 6 _ ⟨3, n1, uA, uN, uC, n3, n4, n5, 0, n7, n8, n9, n10, n11⟩ rfl)
        have HFU : Aside (Upd (fun k => k = g3) W (W.setCell ⟨g3, 6, none⟩ (.int .i64 0))) := upd_set (p := g3) _ _
        have HBF : Aside (Below w.heap.size w (W.setCell ⟨g3, 6, none⟩ (.int .i64 0))) := HB.out.trans (HFU.out.toBelow HG.out.2.2 (fun k hk e => by have := HG.out; have e : k = g3 := e; omega))
        by_cases h2 : (n6 : Int) < 0
        · skip
          have HN : Hid (¬ FormedC ⟨3, n1, uA, uN, uC, n3, n4, n5, n6, n7, n8, n9, n10, n11⟩ us) := fun f => by have := f_rma (by omega) f; omega
          go_wp2
          go_ret
          exact ⟨TellsF.no HN.out, HBF.out⟩
        · skip
          by_cases h1 : (65535 : Int) < n6
          · skip
            have HN : Hid (¬ FormedC ⟨3, n1, uA, uN, uC, n3, n4, n5, n6, n7, n8, n9, n10, n11⟩ us) := fun f => by have := f_rma (by omega) f; omega
            go_wp2
            go_ret
            exact ⟨TellsF.no HN.out, HBF.out⟩
          · skip
            have HE : Hid (AllZ ⟨3, n1, uA, uN, uC, n3, n4, n5, 0, n7, n8, n9, n10, n11⟩ ↔ FormedC ⟨3, n1, uA, uN, uC, n3, n4, n5, n6, n7, n8, n9, n10, n11⟩ us) := z_rma (by omega) HLU.out (by omega)
            go_wp2
            go_meet
            exact ⟨_, HF.out, HE.out, HBF.out⟩
      · clear hk
        have HF : Aside (ComBox (W.setCell ⟨g3, 6, none⟩ (.int .i64 0)) g3 24 ⟨4, n1, uA, uN, uC, n3, n4, n5, 0, n7, n8, n9, n10, n11⟩) := (set1 HX3.out 6 _ ⟨4, n1, uA, uN, uC, n3, n4, n5, 0, n7, n8, n9, n10, n11⟩ rfl)
        have HFU : Aside (Upd (fun k => k = g3) W (W.setCell ⟨g3, 6, none⟩ (.int .i64 0))) := upd_set (p := g3) _ _
        have HBF : Aside (Below w.heap.size w (W.setCell ⟨g3, 6, none⟩ (.int .i64 0))) := HB.out.trans (HFU.out.toBelow HG.out.2.2 (fun k hk e => by have := HG.out; have e : k = g3 := e; omega))
        by_cases h2 : (n6 : Int) < 0
        · skip
          have HN : Hid (¬ FormedC ⟨4, n1, uA, uN, uC, n3, n4, n5, n6, n7, n8, n9, n10, n11⟩ us) := fun f => by have := f_rma (by omega) f; omega
          go_wp2
          go_ret
          exact ⟨TellsF.no HN.out, HBF.out⟩
        · skip
          by_cases h1 : (65535 : Int) < n6
          · skip
            have HN : Hid (¬ FormedC ⟨4, n1, uA, uN, uC, n3, n4, n5, n6, n7, n8, n9, n10, n11⟩ us) := fun f => by have := f_rma (by omega) f; omega
            go_wp2
            go_ret
            exact ⟨TellsF.no HN.out, HBF.out⟩
          · skip
            have HE : Hid (AllZ ⟨4, n1, uA, uN, uC, n3, n4, n5, 0, n7, n8, n9, n10, n11⟩ ↔ FormedC ⟨4, n1, uA, uN, uC, n3, n4, n5, n6, n7, n8, n9, n10, n11⟩ us) := z_rma (by omega) HLU.out (by omega)
            go_wp2
            go_meet
            exact ⟨_, HF.out, HE.out, HBF.out⟩
      · clear hk
        have HF : Aside (ComBox (W.setCell ⟨g3, 6, none⟩ (.int .i64 0)) g3 24 ⟨5, n1, uA, uN, uC, n3, n4, n5, 0, n7, n8, n9, n10, n11⟩) := (set1 HX3.out 6 _ ⟨5, n1, uA, uN, uC, n3, n4, n5, 0, n7, n8, n9, n10, n11⟩ rfl)
        have HFU : Aside (Upd (fun k => k = g3) W (W.setCell ⟨g3, 6, none⟩ (.int .i64 0))) := upd_set (p := g3) _ _
        have HBF : Aside (Below w.heap.size w (W.setCell ⟨g3, 6, none⟩ (.int .i64 0))) := HB.out.trans (HFU.out.toBelow HG.out.2.2 (fun k hk e => by have := HG.out; have e : k = g3 := e; omega))
        by_cases h2 : (n6 : Int) < 0
        · skip
          have HN : Hid (¬ FormedC ⟨5, n1, uA, uN, uC, n3, n4, n5, n6, n7, n8, n9, n10, n11⟩ us) := fun f => by have := f_rma (by omega) f; omega
          go_wp2
          go_ret
          exact ⟨TellsF.no HN.out, HBF.out⟩
        · skip
          by_cases h1 : (65535 : Int) < n6
          · skip
            have HN : Hid (¬ FormedC ⟨5, n1, uA, uN, uC, n3, n4, n5, n6, n7, n8, n9, n10, n11⟩ us) := fun f => by have := f_rma (by omega) f; omega
            go_wp2
            go_ret
            exact ⟨TellsF.no HN.out, HBF.out⟩
          · skip
            have HE : Hid (AllZ ⟨5, n1, uA, uN, uC, n3, n4, n5, 0, n7, n8, n9, n10, n11⟩ ↔ FormedC ⟨5, n1, uA, uN, uC, n3, n4, n5, n6, n7, n8, n9, n10, n11⟩ us) := z_rma (by omega) HLU.out (by omega)
            go_wp2
            go_meet
            exact ⟨_, HF.out, HE.out, HBF.out⟩
      · clear hk
        have HF : Aside (ComBox (((W.setCell ⟨g3, 6, none⟩ (.int .i64 0)).setCell ⟨g3, 7, none⟩ (.int .i64 0)).setCell ⟨g3, 8, none⟩ (.int .i64 0)) g3 24 ⟨6, n1, uA, uN, uC, n3, n4, n5, 0, 0, 0, n9, n10, n11⟩) := (set1 (set1 (set1 HX3.out 6 _ ⟨6, n1, uA, uN, uC, n3, n4, n5, 0, n7, n8, n9, n10, n11⟩ rfl) 7 _ ⟨6, n1, uA, uN, uC, n3, n4, n5, 0, 0, n8, n9, n10, n11⟩ rfl) 8 _ ⟨6, n1, uA, uN, uC, n3, n4, n5, 0, 0, 0, n9, n10, n11⟩ rfl)
        have HFU : Aside (Upd (fun k => k = g3) W (((W.setCell ⟨g3, 6, none⟩ (.int .i64 0)).setCell ⟨g3, 7, none⟩ (.int .i64 0)).setCell ⟨g3, 8, none⟩ (.int .i64 0))) := ((upd_set (p := g3) _ _).trans (upd_set (p := g3) _ _) (fun _ _ x => x)).trans (upd_set (p := g3) _ _) (fun _ _ x => x)
        have HBF : Aside (Below w.heap.size w (((W.setCell ⟨g3, 6, none⟩ (.int .i64 0)).setCell ⟨g3, 7, none⟩ (.int .i64 0)).setCell ⟨g3, 8, none⟩ (.int .i64 0))) := HB.out.trans (HFU.out.toBelow HG.out.2.2 (fun k hk e => by have := HG.out; have e : k = g3 := e; omega))
        by_cases h6 : (n6 : Int) < 0
        · skip
          have HN : Hid (¬ FormedC ⟨6, n1, uA, uN, uC, n3, n4, n5, n6, n7, n8, n9, n10, n11⟩ us) := fun f => by have := f_rma (by omega) f; omega
          go_wp2
          go_ret
          exact ⟨TellsF.no HN.out, HBF.out⟩
        · skip
          by_cases h5 : (65535 : Int) < n6
          · skip
            have HN : Hid (¬ FormedC ⟨6, n1, uA, uN, uC, n3, n4, n5, n6, n7, n8, n9, n10, n11⟩ us) := fun f => by have := f_rma (by omega) f; omega
            go_wp2
            go_ret
            exact ⟨TellsF.no HN.out, HBF.out⟩
          · skip
            by_cases h4 : (n7 : Int) < 0
            · skip
              have HN : Hid (¬ FormedC ⟨6, n1, uA, uN, uC, n3, n4, n5, n6, n7, n8, n9, n10, n11⟩ us) := fun f => by have := (f_grd f).1; omega
              go_wp2
              go_ret
              exact ⟨TellsF.no HN.out, HBF.out⟩
            · skip
              by_cases h3 : (255 : Int) < n7
              · skip
                have HN : Hid (¬ FormedC ⟨6, n1, uA, uN, uC, n3, n4, n5, n6, n7, n8, n9, n10, n11⟩ us) := fun f => by have := (f_grd f).1; omega
                go_wp2
                go_ret
                exact ⟨TellsF.no HN.out, HBF.out⟩
              · skip
                by_cases h2 : (n8 : Int) < 0
                · skip
                  have HN : Hid (¬ FormedC ⟨6, n1, uA, uN, uC, n3, n4, n5, n6, n7, n8, n9, n10, n11⟩ us) := fun f => by have := (f_grd f).2; omega
                  go_wp2
                  go_ret
                  exact ⟨TellsF.no HN.out, HBF.out⟩
                · skip
                  by_cases h1 : (255 : Int) < n8
                  · skip
                    have HN : Hid (¬ FormedC ⟨6, n1, uA, uN, uC, n3, n4, n5, n6, n7, n8, n9, n10, n11⟩ us) := fun f => by have := (f_grd f).2; omega
                    go_wp2
                    go_ret
                    exact ⟨TellsF.no HN.out, HBF.out⟩
                  · skip
                    have HE : Hid (AllZ ⟨6, n1, uA, uN, uC, n3, n4, n5, 0, 0, 0, n9, n10, n11⟩ ↔ FormedC ⟨6, n1, uA, uN, uC, n3, n4, n5, n6, n7, n8, n9, n10, n11⟩ us) := z_grd HLU.out (by omega) (by omega) (by omega)
                    go_wp2
                    go_meet
                    exact ⟨_, HF.out, HE.out, HBF.out⟩
      · clear hk
        have HF : Aside (ComBox (W.setCell ⟨g3, 9, none⟩ (.int .i64 0)) g3 24 ⟨7, n1, uA, uN, uC, n3, n4, n5, n6, n7, n8, 0, n10, n11⟩) := (set1 HX3.out 9 _ ⟨7, n1, uA, uN, uC, n3, n4, n5, n6, n7, n8, 0, n10, n11⟩ rfl)
        have HFU : Aside (Upd (fun k => k = g3) W (W.setCell ⟨g3, 9, none⟩ (.int .i64 0))) := upd_set (p := g3) _ _
        have HBF : Aside (Below w.heap.size w (W.setCell ⟨g3, 9, none⟩ (.int .i64 0))) := HB.out.trans (HFU.out.toBelow HG.out.2.2 (fun k hk e => by have := HG.out; have e : k = g3 := e; omega))
        by_cases h2 : (n9 : Int) < 0
        · skip
          have HN : Hid (¬ FormedC ⟨7, n1, uA, uN, uC, n3, n4, n5, n6, n7, n8, n9, n10, n11⟩ us) := fun f => by have := f_day f; omega
          go_wp2
          go_ret
          exact ⟨TellsF.no HN.out, HBF.out⟩
        · skip
          by_cases h1 : (65535 : Int) < n9
          · skip
            have HN : Hid (¬ FormedC ⟨7, n1, uA, uN, uC, n3, n4, n5, n6, n7, n8, n9, n10, n11⟩ us) := fun f => by have := f_day f; omega
            go_wp2
            go_ret
            exact ⟨TellsF.no HN.out, HBF.out⟩
          · skip
            have HE : Hid (AllZ ⟨7, n1, uA, uN, uC, n3, n4, n5, n6, n7, n8, 0, n10, n11⟩ ↔ FormedC ⟨7, n1, uA, uN, uC, n3, n4, n5, n6, n7, n8, n9, n10, n11⟩ us) := z_day HLU.out (by omega)
            go_wp2
            go_meet
            exact ⟨_, HF.out, HE.out, HBF.out⟩
      · clear hk
        have HF : Aside (ComBox ((W.setCell ⟨g3, 10, none⟩ (.int .i64 0)).setCell ⟨g3, 11, none⟩ (.bool false)) g3 24 ⟨8, n1, uA, uN, uC, n3, n4, n5, n6, n7, n8, n9, 0, false⟩) := (set1 (set1 HX3.out 10 _ ⟨8, n1, uA, uN, uC, n3, n4, n5, n6, n7, n8, n9, 0, n11⟩ rfl) 11 _ ⟨8, n1, uA, uN, uC, n3, n4, n5, n6, n7, n8, n9, 0, false⟩ rfl)
        have HFU : Aside (Upd (fun k => k = g3) W ((W.setCell ⟨g3, 10, none⟩ (.int .i64 0)).setCell ⟨g3, 11, none⟩ (.bool false))) := (upd_set (p := g3) _ _).trans (upd_set (p := g3) _ _) (fun _ _ x => x)
        have HBF : Aside (Below w.heap.size w ((W.setCell ⟨g3, 10, none⟩ (.int .i64 0)).setCell ⟨g3, 11, none⟩ (.bool false))) := HB.out.trans (HFU.out.toBelow HG.out.2.2 (fun k hk e => by have := HG.out; have e : k = g3 := e; omega))
        by_cases h2 : (n10 : Int) < 0
        · skip
          have HN : Hid (¬ FormedC ⟨8, n1, uA, uN, uC, n3, n4, n5, n6, n7, n8, n9, n10, n11⟩ us) := fun f => by have := f_key f; omega
          go_wp2
          go_ret
          exact ⟨TellsF.no HN.out, HBF.out⟩
        · skip
          by_cases h1 : (4294967295 : Int) < n10
          · skip
            have HN : Hid (¬ FormedC ⟨8, n1, uA, uN, uC, n3, n4, n5, n6, n7, n8, n9, n10, n11⟩ us) := fun f => by have := f_key f; omega
            go_wp2
            go_ret
            exact ⟨TellsF.no HN.out, HBF.out⟩
          · skip
            have HE : Hid (AllZ ⟨8, n1, uA, uN, uC, n3, n4, n5, n6, n7, n8, n9, 0, false⟩ ↔ FormedC ⟨8, n1, uA, uN, uC, n3, n4, n5, n6, n7, n8, n9, n10, n11⟩ us) := z_key HLU.out (by omega)
            go_wp2
            go_meet
            exact ⟨_, HF.out, HE.out, HBF.out⟩
    · have HN : Hid (¬ FormedC ⟨n0, n1, uA, uN, uC, n3, n4, n5, n6, n7, n8, n9, n10, n11⟩ us) := fun f => hk f.1.kind
      have e1 : (n0 == 1) = false := by simp; omega
      have e2 : (n0 == 2) = false := by simp; omega
      have e3 : (n0 == 3) = false := by simp; omega
      have e4 : (n0 == 4) = false := by simp; omega
      have e5 : (n0 == 5) = false := by simp; omega
      have e6 : (n0 == 6) = false := by simp; omega
      have e7 : (n0 == 7) = false := by simp; omega
      have e8 : (n0 == 8) = false := by simp; omega
      clear hk
      go_wp2
      go_ret
      exact ⟨TellsF.no HN.out, HB.out⟩
  case rest =>
    obtain ⟨x, HXC, HZ, HBC⟩ := hcut
    obtain ⟨m0, m1, xA, xN, xC, m3, m4, m5, m6, m7, m8, m9, m10, m11⟩ := x
    obtain ⟨y0, y1, y2, y3, y4, y5, y6, y7, y8, y9, y10, y11⟩ := HXC.out.cells
    have hl1 := HXC.out.lt
    dsimp only at y0 y1 y2 y3 y4 y5 y6 y7 y8 y9 y10 y11
    clear HXC HX1 HX3 HU HB HG
    by_cases c0 : m1 = 0
    · have e0 : (m1 == 0) = true := by simpa using c0
      replace c0 : Hid (m1 = 0) := c0
      by_cases c1 : xN = 0
      · have e1 : ((xN : Int) == 0) = true := by simpa using c1
        replace c1 : Hid (xN = 0) := c1
        by_cases c2 : m3 = 0
        · have e2 : (m3 == 0) = true := by simpa using c2
          replace c2 : Hid (m3 = 0) := c2
          by_cases c3 : m4 = 0
          · have e3 : (m4 == 0) = true := by simpa using c3
            replace c3 : Hid (m4 = 0) := c3
            by_cases c4 : m5 = false
            · have e4 : m5 = false := c4
              replace c4 : Hid (m5 = false) := c4
              by_cases c5 : m6 = 0
              · have e5 : (m6 == 0) = true := by simpa using c5
                replace c5 : Hid (m6 = 0) := c5
                by_cases c6 : m7 = 0
                · have e6 : (m7 == 0) = true := by simpa using c6
                  replace c6 : Hid (m7 = 0) := c6
                  by_cases c7 : m8 = 0
                  · have e7 : (m8 == 0) = true := by simpa using c7
                    replace c7 : Hid (m8 = 0) := c7
                    by_cases c8 : m9 = 0
                    · have e8 : (m9 == 0) = true := by simpa using c8
                      replace c8 : Hid (m9 = 0) := c8
                      by_cases c9 : m10 = 0
                      · have e9 : (m10 == 0) = true := by simpa using c9
                        replace c9 : Hid (m10 = 0) := c9
                        by_cases c10 : m11 = false
                        · have e10 : m11 = false := c10
                          replace c10 : Hid (m11 = false) := c10
                          have HE := Lib.hid (HZ.out.1 ⟨c0.out, c1.out, c2.out, c3.out, c4.out, c5.out, c6.out, c7.out, c8.out, c9.out, c10.out⟩)
                          go_wp2
                          go_ret
                          exact ⟨TellsF.yes HE.out, HBC.out⟩
                        · have e10 : m11 = true := by simpa using c10
                          have HN : Hid (¬ FormedC ⟨n0, n1, uA, uN, uC, n3, n4, n5, n6, n7, n8, n9, n10, n11⟩ us) := fun f => c10 (HZ.out.2 f).yes
                          clear c10
                          go_wp2
                          go_ret
                          exact ⟨TellsF.no HN.out, HBC.out⟩
                      · have e9 : (m10 == 0) = false := by simpa using c9
                        have HN : Hid (¬ FormedC ⟨n0, n1, uA, uN, uC, n3, n4, n5, n6, n7, n8, n9, n10, n11⟩ us) := fun f => c9 (HZ.out.2 f).key
                        clear c9
                        go_wp2
                        go_ret
                        exact ⟨TellsF.no HN.out, HBC.out⟩
                    · have e8 : (m9 == 0) = false := by simpa using c8
                      have HN : Hid (¬ FormedC ⟨n0, n1, uA, uN, uC, n3, n4, n5, n6, n7, n8, n9, n10, n11⟩ us) := fun f => c8 (HZ.out.2 f).days
                      clear c8
                      go_wp2
                      go_ret
                      exact ⟨TellsF.no HN.out, HBC.out⟩
                  · have e7 : (m8 == 0) = false := by simpa using c7
                    have HN : Hid (¬ FormedC ⟨n0, n1, uA, uN, uC, n3, n4, n5, n6, n7, n8, n9, n10, n11⟩ us) := fun f => c7 (HZ.out.2 f).grd
                    clear c7
                    go_wp2
                    go_ret
                    exact ⟨TellsF.no HN.out, HBC.out⟩
                · have e6 : (m7 == 0) = false := by simpa using c6
                  have HN : Hid (¬ FormedC ⟨n0, n1, uA, uN, uC, n3, n4, n5, n6, n7, n8, n9, n10, n11⟩ us) := fun f => c6 (HZ.out.2 f).unit
                  clear c6
                  go_wp2
                  go_ret
                  exact ⟨TellsF.no HN.out, HBC.out⟩
              · have e5 : (m6 == 0) = false := by simpa using c5
                have HN : Hid (¬ FormedC ⟨n0, n1, uA, uN, uC, n3, n4, n5, n6, n7, n8, n9, n10, n11⟩ us) := fun f => c5 (HZ.out.2 f).rma
                clear c5
                go_wp2
                go_ret
                exact ⟨TellsF.no HN.out, HBC.out⟩
            · have e4 : m5 = true := by simpa using c4
              have HN : Hid (¬ FormedC ⟨n0, n1, uA, uN, uC, n3, n4, n5, n6, n7, n8, n9, n10, n11⟩ us) := fun f => c4 (HZ.out.2 f).cred
              clear c4
              go_wp2
              go_ret
              exact ⟨TellsF.no HN.out, HBC.out⟩
          · have e3 : (m4 == 0) = false := by simpa using c3
            have HN : Hid (¬ FormedC ⟨n0, n1, uA, uN, uC, n3, n4, n5, n6, n7, n8, n9, n10, n11⟩ us) := fun f => c3 (HZ.out.2 f).want
            clear c3
            go_wp2
            go_ret
            exact ⟨TellsF.no HN.out, HBC.out⟩
        · have e2 : (m3 == 0) = false := by simpa using c2
          have HN : Hid (¬ FormedC ⟨n0, n1, uA, uN, uC, n3, n4, n5, n6, n7, n8, n9, n10, n11⟩ us) := fun f => c2 (HZ.out.2 f).rea
          clear c2
          go_wp2
          go_ret
          exact ⟨TellsF.no HN.out, HBC.out⟩
      · have e1 : ((xN : Int) == 0) = false := by simpa using c1
        have HN : Hid (¬ FormedC ⟨n0, n1, uA, uN, uC, n3, n4, n5, n6, n7, n8, n9, n10, n11⟩ us) := fun f => c1 (HZ.out.2 f).us
        clear c1
        go_wp2
        go_ret
        exact ⟨TellsF.no HN.out, HBC.out⟩
    · have e0 : (m1 == 0) = false := by simpa using c0
      have HN : Hid (¬ FormedC ⟨n0, n1, uA, uN, uC, n3, n4, n5, n6, n7, n8, n9, n10, n11⟩ us) := fun f => c0 (HZ.out.2 f).ord
      clear c0
      go_wp2
      go_ret
      exact ⟨TellsF.no HN.out, HBC.out⟩
end Go.Proofs.Ytmaoimjfkncnpaa
