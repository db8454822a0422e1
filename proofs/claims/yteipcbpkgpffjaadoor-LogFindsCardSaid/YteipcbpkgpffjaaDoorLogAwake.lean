/-
  The statements' first look at a log (recouplaw04.awake) answers true. Conditions: 'HalvesAt': memory holds the table.
-/
import Derived.Test.YteipcbpkgpffjaaDoorLogCalm
import Derived.Test.YteipcbpkgpffjaaDoorLogSame
import Derived.Lib.SmallJoins
namespace Go.Proofs.YteipcbpkgpffjaaDoor
open Go.RowKit
set_option maxRecDepth 100000

theorem one_byte (w : World) (x : UInt8) : IsBytes (w.alloc (.cells #[.int .u8 (x.toNat : Int)] 5 (1, 2))) (some ⟨w.heap.size, 0, none⟩) [x] := by
  refine .inr ⟨_, _, rfl, by simp, fun i hi => ?_⟩
  rw [Nat.zero_add, cell_of_row _ _ i _ _ _ (heap_alloc_new w _)]
  have hi : i < 1 := hi
  match i, hi with
  | 0, _ => rfl

set_option maxHeartbeats 2000000 in
theorem log_awake (w : World) (hH : HalvesAt w) : Calls Tryd.prog 7 #[] w fun e w' => e = .returned (.bool true) ∧ Below w.heap.size w w' := by
  have kc := fun (W : World) (C : Array Value) (n c g : Nat) (hg : g = W.heap.size) => Joins.run_convert_bytes_const_at (P := Tryd.prog) W 22 5 C n c g hg Tryd.underlying22 Tryd.underlying5
  have HH := Lib.hid hH
  clear hH
  go_enter Tryd.func7, Tryd.ntmps7
  go_wp2_with fail
  refine (new_in 1000 w (by decide)).mono ?_
  rintro e w1 ⟨rfl, ⟨V, h1⟩, b1, s1⟩
  have S1 := Lib.hid s1
  clear s1
  have b2 : Below w1.heap.size w1 (w1.alloc (.cells #[.int .u8 105] 5 (1, 2))) := upd_box _
  have B2 := b1.trans (b2.mono b1.size)
  have hy2 : IsBytes (w1.alloc (.cells #[.int .u8 105] 5 (1, 2))) (some ⟨w1.heap.size, 0, none⟩) [105] := one_byte w1 105
  have HC := Lib.hid (log_create (B := w.heap.size) (h1.below b2) (HH.out.below B2) (fun k hk => by have h9 : k = w.heap.size := hk; omega) (some ⟨w1.heap.size, 0, none⟩) [105] 1 1 rfl hy2 (fun x => by cases x) (fun _ x hx e => by
    have h9 : x.block = w.heap.size := e
    cases hx
    have := S1.out
    simp at h9
    omega))
  have HB2 := Lib.hid B2
  have hdone : Hid ((logCreate (DM.new 1000) [105]).1 = 0 ∧ (logCreate (DM.new 1000) [105]).2.2 = ⟨1, 1, [105], [], false⟩ ∧ (logCreate (DM.new 1000) [105]).2.1.cap = 1000 ∧ (logCreate (DM.new 1000) [105]).2.1.lost = false ∧ (logCreate (DM.new 1000) [105]).2.1.lit = false ∧
      (logCreate (DM.new 1000) [105]).2.1.f = fupd (fun _ => FM.gone) 1 (freshFile 1 [105])) := by
    rcases create_new 1000 [105] with ⟨h, _⟩ | ⟨_, h, _⟩ | ⟨_, _, h⟩
    · simp at h
    · simp at h
    · exact h
  obtain ⟨r, hr⟩ : ∃ r, logCreate (DM.new 1000) [105] = r := ⟨_, rfl⟩
  rw [hr] at HC hdone
  clear hr B2 b2 hy2 h1
  go_wp2_with fail
  refine HC.out.mono ?_
  rintro e w3 ⟨S3, u3, m3, -, hyes⟩
  obtain ⟨q, T, rfl, h3, hT⟩ := hyes hdone.out.1
  have H3 := Lib.hid h3
  have M3 := Lib.hid m3
  have B3 : Below w.heap.size w w3 := HB2.out.trans (u3.toBelow HB2.out.size (fun k hk h => by have h9 : k = w.heap.size := h; omega))
  have b4 : Below w3.heap.size w3 (w3.alloc (.cells #[.int .u8 97] 5 (1, 2))) := upd_box _
  have hy4 : IsBytes (w3.alloc (.cells #[.int .u8 97] 5 (1, 2))) (some ⟨w3.heap.size, 0, none⟩) [97] := one_byte w3 97
  have HB3 := Lib.hid B3
  obtain ⟨V3, hd3⟩ := h3.disk
  have hok3 := hd3.ok
  have HA := Lib.hid (log_append (h3.below b4) ((HH.out.below B3).below b4) (some ⟨w3.heap.size, 0, none⟩) [97] 1 1 rfl hy4 (fun x => by cases x) (fun _ x hx e => by
    cases hx
    rcases e with e | e
    · have := hd3.lt _ e; simp at this
    · have := h3.log.lt _ e; simp at this) (by rw [hdone.out.2.1]; simp))
  have HB4 := Lib.hid (B3.trans (b4.mono B3.size))
  have hdone2 : Hid ((logAppend r.2.1 r.2.2 [97]).1 = 0 ∧ (logAppend r.2.1 r.2.2 [97]).2.2 = ⟨1, 1, [105], [[97]], false⟩) := by
    show (logAppend r.2.1 r.2.2 [97]).1 = 0 ∧ (logAppend r.2.1 r.2.2 [97]).2.2 = ⟨1, 1, [105], [[97]], false⟩
    obtain ⟨d0, d1, d2, d3, d4, d5⟩ := hdone.out
    have hu : r.2.1.used 8 = 12 := by
      have h1 := used_fupd (D := DM.new 1000) (E := r.2.1) (i := 1) (x := freshFile 1 [105]) (by decide) (by rw [d5]; rfl)
      rw [DM.new_used] at h1
      have h2 : ((DM.new 1000).f 1).b.length = 0 := rfl
      have h3 : (freshFile 1 [105]).b.length = 12 := by show (frameOf (headF 1 [105])).length = 12; rw [frameOf_len, headF_len]; rfl
      omega
    rcases append_log (D := r.2.1) (L := r.2.2) (b := [97]) d3 (by rw [d1]) (by rw [d1]; decide) with ⟨h, _, _, _, _, h2⟩ | ⟨_, _, _, ⟨k, h⟩, _⟩ | ⟨h, _⟩ | ⟨_, h, _⟩
    · exact ⟨h, by rw [h2, d1]; rfl⟩
    · rw [h.lit] at d4; cases d4
    · simp at h
    · rw [hu, d2] at h; simp at h
  obtain ⟨r2, hr2⟩ : ∃ r2, logAppend r.2.1 r.2.2 [97] = r2 := ⟨_, rfl⟩
  rw [hr2] at HA hdone2
  clear hr2 b4 hy4 B3 h3 hd3 hok3 u3 m3
  go_wp2_with fail
  refine HA.out.mono ?_
  rintro e w5 ⟨rfl, S5, T5, h5, g5⟩
  obtain ⟨e0, e1⟩ := hdone2.out
  rw [e0]
  have H5 := h5.log
  rw [e1] at H5
  have HL := Lib.hid (log_len H5)
  have HG := Lib.hid (log_generation H5)
  have HB5 := Lib.hid (HB4.out.trans ((h5.went (Went.below (Below.refl _ _)) |> fun _ => g5.upd.toBelow HB4.out.size (fun k hk x => x.elim (fun y => by have := H3.out.sB k y; omega) (fun y => by have := H3.out.tB k y; omega)))))
  clear e0 e1 H5 h5 g5
  go_wp2_with fail
  refine HL.out.mono ?_
  rintro e w6 ⟨rfl, rfl⟩
  go_wp2_with fail
  refine HG.out.mono ?_
  rintro e w7 ⟨rfl, rfl⟩
  go_wp2
  go_ret
  exact ⟨rfl, HB5.out⟩
end Go.Proofs.YteipcbpkgpffjaaDoor
