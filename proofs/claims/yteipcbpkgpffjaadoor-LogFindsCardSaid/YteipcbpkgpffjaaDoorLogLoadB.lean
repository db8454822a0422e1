/-
  The code's load, walked. Conditions: those of each theorem ('Both': the pointers lead to a disk that holds D and a log on it that holds L; 'HalvesAt': memory holds the table).
-/
import Derived.Test.YteipcbpkgpffjaaDoorLogLoad
import Derived.Test.YteipcbpkgpffjaaDoorRound
namespace Go.Proofs.YteipcbpkgpffjaaDoor
open Go.RowKit Go.Shelf
set_option maxRecDepth 100000
attribute [local go_sem] Oper.semAt_some

/-- The file's end is cut off, if anything stands behind its last frame. -/
def DM.trim (D : DM) (f : Nat) : Int × DM := if endOf 0 (frames (D.f f).b) = (D.f f).b.length then (0, D) else D.cut f (endOf 0 (frames (D.f f).b))

theorem no_caller : Caller (fun (_ : Nat) (_ : Nat → Prop) (_ : World) => False) := ⟨fun h => h.elim, fun h _ => h⟩

theorem Both.put {w : World} {B p q dd : Nat} {S T : Nat → Prop} {D : DM} {L : LM} (h : Both w B p q S T D L) (hS : ¬ S dd) (hT : ¬ T dd) (o : Obj) : Both (w.putObj dd o) B p q S T D L := by
  have u : Upd (fun k => k = dd) w (w.putObj dd o) := upd_put o rfl
  obtain ⟨V, hd⟩ := h.disk
  exact ⟨⟨V, hd.upd u (fun k hk e => by subst e; exact hS hk)⟩, h.log.upd u (fun k hk e => by subst e; exact hT hk), h.sB, h.tB, h.st⟩
theorem Went.put {w0 w : World} {dd : Nat} {S T S' T' : Nat → Prop} (g : Went w0 S T w S' T') (hd : w0.heap.size ≤ dd) (o : Obj) : Went w0 S T (w.putObj dd o) S' T' :=
  ⟨g.upd.trans (upd_put (S := fun k => k = dd) o rfl) (fun k hk e => by omega), g.s, g.t⟩
theorem DM.trim_no {D : DM} {f m e : Nat} (h : D.trim f = if e = m then (0, D) else D.cut f e) (hm : e = m) : D.trim f = (0, D) := by rw [h, if_pos hm]
theorem DM.trim_yes {D : DM} {f m e : Nat} (h : D.trim f = if e = m then (0, D) else D.cut f e) (hm : ¬ e = m) : D.trim f = D.cut f e := by rw [h, if_neg hm]

set_option maxHeartbeats 8000000 in
theorem code_load (n : Nat) {w : World} {B p q fl : Nat} {S T : Nat → Prop} {D : DM} (h : Both w B p q S T D (LM.bare fl)) (hT : ∀ k, T k → k = q) (hH : HalvesAt w) (hgq : 0 ≠ q) (hl : D.lost = false) (hf : fl < 8) (hhas : (D.f fl).has = true) :
    CallsIn Fence.wide n Tryd.prog 35 #[.pointer (some ⟨q, 0, none⟩)] w (BothAfter w B p q S T (D.trim fl).1 (D.trim fl).2 (loadL (frames (D.f fl).b) fl (frames (D.f fl).b).length)) := by
  have HB := Lib.hid h
  have HT := Lib.hid hT
  have HHV := Lib.hid hH
  have HHAS := Lib.hid hhas
  have HLOST := Lib.hid hl
  have hq := h.log.lt q h.log.own
  have x0 := h.log.c0
  have x1 : w.cell? ⟨q, 1, none⟩ = some (.int .i64 (fl : Int)) := h.log.c1
  obtain ⟨xs, hxs⟩ : ∃ xs, (D.f fl).b = xs := ⟨_, rfl⟩
  obtain ⟨m, hm⟩ : ∃ m, xs.length = m := ⟨_, rfl⟩
  have HXS := Lib.hid hxs
  have HM := Lib.hid hm
  have hml : m ≤ 1048576 := by
    obtain ⟨V, hd⟩ := h.disk
    have h1 := D.set_len fl hf
    have h2 := hd.ok.used
    have h3 := hd.ok.cap
    rw [hxs, hm] at h1
    omega
  have HRD : Hid (∀ wa, Below w.heap.size w wa → ∀ w', Below wa.heap.size wa w' → Calls Tryd.prog 54 #[.pointer (some ⟨p, 0, none⟩), .int .i64 (fl : Int)] w' fun e w2 => (∃ a c, e = .returned (.tuple #[.slice a m c, .int .i64 0]) ∧ IsBytes w2 a xs ∧ m ≤ c ∧ c ≤ maxLen ∧ (a = none → c = 0)) ∧ Below wa.heap.size wa w2) := fun wa ha w' hw => by
    obtain ⟨V, hd⟩ := HB.out.disk
    refine (read_all ((hd.below ha).below hw) fl hf HLOST.out).mono ?_
    rintro e w2 ⟨⟨a, k, c, er, rfl, h1, -, h2, h3, h4, h5, h6, -⟩, hb⟩
    obtain rfl := h1 HHAS.out
    rw [HXS.out] at h2 h3
    obtain rfl : k = m := by rw [← h2, HM.out]
    exact ⟨⟨a, c, rfl, h3, h4, h5, h6⟩, hw.trans (hb.mono hw.size)⟩
  have EQT : Hid (D.trim fl = if endOf 0 (frames xs) = m then (0, D) else D.cut fl (endOf 0 (frames xs))) := by show D.trim fl = _; unfold DM.trim; rw [HXS.out, HM.out]
  rw [hxs]
  clear h hT hH hl hxs hm hhas
  refine callsIn_of_wp_marks Tryd.func35 rfl trivial ?_ rfl
  simp only [Tryd.ntmps35, List.size_toArray, List.length_cons, List.length_nil, Nat.reduceAdd, Nat.reduceSub, Array.replicate_succ, Array.replicate_zero, List.push_toArray, List.append_toArray, List.nil_append, List.cons_append]
  obtain ⟨w0, hw0⟩ : ∃ w0, w.alloc (.cells #[.pointer (some ⟨q, 0, none⟩)] 30) = w0 := ⟨_, rfl⟩
  have A0 : Below w.heap.size w w0 := by rw [← hw0]; exact upd_box _
  have hz0 : w0.heap.size = w.heap.size + 1 := by rw [← hw0]; simp
  have hb0 : Boxed w0 w.heap.size 30 (.pointer (some ⟨q, 0, none⟩)) := by rw [← hw0]; exact Boxed.new w _ _
  have c0 := hb0.cell
  have y0 := (A0.cell (p := ⟨q, 0, none⟩) hq).trans x0
  have y1 := (A0.cell (p := ⟨q, 1, none⟩) hq).trans x1
  have hs0 : w.heap.size < w0.heap.size := by omega
  gi_wp2_with fail
  refine wpIn_wide.2 ?_
  have b0 := Below.refl w0.heap.size w0
  have hq0 : q < w0.heap.size := by omega
  have HZ0 := Lib.hid hz0
  have HW0 := Lib.hid hw0
  clear hz0 hw0 x0 x1
  go_region_held3 (fun w' => Below w0.heap.size w0 w' ∧ w'.cell? ⟨w.heap.size, 0, none⟩ = some (.pointer (some ⟨q, 0, none⟩)) ∧ w'.cell? ⟨q, 0, none⟩ = some (.pointer (some ⟨p, 0, none⟩)) ∧ w'.cell? ⟨q, 1, none⟩ = some (.int .i64 (fl : Int)))
    (refine ⟨?_, (Below.cell (p := ⟨w.heap.size, 0, none⟩) (B := w0.heap.size) ?_ hs0).trans c0, (Below.cell (p := ⟨q, 0, none⟩) (B := w0.heap.size) ?_ hq0).trans y0, (Below.cell (p := ⟨q, 1, none⟩) (B := w0.heap.size) ?_ hq0).trans y1⟩ <;> (first | assumption | exact Below.drew (by assumption)))
    ((go_at_call 54; with_reducible refine Calls.mono (HRD.out w0 A0 _ ?_) ?_; (first | exact (Below.refl _ _).drew | exact Below.refl _ _ | assumption | exact Below.drew (by assumption)); rintro e w1 ⟨⟨a1, c1, rfl, hy1, hc1, hcm1, hn1⟩, b1⟩))
  have B1 : Below w.heap.size w w1 := A0.trans (b1.mono A0.size)
  obtain ⟨w2, hw2⟩ : ∃ w2, w1.alloc (.cells #[.int .i64 0] 3) = w2 := ⟨_, rfl⟩
  have b2 : Below w1.heap.size w1 w2 := by rw [← hw2]; exact upd_box _
  have hb2 : Boxed w2 w1.heap.size 3 (.int .i64 0) := by rw [← hw2]; exact Boxed.new w1 _ _
  have hz2 : Hid (w2.heap.size = w1.heap.size + 1) := by show w2.heap.size = w1.heap.size + 1; rw [← hw2]; simp
  have hb1 := Lib.hid (heap_below hb0 b1)
  have hyx2 := hy1.below b2
  have B2 : Below w.heap.size w w2 := B1.trans (b2.mono B1.size)
  have HW2 := Lib.hid hw2
  clear c0 y0 y1 b0 HW0 hb0 hw2
  gi_wp2_with fail
  rw [HW2.out]
  refine ⟨trivial, fun h => by simp [Fence.wide] at h, ?_⟩
  refine (callsIn_wide.2 (code_all a1 xs m c1 w2 HM.out hyx2 hn1 (by omega))).mono ?_
  rintro e w3 ⟨Bx, aa, cc, rfl, hbox, hBl, hBu, hby, hmc, hcm, hnil, hadr, b3⟩
  clear HW2
  gi_wp2_with fail
  have B3 : Below w.heap.size w w3 := B2.trans (b3.mono B2.size)
  have hz3 := b3.size
  have hs10 := b1.size
  obtain ⟨dd, hzD⟩ : ∃ dd, w3.heap.size = dd := ⟨_, rfl⟩
  have k1 := heap_below (heap_below hb1.out b2) b3
  have k2 := heap_below hb2 b3
  have HZ0' := HZ0.out
  have HZ2' := hz2.out
  have hsrc0 : SrcAt w3 (fun k => k = q ∨ k = w.heap.size ∨ k = w1.heap.size ∨ k = dd ∨ k = dd + 1) Bx aa xs m cc := by
    have hlt := hby.lt
    have hg := HHV.out.lt
    refine ⟨hbox, hBu, by omega, hby, fun h0 x hx h => ?_, HHV.out.below B3, by omega, HM.out, hmc, hcm, hnil⟩
    have h1 := hadr x hx
    have h2 := hlt h0 x hx
    omega
  have HLG : Hid (LogAt w3 q p T (LM.bare fl)) := HB.out.log.below B3
  have HSX := Lib.hid hsrc0
  clear hbox hby hadr hsrc0 b3 b2 hy1 hyx2 HZ0' HZ2'
  refine range_of_call (gf := 74) (lb := #[.pointer (some ⟨Bx, 0, none⟩)]) rfl (enters_of Tryd.func74 (by kernel_rfl) rfl) ?_
  intro r r1 r2 r3 r4 r5 r6
  rw [hzD]
  intro w4 b4 hz4 hD hl
  have B4 : Below w.heap.size w w4 := B3.trans (b4.mono (by have := B3.size; omega))
  have b4' : Below w3.heap.size w3 w4 := by rw [hzD]; exact b4
  refine (all_walk (n - 1) (dd + 1) Bx aa xs m cc (LoadIn (frames xs) w.heap.size q w1.heap.size dd (dd + 1) p fl r) (fun _ _ _ => False) (LoadIn.caller (frames xs) w.heap.size q w1.heap.size dd (dd + 1) p fl r) no_caller ?hY _ w4 (HSX.out.below b4') ?h0).mono ?hQ
  case h0 =>
    have e0 := HZ0.out
    have e2 := hz2.out
    refine ⟨fun k h => by omega, .inr (.inl rfl), .inr (.inr (.inl rfl)), .inr (.inr (.inr (.inl rfl))), .inr (.inr (.inr (.inr rfl))), heap_below k1 b4', by simpa [endOf, Boxed] using heap_below k2 b4', hD, hl, Nat.zero_le _, ⟨by omega, by omega, by omega, by omega⟩, T, HLG.out.below b4', fun k hk => .inl (HT.out k hk), fun k hk => .inl (HT.out k hk)⟩
  case hY =>
    clear hD hl b4' B4 hz4 b4 HSX HLG k1 k2 hzD hz3 B3 B2 B1
    rintro k i Z1 W1 W ad m' c' hi hj0 hbW hlen hbytes hmc' hcm' hnil' hfr
    have hj := (LoadIn.caller (frames xs) w.heap.size q w1.heap.size dd (dd + 1) p fl r).below hj0 hbW
    refine YieldAt.mono (R := RoundOut (LoadIn (frames xs) w.heap.size q w1.heap.size dd (dd + 1) p fl r) (fun _ _ _ => False) i Z1 W1) ?_ (fun _ _ h => h)
    refine yield_of_walk hj.hl r1 r2 (by rw [r4]; rfl) ?_
    intro K hK
    rw [r3, r4, r5]
    have HK := Lib.hid hK
    have R6 := Lib.hid r6
    clear hK r1 r2 r3 r4 r5 r6
    gi_wp2
    refine HK.out _ ?_
    intro V u1 hl1
    rw [R6.out]
    clear HK R6
    have HJ0 := Lib.hid hj0
    have HJ := Lib.hid hj
    have HU1 := Lib.hid u1
    have HL1 := Lib.hid hl1
    obtain ⟨o1, o2, o3, o4⟩ := hj.ord
    have hbs : Boxed V w.heap.size _ _ := heap_upd hj.bs u1 (by omega)
    have cb := hbs.cell
    have hbe : Boxed V w1.heap.size _ _ := heap_upd hj.be u1 (by omega)
    have ce := hbe.cell
    have fe := hbe.frozen
    obtain ⟨TT, t1, t2, t3⟩ := hj.mem
    have hlog : LogAt V q p TT (loadL (frames xs) fl i) := t1.upd u1 (fun k hk e => by subst e; rcases t3 _ hk with h | h <;> omega)
    have HLOG := Lib.hid hlog
    have T2 := Lib.hid t2
    have T3 := Lib.hid t3
    have HLEN := Lib.hid hlen
    have HBY : Hid (IsBytes V ad (frames xs)[i]) := hbytes.upd u1 (fun _ x hx e => by have := (hfr x hx).1; have := heap_lt hj0.hl; omega)
    have HFR := Lib.hid hfr
    have HBW := Lib.hid hbW
    have HI := Lib.hid hi
    have hml2 := frames_len hi
    clear hj0 hj u1 hl1 t1 t2 t3 hlen hbytes hfr hbW hbe
    by_cases h0 : i = 0
    · subst h0
      have hE0 : endOf 0 ((frames xs).take 0) = 0 := by simp [endOf]
      rw [hE0] at ce
      have hqV := hlog.lt q hlog.own
      have v2 := hlog.c2
      obtain ⟨ia, ic, _, _, v3, _⟩ := hlog.mem
      have f2 := hlog.frozen 2
      have f3 := hlog.frozen 3
      have hsV : w.heap.size < V.heap.size := heap_lt hbs
      have hseV : w1.heap.size < V.heap.size := by have := HJ0.out.lt _ HJ0.out.se; have := HBW.out.size; have := HU1.out.size; omega
      have bV := Below.refl V.heap.size V
      generalize hx : (frames xs)[0] = x at HLEN HBY hml2
      have HX := Lib.hid hx
      have hle : m' ≤ 60000 := by have := HLEN.out; omega
      have hbyD : Hid (IsBytes V.drew ad x) := HBY.out
      clear hE0 hlog hx hbs
      have hmx : Tryd.prog.follows .mixedOrders = true := by kernel_rfl
      gi_wp2_with fail
      refine region_round (S := fun w' => w'.cell? ⟨w.heap.size, 0, none⟩ = some (.pointer (some ⟨q, 0, none⟩))) hmx (by kernel_rfl) cb (fun hHeld => ?_)
      refine wpAnyH_take (i := 0) (oi := _) (v := ?_) rfl (by kernel_rfl) (by kernel_rfl) (by kernel_rfl) (fun _ _ _ h => h) (Or.inl ⟨by rfl, ?_⟩) (by assumption) ?_
      rotate_left
      · intro w hSw
        go_simp
        try with_reducible rfl
      simp only [Act.put, List.setIfInBounds_toArray, List.set_cons_zero, List.set_cons_succ, List.getElem_toArray, List.getElem_cons_zero]
      refine wpAnyH_take (i := 1) (oi := _) (v := ?_) rfl (by kernel_rfl) (by kernel_rfl) (by kernel_rfl) (fun _ _ _ h => h) (Or.inl ⟨by rfl, ?_⟩) (by assumption) ?_
      rotate_left
      · intro w hSw
        go_simp
        try with_reducible rfl
      simp only [Act.put, List.setIfInBounds_toArray, List.set_cons_zero, List.set_cons_succ, List.getElem_toArray, List.getElem_cons_zero, List.getElem_cons_succ]
      refine wpAnyH_take (i := 2) (oi := _) (v := ?_) rfl (by kernel_rfl) (by kernel_rfl) (by kernel_rfl) (fun _ _ _ h => h) (Or.inl ⟨by rfl, ?_⟩) (by assumption) ?_
      rotate_left
      · intro w hSw
        go_simp
        try with_reducible rfl
      simp only [Act.put, List.setIfInBounds_toArray, List.set_cons_zero, List.set_cons_succ, List.getElem_toArray, List.getElem_cons_zero, List.getElem_cons_succ]
      refine wpAnyH_ready (rs := [3]) (by kernel_rfl) (by simp) ?_
      refine AllReadyH.cons (i := 3) (o := _) rfl (fun K hK => ?_) AllReadyH.nil
      go_simp
      refine Calls.mono (head_in ad x m' c' V.drew HLEN.out hbyD.out hnil' hle) ?_
      rintro e V4 ⟨⟨a4, c4, rfl, hr4⟩, b4⟩
      have b4 := bV.drew.trans b4
      have cb4 := (Below.cell (p := ⟨w.heap.size, 0, none⟩) (B := V.heap.size) b4 hsV).trans cb
      have ce4 := (Below.cell (p := ⟨w1.heap.size, 0, none⟩) (B := V.heap.size) b4 hseV).trans ce
      have fe4 := (Below.frozen (p := ⟨w1.heap.size, 0, none⟩) (B := V.heap.size) b4 hseV).trans fe
      have v24 := (Below.cell (p := ⟨q, 2, none⟩) (B := V.heap.size) b4 hqV).trans v2
      have v34 := (Below.cell (p := ⟨q, 3, none⟩) (B := V.heap.size) b4 hqV).trans v3
      have f24 := (Below.frozen (p := ⟨q, 2, none⟩) (B := V.heap.size) b4 hqV).trans f2
      have f34 := (Below.frozen (p := ⟨q, 3, none⟩) (B := V.heap.size) b4 hqV).trans f3
      go_wp2_with fail
      refine hK.out _ _ cb4 (fun hHeld => ?_)
      clear hK K
      refine wpAnyH_take (i := 4) (oi := _) (v := ?_) rfl (by kernel_rfl) (by kernel_rfl) (by kernel_rfl) (fun _ _ _ h => h) (Or.inl ⟨by rfl, ?_⟩) (by assumption) ?_
      rotate_left
      · intro w hSw
        go_simp
        try with_reducible rfl
      simp only [Act.put, List.setIfInBounds_toArray, List.set_cons_zero, List.set_cons_succ, List.getElem_toArray, List.getElem_cons_zero, List.getElem_cons_succ]
      refine wpAnyH_take (i := 5) (oi := _) (v := ?_) rfl (by kernel_rfl) (by kernel_rfl) (by kernel_rfl) (fun _ _ _ h => h) (Or.inl ⟨by rfl, ?_⟩) (by assumption) ?_
      rotate_left
      · intro w hSw
        go_simp
        try with_reducible rfl
      simp only [Act.put, List.setIfInBounds_toArray, List.set_cons_zero, List.set_cons_succ, List.getElem_toArray, List.getElem_cons_zero, List.getElem_cons_succ]
      refine wpAnyH_take (i := 6) (oi := _) (v := ?_) rfl (by kernel_rfl) (by kernel_rfl) (by kernel_rfl) (fun _ _ _ h => h) (Or.inl ⟨by rfl, ?_⟩) (by assumption) ?_
      rotate_left
      · intro w hSw
        go_simp
        try with_reducible rfl
      simp only [Act.put, List.setIfInBounds_toArray, List.set_cons_zero, List.set_cons_succ, List.getElem_toArray, List.getElem_cons_zero, List.getElem_cons_succ]
      refine wpAnyH_take (i := 7) (oi := _) (v := ?_) rfl (by kernel_rfl) (by kernel_rfl) (by kernel_rfl) (fun _ _ _ h => h) (Or.inl ⟨by rfl, ?_⟩) (by assumption) ?_
      rotate_left
      · intro w hSw
        go_simp
        try with_reducible rfl
      simp only [Act.put, List.setIfInBounds_toArray, List.set_cons_zero, List.set_cons_succ, List.getElem_toArray, List.getElem_cons_zero, List.getElem_cons_succ]
      refine wpAnyH_take (i := 8) (oi := _) (v := ?_) rfl (by kernel_rfl) (by kernel_rfl) (by kernel_rfl) (fun _ _ _ h => h) (Or.inl ⟨by rfl, ?_⟩) (by assumption) ?_
      rotate_left
      · intro w hSw
        go_simp
        try with_reducible rfl
      simp only [Act.put, List.setIfInBounds_toArray, List.set_cons_zero, List.set_cons_succ, List.getElem_toArray, List.getElem_cons_zero, List.getElem_cons_succ]
      refine wpAnyH_ready (rs := [9]) (by kernel_rfl) (by simp) ?_
      refine AllReadyH.cons (i := 9) (o := _) rfl (fun K hK => ?_) AllReadyH.nil
      go_simp
      have cb5 : (V4.setCell ⟨q, 2, none⟩ (.int .i64 (genT x : Int))).cell? ⟨w.heap.size, 0, none⟩ = some (.pointer (some ⟨q, 0, none⟩)) := (World.cell?_setCell_far _ _ _ _ (by show q ≠ w.heap.size; omega)).trans cb4
      refine hK.out _ _ cb5 (fun hHeld => ?_)
      clear hK K
      refine wpAnyH_take (i := 10) (oi := _) (v := ?_) rfl (by kernel_rfl) (by kernel_rfl) (by kernel_rfl) (fun _ _ _ h => h) (Or.inl ⟨by rfl, ?_⟩) (by assumption) ?_
      rotate_left
      · intro w hSw
        go_simp
        try with_reducible rfl
      simp only [Act.put, List.setIfInBounds_toArray, List.set_cons_zero, List.set_cons_succ, List.getElem_toArray, List.getElem_cons_zero, List.getElem_cons_succ]
      refine wpAnyH_take (i := 11) (oi := _) (v := ?_) rfl (by kernel_rfl) (by kernel_rfl) (by kernel_rfl) (fun _ _ _ h => h) (Or.inl ⟨by rfl, ?_⟩) (by assumption) ?_
      rotate_left
      · intro w hSw
        go_simp
        try with_reducible rfl
      simp only [Act.put, List.setIfInBounds_toArray, List.set_cons_zero, List.set_cons_succ, List.getElem_toArray, List.getElem_cons_zero, List.getElem_cons_succ]
      refine wpAnyH_ready (rs := [12]) (by kernel_rfl) (by simp) ?_
      refine AllReadyH.cons (i := 12) (o := _) rfl (fun K hK => ?_) AllReadyH.nil
      go_simp
      refine hK.out _ _ ((World.cell?_setCell_far _ _ _ _ (by show q ≠ w.heap.size; omega)).trans cb5) (fun hHeld => ?_)
      clear hK K
      refine wpAnyH_done (by kernel_rfl) ?_ _
      simp only [calmQ]
      obtain ⟨hl6, hu6⟩ := HLOG.out.headed b4 hr4 (genT_lt x) (Nat.le_trans (imgT_len x) hml2.2)
      generalize (V4.setCell ⟨q, 2, none⟩ (.int .i64 (genT x : Int))).setCell ⟨q, 3, none⟩ (.slice a4 (imgT x).length c4) = W2 at *
      have hnT : ∀ j, j ≤ dd + 1 → j ≠ q → ¬ TT j := fun j h1 h2 h => by rcases T3.out j h with e | e <;> omega
      have ce6 := (hu6.cell (p := ⟨w1.heap.size, 0, none⟩) hseV (hnT _ (by show w1.heap.size ≤ dd + 1; omega) (by show w1.heap.size ≠ q; omega))).trans ce
      have fe6 := (hu6.frozen (p := ⟨w1.heap.size, 0, none⟩) hseV (hnT _ (by show w1.heap.size ≤ dd + 1; omega) (by show w1.heap.size ≠ q; omega))).trans fe
      have HL6 : Hid (LogAt W2 q p (More TT V V4) (loadL (frames xs) fl (0 + 1))) := by
        show LogAt W2 q p (More TT V V4) (loadL (frames xs) fl 1)
        have hx := HX.out
        subst hx
        rw [loadL_one fl HI.out]
        exact hl6
      have HU6 := Lib.hid hu6
      have hbusy := heap_upd HL1.out hu6 (hnT _ (Nat.le_refl _) (by omega))
      have HBUSY := Lib.hid hbusy
      have HV4 := Lib.hid b4
      have HNT := Lib.hid hnT
      clear hl6 hu6 hbusy b4 hr4 hnT cb ce cb4 ce4 cb5 v2 v3 v24 v34 f2 f3 f24 f34 fe fe4 hmx
      gi_wp2
      refine ⟨heap_upd HBUSY.out (upd_set _ _) (by omega), fun w' u' hl' => .inl ⟨rfl, load_next HJ0.out HBW.out HU1.out HI.out HL6.out HU6.out T2.out T3.out (fun k hk => ?_) rfl u' hl'⟩⟩
      rcases hk with hk | hk
      · exact .inl hk
      · have := HBW.out.size
        have := HU1.out.size
        exact .inr (by omega)
    · have hei : ((endOf 0 ((frames xs).take i) : Int) == 0) = false := by
        have h1 := endOf_ge 0 ((frames xs).take i)
        have h2 : ((frames xs).take i).length = i := by rw [List.length_take]; omega
        rw [h2] at h1
        simp
        omega
      have hrl := loadL_recs fl i (by omega) (Nat.le_of_lt hi)
      have hct := frames_count xs
      obtain ⟨ia, ic, v, E, m1, m2, m3, m4, m5, m6, m7, m8, m9, m10⟩ := hlog.mem
      obtain ⟨av, cv, rfl⟩ := m8.slice
      obtain ⟨vals, k1, k2⟩ := m8
      have hmm1 : (loadL (frames xs) fl i).recs.length ≤ 1000000 := by
        have := HM.out
        have : 7 * i ≤ 1048576 := by omega
        omega
      generalize hei0 : endOf 0 ((frames xs).take i) = ei at *
      have HLP := Lib.hid (loadL_push fl hi (by omega))
      generalize hLM : loadL (frames xs) fl i = LI at *
      obtain ⟨mm, hmm⟩ : ∃ mm, LI.recs.length = mm := ⟨_, rfl⟩
      have HMM := Lib.hid hmm
      have K1 : Hid (V.ownsRow 0 22 1 (.slice av mm cv) mm vals) := by show V.ownsRow 0 22 1 (.slice av mm cv) mm vals; rw [← hmm]; exact k1
      have x4 : V.cell? ⟨q, 4, none⟩ = some (.slice av mm cv) := by rw [← hmm]; exact m7
      have f4 := hlog.frozen 4
      have hqV := hlog.lt q hlog.own
      have hsV : w.heap.size < V.heap.size := heap_lt hbs
      have hseV : w1.heap.size < V.heap.size := by have := HJ0.out.lt _ HJ0.out.se; have := HBW.out.size; have := HU1.out.size; omega
      have hmx1 : mm + 1 ≤ maxLen := by unfold maxLen; omega
      have hmb1 : (mm + 1) * 24 ≤ 140737488355328 := by omega
      have HNQ : Hid (¬ (Value.slice av mm cv).ownBlock = some q) := fun e => (m9 q (by rw [hmm]; exact e)).2.1 rfl
      have HNS : Hid (∀ j, j ≤ dd + 1 → j ≠ q → ¬ (Value.slice av mm cv).ownBlock = some j) := fun j h1 h2 e => by rcases T3.out j (m9 j (by rw [hmm]; exact e)).1 with e | e <;> omega
      have M1 := Lib.hid m1
      have M2 := Lib.hid m2
      have M5 := Lib.hid m5
      have M6 := Lib.hid m6
      have M9 := Lib.hid m9
      have M10 := Lib.hid m10
      have K2 := Lib.hid k2
      have HE0 := Lib.hid hei0
      have HLM := Lib.hid hLM
      have HCE := Lib.hid hei
      generalize hx : (frames xs)[i] = x at HLEN HBY hml2 HLP
      have HX := Lib.hid hx
      have A7 : Below V.heap.size V (V.alloc (.cells #[.slice ad m' c'] 22)).drew := (upd_box _).drew
      have hT7 : Hid ((V.alloc (.cells #[.slice ad m' c'] 22)).drew.ownsRow 0 22 1 (.slice av mm cv) mm vals) := ownsRow_upd (S := fun _ => False) K1.out (below_upd _ A7) (fun _ _ h => h)
      have xT7 : Hid ((V.alloc (.cells #[.slice ad m' c'] 22)).drew.cell? ⟨V.heap.size, 0, none⟩ = some (.slice ad m' c')) := cell_of_row (V.alloc (.cells #[.slice ad m' c'] 22)) V.heap.size 0 _ _ _ (heap_alloc_new V _)
      have cb7 := (Below.cell (p := ⟨w.heap.size, 0, none⟩) (B := V.heap.size) A7 hsV).trans cb
      have x47 := (Below.cell (p := ⟨q, 4, none⟩) (B := V.heap.size) A7 hqV).trans x4
      have hmx : Tryd.prog.follows .mixedOrders = true := by kernel_rfl
      clear hmm hx hrl hct hei0 hLM m1 m2 m5 m6 m7 m9 m10 k1 k2 hlog hbs A7
      gi_wp2_with fail
      refine region_round (S := fun w' => w'.cell? ⟨w.heap.size, 0, none⟩ = some (.pointer (some ⟨q, 0, none⟩))) hmx (by kernel_rfl) cb (fun hHeld => ?_)
      refine wpAnyH_take (i := 0) (oi := _) (v := ?_) rfl (by kernel_rfl) (by kernel_rfl) (by kernel_rfl) (fun _ _ _ h => h) (Or.inl ⟨by rfl, ?_⟩) (by assumption) ?_
      rotate_left
      · intro w hSw
        go_simp
        try with_reducible rfl
      simp only [Act.put, List.setIfInBounds_toArray, List.set_cons_zero, List.set_cons_succ, List.getElem_toArray, List.getElem_cons_zero]
      refine wpAnyH_take (i := 1) (oi := _) (v := ?_) rfl (by kernel_rfl) (by kernel_rfl) (by kernel_rfl) (fun _ _ _ h => h) (Or.inl ⟨by rfl, ?_⟩) (by assumption) ?_
      rotate_left
      · intro w hSw
        go_simp
        try with_reducible rfl
      simp only [Act.put, List.setIfInBounds_toArray, List.set_cons_zero, List.set_cons_succ, List.getElem_toArray, List.getElem_cons_zero, List.getElem_cons_succ]
      refine wpAnyH_take (i := 2) (oi := _) (v := ?_) rfl (by kernel_rfl) (by kernel_rfl) (by kernel_rfl) (fun _ _ _ h => h) (Or.inl ⟨by rfl, ?_⟩) (by assumption) ?_
      rotate_left
      · intro w hSw
        go_simp
        try with_reducible rfl
      simp only [Act.put, List.setIfInBounds_toArray, List.set_cons_zero, List.set_cons_succ, List.getElem_toArray, List.getElem_cons_zero, List.getElem_cons_succ]
      refine wpAnyH_take (i := 3) (oi := _) (v := ?_) rfl (by kernel_rfl) (by kernel_rfl) (by kernel_rfl) (fun _ _ _ h => h) (Or.inl ⟨by rfl, ?_⟩) (by assumption) ?_
      rotate_left
      · intro w hSw
        go_simp
        try with_reducible rfl
      simp only [Act.put, List.setIfInBounds_toArray, List.set_cons_zero, List.set_cons_succ, List.getElem_toArray, List.getElem_cons_zero, List.getElem_cons_succ]
      refine wpAnyH_take (i := 5) (oi := _) (v := ?_) rfl (by kernel_rfl) (by kernel_rfl) (by kernel_rfl) (fun _ _ _ h => h) (Or.inl ⟨by rfl, ?_⟩) (by assumption) ?_
      rotate_left
      · intro w hSw
        go_simp
        try with_reducible rfl
      simp only [Act.put, List.setIfInBounds_toArray, List.set_cons_zero, List.set_cons_succ, List.getElem_toArray, List.getElem_cons_zero, List.getElem_cons_succ]
      refine wpAnyH_ready (rs := [4, 6]) (by kernel_rfl) (by simp) ?_
      refine AllReadyH.cons (i := 4) (o := _) rfl (fun K hK => ?_) (AllReadyH.cons (i := 6) (o := _) rfl (fun K hK => ?_) AllReadyH.nil)
      · go_simp
        refine hK.out _ _ cb (fun hHeld => ?_)
        clear hK K
        refine wpAnyH_ready (rs := [6]) (by kernel_rfl) (by simp) ?_
        refine AllReadyH.cons (i := 6) (o := _) rfl (fun K hK => ?_) AllReadyH.nil
        go_simp
        refine hK.out _ _ cb7 (fun hHeld => ?_)
        clear hK K
        refine wpAnyH_ready (rs := [7]) (by kernel_rfl) (by simp) ?_
        refine AllReadyH.cons (i := 7) (o := _) rfl (fun K hK => ?_) AllReadyH.nil
        refine step_append_elem (by rfl) _ _ 33 (by rfl) 0 22 (.slice none 0 0) 24 Tryd.underlying33 sl_info rfl (.slice av mm cv) mm vals (by kernel_rfl) hT7.out (.slice ad m' c') rfl ⟨V.heap.size, 0, none⟩ 1 (by kernel_rfl) xT7.out (mm + 1) rfl hmx1 hmb1 (Nat.zero_le _) ?_
        intro a5 c5 w5 hr5 hg5 hn5
        have U5 : Upd (fun g => (Value.slice av mm cv).ownBlock = some g) V w5 := (((Upd.refl _ V).alloc _).drew).grown hg5 (fun j hj => .inl hj)
        have cb8 := (U5.cell (p := ⟨w.heap.size, 0, none⟩) hsV (HNS.out _ (by show w.heap.size ≤ dd + 1; omega) (by show w.heap.size ≠ q; omega))).trans cb
        have x48 := (U5.cell (p := ⟨q, 4, none⟩) hqV HNQ.out).trans x4
        have f48 := (U5.frozen (p := ⟨q, 4, none⟩) hqV HNQ.out).trans f4
        simp only [Act.put, List.setIfInBounds_toArray, List.set_cons_zero, List.set_cons_succ, List.getElem_toArray, List.getElem_cons_zero, List.getElem_cons_succ]
        refine hK.out _ _ cb8 (fun hHeld => ?_)
        clear hK K
        refine wpAnyH_take (i := 8) (oi := _) (v := ?_) rfl (by kernel_rfl) (by kernel_rfl) (by kernel_rfl) (fun _ _ _ h => h) (Or.inl ⟨by rfl, ?_⟩) (by assumption) ?_
        rotate_left
        · intro w hSw
          go_simp
          try with_reducible rfl
        simp only [Act.put, List.setIfInBounds_toArray, List.set_cons_zero, List.set_cons_succ, List.getElem_toArray, List.getElem_cons_zero, List.getElem_cons_succ]
        refine wpAnyH_take (i := 9) (oi := _) (v := ?_) rfl (by kernel_rfl) (by kernel_rfl) (by kernel_rfl) (fun _ _ _ h => h) (Or.inl ⟨by rfl, ?_⟩) (by assumption) ?_
        rotate_left
        · intro w hSw
          go_simp
          try with_reducible rfl
        simp only [Act.put, List.setIfInBounds_toArray, List.set_cons_zero, List.set_cons_succ, List.getElem_toArray, List.getElem_cons_zero, List.getElem_cons_succ]
        refine wpAnyH_ready (rs := [10]) (by kernel_rfl) (by simp) ?_
        refine AllReadyH.cons (i := 10) (o := _) rfl (fun K hK => ?_) AllReadyH.nil
        go_simp
        refine hK.out _ _ ((World.cell?_setCell_far _ _ _ _ (by show q ≠ w.heap.size; omega)).trans cb8) (fun hHeld => ?_)
        clear hK K
        refine wpAnyH_done (by kernel_rfl) ?_ _
        simp only [calmQ]
        have e1 := HMM.out
        have e2 := HLEN.out
        subst e1
        subst e2
        obtain ⟨TT2, hl6, hu6, ht6⟩ := HLOG.out.pushed (E := E) (vals := vals) (b := x) M1.out M2.out m3 m4 M5.out M6.out K1.out K2.out M9.out M10.out HBY.out hmc' hcm' hnil' (fun y hy => by
          have h1 := HFR.out y hy
          have h2 := HU1.out.size
          refine ⟨by omega, fun h => ?_⟩
          have := HJ0.out.lt _ (T2.out _ h)
          omega) rfl hr5 ⟨hg5.os, hg5.tape, hg5.output, hg5.size, hg5.block⟩ hn5 hml2.2
        generalize w5.setCell ⟨q, 4, none⟩ (.slice a5 (LI.recs.length + 1) c5) = W2 at *
        have hnT : ∀ j, j ≤ dd + 1 → j ≠ q → ¬ TT j := fun j h1 h2 h => by rcases T3.out j h with e | e <;> omega
        have ce6 := (hu6.cell (p := ⟨w1.heap.size, 0, none⟩) hseV (hnT _ (by show w1.heap.size ≤ dd + 1; omega) (by show w1.heap.size ≠ q; omega))).trans ce
        have fe6 := (hu6.frozen (p := ⟨w1.heap.size, 0, none⟩) hseV (hnT _ (by show w1.heap.size ≤ dd + 1; omega) (by show w1.heap.size ≠ q; omega))).trans fe
        have HL6 : Hid (LogAt W2 q p TT2 (loadL (frames xs) fl (i + 1))) := by
          show LogAt W2 q p TT2 (loadL (frames xs) fl (i + 1))
          rw [HLP.out]
          exact hl6
        have HU6 := Lib.hid hu6
        have HT6 := Lib.hid ht6
        have HBUSY := Lib.hid (heap_upd HL1.out hu6 (hnT _ (Nat.le_refl _) (by omega)))
        clear hl6 hu6 ht6 hr5 hg5 hn5 hnT cb ce cb7 cb8 x4 x47 x48 f4 f48 fe hmx hei
        gi_wp2
        refine ⟨heap_upd HBUSY.out (upd_set _ _) (by omega), fun w' u' hl' => .inl ⟨rfl, load_next HJ0.out HBW.out HU1.out HI.out HL6.out HU6.out T2.out T3.out (fun k hk => ?_) rfl u' hl'⟩⟩
        rcases HT6.out k hk with h | ⟨y, hy, rfl⟩ | h
        · exact .inl h
        · exact .inr (HFR.out y hy).1
        · have := HBW.out.size
          have := HU1.out.size
          exact .inr (by omega)
      · go_simp
        refine hK.out _ _ cb7 (fun hHeld => ?_)
        clear hK K
        refine wpAnyH_ready (rs := [4]) (by kernel_rfl) (by simp) ?_
        refine AllReadyH.cons (i := 4) (o := _) rfl (fun K hK => ?_) AllReadyH.nil
        go_simp
        refine hK.out _ _ cb7 (fun hHeld => ?_)
        clear hK K
        refine wpAnyH_ready (rs := [7]) (by kernel_rfl) (by simp) ?_
        refine AllReadyH.cons (i := 7) (o := _) rfl (fun K hK => ?_) AllReadyH.nil
        refine step_append_elem (by rfl) _ _ 33 (by rfl) 0 22 (.slice none 0 0) 24 Tryd.underlying33 sl_info rfl (.slice av mm cv) mm vals (by kernel_rfl) hT7.out (.slice ad m' c') rfl ⟨V.heap.size, 0, none⟩ 1 (by kernel_rfl) xT7.out (mm + 1) rfl hmx1 hmb1 (Nat.zero_le _) ?_
        intro a5 c5 w5 hr5 hg5 hn5
        have U5 : Upd (fun g => (Value.slice av mm cv).ownBlock = some g) V w5 := (((Upd.refl _ V).alloc _).drew).grown hg5 (fun j hj => .inl hj)
        have cb8 := (U5.cell (p := ⟨w.heap.size, 0, none⟩) hsV (HNS.out _ (by show w.heap.size ≤ dd + 1; omega) (by show w.heap.size ≠ q; omega))).trans cb
        have x48 := (U5.cell (p := ⟨q, 4, none⟩) hqV HNQ.out).trans x4
        have f48 := (U5.frozen (p := ⟨q, 4, none⟩) hqV HNQ.out).trans f4
        simp only [Act.put, List.setIfInBounds_toArray, List.set_cons_zero, List.set_cons_succ, List.getElem_toArray, List.getElem_cons_zero, List.getElem_cons_succ]
        refine hK.out _ _ cb8 (fun hHeld => ?_)
        clear hK K
        refine wpAnyH_take (i := 8) (oi := _) (v := ?_) rfl (by kernel_rfl) (by kernel_rfl) (by kernel_rfl) (fun _ _ _ h => h) (Or.inl ⟨by rfl, ?_⟩) (by assumption) ?_
        rotate_left
        · intro w hSw
          go_simp
          try with_reducible rfl
        simp only [Act.put, List.setIfInBounds_toArray, List.set_cons_zero, List.set_cons_succ, List.getElem_toArray, List.getElem_cons_zero, List.getElem_cons_succ]
        refine wpAnyH_take (i := 9) (oi := _) (v := ?_) rfl (by kernel_rfl) (by kernel_rfl) (by kernel_rfl) (fun _ _ _ h => h) (Or.inl ⟨by rfl, ?_⟩) (by assumption) ?_
        rotate_left
        · intro w hSw
          go_simp
          try with_reducible rfl
        simp only [Act.put, List.setIfInBounds_toArray, List.set_cons_zero, List.set_cons_succ, List.getElem_toArray, List.getElem_cons_zero, List.getElem_cons_succ]
        refine wpAnyH_ready (rs := [10]) (by kernel_rfl) (by simp) ?_
        refine AllReadyH.cons (i := 10) (o := _) rfl (fun K hK => ?_) AllReadyH.nil
        go_simp
        refine hK.out _ _ ((World.cell?_setCell_far _ _ _ _ (by show q ≠ w.heap.size; omega)).trans cb8) (fun hHeld => ?_)
        clear hK K
        refine wpAnyH_done (by kernel_rfl) ?_ _
        simp only [calmQ]
        have e1 := HMM.out
        have e2 := HLEN.out
        subst e1
        subst e2
        obtain ⟨TT2, hl6, hu6, ht6⟩ := HLOG.out.pushed (E := E) (vals := vals) (b := x) M1.out M2.out m3 m4 M5.out M6.out K1.out K2.out M9.out M10.out HBY.out hmc' hcm' hnil' (fun y hy => by
          have h1 := HFR.out y hy
          have h2 := HU1.out.size
          refine ⟨by omega, fun h => ?_⟩
          have := HJ0.out.lt _ (T2.out _ h)
          omega) rfl hr5 ⟨hg5.os, hg5.tape, hg5.output, hg5.size, hg5.block⟩ hn5 hml2.2
        generalize w5.setCell ⟨q, 4, none⟩ (.slice a5 (LI.recs.length + 1) c5) = W2 at *
        have hnT : ∀ j, j ≤ dd + 1 → j ≠ q → ¬ TT j := fun j h1 h2 h => by rcases T3.out j h with e | e <;> omega
        have ce6 := (hu6.cell (p := ⟨w1.heap.size, 0, none⟩) hseV (hnT _ (by show w1.heap.size ≤ dd + 1; omega) (by show w1.heap.size ≠ q; omega))).trans ce
        have fe6 := (hu6.frozen (p := ⟨w1.heap.size, 0, none⟩) hseV (hnT _ (by show w1.heap.size ≤ dd + 1; omega) (by show w1.heap.size ≠ q; omega))).trans fe
        have HL6 : Hid (LogAt W2 q p TT2 (loadL (frames xs) fl (i + 1))) := by
          show LogAt W2 q p TT2 (loadL (frames xs) fl (i + 1))
          rw [HLP.out]
          exact hl6
        have HU6 := Lib.hid hu6
        have HT6 := Lib.hid ht6
        have HBUSY := Lib.hid (heap_upd HL1.out hu6 (hnT _ (Nat.le_refl _) (by omega)))
        clear hl6 hu6 ht6 hr5 hg5 hn5 hnT cb ce cb7 cb8 x4 x47 x48 f4 f48 fe hmx hei
        gi_wp2
        refine ⟨heap_upd HBUSY.out (upd_set _ _) (by omega), fun w' u' hl' => .inl ⟨rfl, load_next HJ0.out HBW.out HU1.out HI.out HL6.out HU6.out T2.out T3.out (fun k hk => ?_) rfl u' hl'⟩⟩
        rcases HT6.out k hk with h | ⟨y, hy, rfl⟩ | h
        · exact .inl h
        · exact .inr (HFR.out y hy).1
        · have := HBW.out.size
          have := HU1.out.size
          exact .inr (by omega)
  case hQ =>
    clear hD hl k1 k2 hz4 r3 r4 r5 r6
    rintro e w5 ⟨⟨v, rfl⟩, S', hg, hj | ⟨_, _, h⟩⟩
    · refine ⟨v, rfl, .inl ⟨hj.hl, fun w6 u6 => ?_⟩⟩
      obtain ⟨o1, o2, o3, o4⟩ := hj.ord
      have hbs6 : Boxed w6 w.heap.size _ _ := heap_upd hj.bs u6 (by omega)
      have hbe6 : Boxed w6 w1.heap.size _ _ := heap_upd hj.be u6 (by omega)
      rw [List.take_length] at hbe6
      have cb := hbs6.cell
      have ce := hbe6.cell
      have hD6 := heap_upd hj.hD u6 (by omega)
      obtain ⟨T6, t1, t2, t3⟩ := hj.mem
      have hl6 : LogAt w6 q p T6 (loadL (frames xs) fl (frames xs).length) := t1.upd u6 (fun k hk e => by subst e; rcases t3 _ hk with h | h <;> omega)
      obtain ⟨VV, hdk⟩ := HB.out.disk
      have hZS : ∀ k, S k → ¬ (k = q ∨ k = w.heap.size ∨ k = w1.heap.size ∨ k = dd ∨ k = dd + 1) := fun k hk h => by
        have h1 := hdk.lt k hk
        rcases h with h | h
        · subst h; exact HB.out.st _ hk HB.out.log.own
        · omega
      have hd6 : DiskAt w6 p S VV D := ((hdk.below B4).upd hg.upd (fun k hk h => hZS k hk h)).upd u6 (fun k hk h => hZS k hk (.inr (.inr (.inr (.inr h)))))
      have hBs := HB.out.size
      have H6 : Hid (Both w6 B p q S T6 D (loadL (frames xs) fl (frames xs).length)) := ⟨⟨VV, hd6⟩, hl6, HB.out.sB, fun k hk => by
        rcases t3 k hk with h | h
        · subst h; exact HB.out.tB _ HB.out.log.own
        · omega, fun k hk ht => by
        rcases t3 k ht with h | h
        · subst h; exact HB.out.st _ hk HB.out.log.own
        · have := hdk.lt k hk; omega⟩
      have G6 : Hid (Went w S T w6 S T6) := ⟨((below_upd _ B4).trans hg.upd (fun k hk h => by
        rcases h with h | h
        · subst h; exact .inr HB.out.log.own
        · omega)).trans u6 (fun k hk h => by omega), fun k hk => .inl hk, fun k hk => by
        rcases t3 k hk with h | h
        · subst h; exact .inl HB.out.log.own
        · exact .inr (by omega)⟩
      have hSd : Hid (¬ S dd) := fun h => by have := hdk.lt _ h; omega
      have hTd : Hid (¬ T6 dd) := fun h => by rcases t3 _ h with e | e <;> omega
      have hdd6 : Hid (dd < w6.heap.size) := heap_lt hD6
      have hddw : Hid (w.heap.size ≤ dd) := by show w.heap.size ≤ dd; omega
      have HD6 := Lib.hid hD6
      have x60 := hl6.c0
      have x61 : w6.cell? ⟨q, 1, none⟩ = some (.int .i64 (fl : Int)) := by
        have h := hl6.c1
        have e : (loadL (frames xs) fl (frames xs).length).file = fl := by cases (frames xs).length <;> rfl
        rw [e] at h
        exact h
      have hel : endOf 0 (frames xs) ≤ m := by
        obtain ⟨k, hk⟩ := come_end (xs := xs) (frames xs).length (Nat.le_refl _)
        have h1 := hk.at'
        rw [List.take_length] at h1
        have h2 := hk.in'
        rw [HM.out] at h2
        omega
      obtain ⟨en, hen⟩ : ∃ en, endOf 0 (frames xs) = en := ⟨_, rfl⟩
      rw [hen] at EQT ce hel
      have HCUT := Lib.hid (cut_in hd6.drew (fl : Int) (en : Int))
      have H6D := Lib.hid (H6.out.below ((Below.refl _ w6).drew))
      have HTN := Lib.hid (fun h : en = m => DM.trim_no EQT.out h)
      have HTY := Lib.hid (fun h : ¬ en = m => DM.trim_yes EQT.out h)
      have hq6 := hl6.lt q hl6.own
      have hs6 : w.heap.size < w6.heap.size := heap_lt hbs6
      have he6 : w1.heap.size < w6.heap.size := heap_lt hbe6
      have hnS : Hid (∀ k, k = q ∨ k = w.heap.size ∨ k = w1.heap.size ∨ k = dd → ¬ S k) := fun k hk h => hZS k h (by omega)
      clear hbs6 hbe6 hD6 t1 t2 t3 hl6 hdk hZS hd6 hg hj u6 hen EQT B4 b4 b4' HSX HLG
      by_cases hem : en = m
      · have hei : ((en : Int) == (m : Int)) = true := by simp [hem]
        have EQ := Lib.hid (HTN.out hem)
        clear hem HTN HTY HCUT
        gi_wp2
        refine ⟨by simp, .inl ⟨_, _, rfl, run_takeDeferred HD6.out, ?_⟩⟩
        rw [EQ.out]
        exact ⟨_, results_tmp rfl _ _ _, rfl, S, T6, H6.out.put hSd.out hTd.out _, G6.out.put hddw.out _⟩
      · have hei : ((en : Int) == (m : Int)) = false := by simp; omega
        have EQ := Lib.hid (HTY.out hem)
        clear hem HTN HTY
        gi_wp2_with fail
        refine wpIn_wide.2 ?_
        go_region_held3 (fun w' => w'.cell? ⟨w.heap.size, 0, none⟩ = some (.pointer (some ⟨q, 0, none⟩)) ∧ w'.cell? ⟨q, 0, none⟩ = some (.pointer (some ⟨p, 0, none⟩)) ∧ w'.cell? ⟨q, 1, none⟩ = some (.int .i64 (fl : Int)) ∧ w'.cell? ⟨w1.heap.size, 0, none⟩ = some (.int .i64 (en : Int)))
          (first | exact ⟨cb, x60, x61, ce⟩ | exact ⟨cb7, x70, x71, ce7⟩)
          ((go_at_call 59; refine Calls.mono HCUT.out ?_; rintro e w7 ⟨rfl, S7, V7, h7, u7, m7⟩; have cb7 := (u7.cell (p := ⟨w.heap.size, 0, none⟩) hs6 (hnS.out _ (.inr (.inl rfl)))).trans cb; have x70 := (u7.cell (p := ⟨q, 0, none⟩) hq6 (hnS.out _ (.inl rfl))).trans x60; have x71 := (u7.cell (p := ⟨q, 1, none⟩) hq6 (hnS.out _ (.inl rfl))).trans x61; have ce7 := (u7.cell (p := ⟨w1.heap.size, 0, none⟩) he6 (hnS.out _ (.inr (.inr (.inl rfl))))).trans ce; have h7' := Lib.hid (H6D.out.step ⟨rfl, S7, V7, h7, u7, m7⟩); have hD7 := Lib.hid (heap_upd (W := w6.drew) (k := dd) HD6.out u7 (hnS.out _ (.inr (.inr (.inr rfl))))); clear h7 u7 m7))
        all_goals
          obtain ⟨-, S8, h8, g8⟩ := h7'.out
          have H8 := Lib.hid h8
          have G8 := Lib.hid g8
          clear h8 g8 h7'
          gi_wp2
          refine ⟨by simp, .inl ⟨_, _, rfl, run_takeDeferred hD7.out, ?_⟩⟩
          rw [EQ.out]
          have hS8 : ¬ S8 dd := fun h => by
            rcases G8.out.s _ h with e | e
            · exact hSd.out e
            · have h1 : w6.heap.size ≤ dd := e
              have := hdd6.out
              omega
          exact ⟨_, results_tmp rfl _ _ _, rfl, S8, T6, H8.out.put hS8 hTd.out _, (G6.out.trans ((Went.below ((Below.refl _ w6).drew)).trans G8.out)).put hddw.out _⟩
    · exact h.elim
end Go.Proofs.YteipcbpkgpffjaaDoor
