/-
  LogTurns: compacted again and again a log has one file, the newest image, no records, and a generation one greater; tied to the program's text. No conditions: every input.
-/
import Derived.Test.YtfoapnclfipkiaaDoorLogOpen
import Derived.Test.YtfoapnclfipkiaaDoorLogFull
namespace Go.Proofs.YtfoapnclfipkiaaDoor
open Go.RowKit Go.WideShapes
set_option maxRecDepth 100000

theorem loadL_all (g fl : Nat) (im : List UInt8) (R : List (List UInt8)) (hg : g < 4294967296) : loadL (headF g im :: R) fl (headF g im :: R).length = ⟨fl, g, im, R, false⟩ := by
  simp only [List.length_cons, loadL, List.headD_cons, genT_head im hg, imgT_head, List.take_succ_cons, List.drop_succ_cons, List.drop_zero, List.take_length]
/-- A log is opened out of a file that begins with its frames. -/
theorem open_found {D : DM} {fl g : Nat} {im : List UInt8} {R : List (List UInt8)} (hl : D.lost = false) (hc : counts (D.f 1).b (D.f 2).b = fl) (h0 : fl ≠ 0) (hf : frames (D.f fl).b = headF g im :: R) (hg : g < 4294967296) :
    logOpen D = ((D.trim fl).1, (D.trim fl).2, ⟨fl, g, im, R, false⟩) := by
  unfold logOpen
  rw [hl, if_neg (by decide), hc, if_neg h0, hf, loadL_all g fl im R hg]

/-- One file, and nothing else. -/
structure Turn (D : DM) (L : LM) : Prop where
  f : D.f = fupd (fun _ => FM.gone) L.file ⟨true, logF L.gen L.image L.recs, (logF L.gen L.image L.recs).length⟩
  lost : D.lost = false
  lit : D.lit = false
  cap : D.cap = 1048576
  over : L.over = false
  fl : L.file = 1 ∨ L.file = 2
  good : Good L.recs
  im : L.image.length ≤ 59996
  gen : 1 ≤ L.gen ∧ L.gen < 4294967296

theorem logF_nil (g : Nat) (im : List UInt8) : logF g im [] = frameOf (headF g im) := by
  rw [logF, catF_cons, catF_nil, List.append_nil]
theorem used_one {D : DM} {i : Nat} {x : FM} (hi : i < 8) (h : D.f = fupd (fun _ => FM.gone) i x) : D.used 8 = x.b.length := by
  have h1 := used_fupd (D := DM.new 0) (E := D) (i := i) (x := x) hi (by rw [h]; rfl)
  rw [DM.new_used] at h1
  have h2 : ((DM.new 0).f i).b.length = 0 := rfl
  omega
theorem Turn.tidy {D : DM} {L : LM} (h : Turn D L) : Tidy D := fun f hf hh => by
  rw [h.f] at hh ⊢
  unfold fupd at hh ⊢
  split
  · rename_i e; simp [e] at hh
  · rfl
theorem Turn.used {D : DM} {L : LM} (h : Turn D L) : D.used 8 = 11 + L.image.length + (catF L.recs).length := by
  rw [used_one (by have := h.fl; omega) h.f]
  exact logF_len _ _ _
/-- A record more, or none. -/
theorem Turn.append {D : DM} {L : LM} (h : Turn D L) (b : List UInt8) : Turn (logAppend D L b).2.1 (logAppend D L b).2.2 ∧ (logAppend D L b).2.2.gen = L.gen ∧ (logAppend D L b).2.2.image = L.image ∧ ((logAppend D L b).2.2.recs = L.recs ∨ ((logAppend D L b).2.2.recs = L.recs ++ [b] ∧ b.length ≤ 4000)) := by
  rcases append_log (b := b) h.lost h.over (by have := h.fl; omega) with ⟨h1, h2, h3, _, h4, h5⟩ | ⟨_, _, _, ⟨k, h1⟩, _⟩ | ⟨_, h1⟩ | ⟨_, _, h1⟩
  · rw [h5]
    have hx : (D.f L.file).b = logF L.gen L.image L.recs := by rw [h.f, fupd_same]
    refine ⟨⟨?_, h4.lost, h4.lit h.lit, by rw [h4.cap]; exact h.cap, h.over, h.fl, h.good.snoc h2 (by omega), h.im, h.gen⟩, rfl, rfl, .inr ⟨rfl, h3⟩⟩
    rw [h4.f, hx]
    show _ = fupd (fun _ => FM.gone) L.file ⟨true, logF L.gen L.image (L.recs ++ [b]), (logF L.gen L.image (L.recs ++ [b])).length⟩
    rw [logF_snoc, h.f]
    funext j
    unfold fupd
    split <;> rfl
  · have := h1.lit
    rw [h.lit] at this
    cases this
  · rw [h1]
    exact ⟨h, rfl, rfl, .inl rfl⟩
  · rw [h1]
    exact ⟨h, rfl, rfl, .inl rfl⟩
/-- Compact, where there is room. -/
theorem Turn.compact {D : DM} {L : LM} (h : Turn D L) (im : List UInt8) (hi : im.length ≤ 59996) (hg : L.gen < 2147483648) (hr : D.used 8 + (11 + im.length) ≤ 1048576) :
    (logCompact D L im).1 = 0 ∧ (logCompact D L im).2.2 = L.anew im ∧ Turn (logCompact D L im).2.1 (L.anew im) ∧ ((logCompact D L im).2.1.f 1).has = !((logCompact D L im).2.1.f 2).has ∧ ((logCompact D L im).2.1.f 3).has = false := by
  have h3 : (D.f 3).b.length = 0 := by rw [h.f, fupd_other (by have := h.fl; omega)]; rfl
  have hcap := h.cap
  rcases compact_log (im := im) h.tidy h.lost h.over with ⟨h1, _, _, _, h4, h5⟩ | ⟨_, _, _, h4, _⟩ | ⟨h1, _⟩ | ⟨_, h1, _⟩
  · have hf : (logCompact D L im).2.1.f = fupd (fun _ => FM.gone) L.next (freshFile (L.gen + 1) im) := by
      rw [h5.f, h.f]
      funext j
      unfold fupd LM.next LM.other
      rcases h.fl with e | e
      · rw [e]; by_cases j1 : j = 1 <;> by_cases j2 : j = 2 <;> by_cases j3 : j = 3 <;> simp_all
      · rw [e]; by_cases j1 : j = 1 <;> by_cases j2 : j = 2 <;> by_cases j3 : j = 3 <;> simp_all
    refine ⟨h1, h4, ⟨?_, h5.lost, h5.lit h.lit, by rw [h5.cap]; exact h.cap, rfl, by rcases L.next_cases with ⟨e, _⟩ | ⟨e, _⟩; exact .inr e; exact .inl e, (fun x hx => by cases hx), hi, by show 1 ≤ L.gen + 1 ∧ L.gen + 1 < 4294967296; omega⟩, ?_, ?_⟩
    · rw [hf]
      show _ = fupd (fun _ => FM.gone) L.next ⟨true, logF (L.gen + 1) im [], (logF (L.gen + 1) im []).length⟩
      rw [logF_nil]
      rfl
    · rw [hf]
      rcases L.next_cases with ⟨e, _⟩ | ⟨e, _⟩ <;> rw [e] <;> rfl
    · rw [hf]
      rcases L.next_cases with ⟨e, _⟩ | ⟨e, _⟩ <;> rw [e] <;> rfl
  · rw [h.lit] at h4
    cases h4
  · omega
  · rcases h1 with h1 | h1 <;> omega
/-- Opened, it is what it was. -/
theorem Turn.open {D : DM} {L : LM} (h : Turn D L) : logOpen D = (0, D, L) := by
  have hx : (D.f L.file).b = logF L.gen L.image L.recs := by rw [h.f, fupd_same]
  have hfr := logF_frames (g := L.gen) h.im h.good
  have hgx : genOf (D.f L.file).b = L.gen := by rw [hx]; exact genOf_log h.gen.2 hfr
  have hgo : ∀ i, i ≠ L.file → genOf (D.f i).b = 0 := fun i hi => by
    rw [h.f, fupd_other hi]
    exact genOf_none (by decide)
  have hc : counts (D.f 1).b (D.f 2).b = L.file := by
    have h1 := h.gen.1
    rcases h.fl with e | e
    · rw [e] at hgx hgo ⊢
      exact counts_first (by omega) (by rw [hgo 2 (by omega)]; omega)
    · rw [e] at hgx hgo ⊢
      exact counts_second (by rw [hgo 1 (by omega)]; omega)
  have ht : D.trim L.file = (0, D) := by
    unfold DM.trim
    rw [hx, hfr, if_pos logF_whole]
  rw [open_found h.lost hc (by have := h.fl; omega) (by rw [hx]; exact hfr) h.gen.2, ht]
  have hov := h.over
  cases L
  simp only at hov ⊢
  rw [hov]
/-- Made on a new disk. -/
theorem Turn.made : (logCreate (DM.new 1048576) []).1 = 0 ∧ (logCreate (DM.new 1048576) []).2.2 = ⟨1, 1, [], [], false⟩ ∧ Turn (logCreate (DM.new 1048576) []).2.1 ⟨1, 1, [], [], false⟩ := by
  rcases create_new 1048576 [] with ⟨h, _⟩ | ⟨_, h, _⟩ | ⟨_, _, h1, h2, h3, h4, h5, h6⟩
  · simp at h
  · simp at h
  · refine ⟨h1, h2, ?_, h4, h5, h3, rfl, .inl rfl, (fun x hx => by cases hx), by decide, by decide⟩
    rw [h6]
    show _ = fupd (fun _ => FM.gone) 1 ⟨true, logF 1 [] [], (logF 1 [] []).length⟩
    rw [logF_nil]
    rfl

theorem lists_cell {w wr : World} {a : Option Addr} {L : List (List UInt8)} {k : Nat} (h : ListsAt w a L) (hk : k < L.length) (hb : Below w.heap.size w wr) :
    ∃ b off ad c, a = some ⟨b, off, none⟩ ∧ b < w.heap.size ∧ wr.cell? ⟨b, off + k, none⟩ = some (.slice ad L[k].length c) ∧ IsBytes w ad L[k] ∧ (ad = none → c = 0) ∧ L[k].length ≤ maxLen := by
  rcases h with h | ⟨b, off, h2, h3, h4⟩
  · rw [h] at hk; simp at hk
  · obtain ⟨ad, c, h5, h6, h7, h8, h9⟩ := h4 k hk
    exact ⟨b, off, ad, c, h2, h3, (hb.cell (p := ⟨b, off + k, none⟩) h3).trans h5, h6, h9, Nat.le_trans h7 h8⟩

set_option maxHeartbeats 8000000 in
theorem turns_near (a0 a1 : Option Addr) (I R : List (List UInt8)) (n c0 m c1 : Nat) (w : World) (hH : HalvesAt w) (hn : I.length = n) (hI : ListsAt w a0 I) (hm : R.length = m) (hR : ListsAt w a1 R) (hn10 : n ≤ 10) (hm10 : m ≤ 10) :
    Calls Tryd.prog 6 #[.slice a0 n c0, .slice a1 m c1] w fun e w' => e = .returned (.bool true) ∧ Below w.heap.size w w' := by
  have hn10' : ¬ (10 : Int) < (n : Int) := by omega
  have hm10' : ¬ (10 : Int) < (m : Int) := by omega
  have HH := Lib.hid hH
  have HN := Lib.hid hn
  have HM := Lib.hid hm
  have HI := Lib.hid hI
  have HR := Lib.hid hR
  clear hH hn hm hI hR
  go_enter Tryd.func6, Tryd.ntmps6
  go_wp2_with fail
  refine (log_awake _ HH.out).mono ?_
  rintro e w1 ⟨rfl, b1⟩
  go_wp2_with fail
  refine (new_in 1048576 w1 (by omega)).mono ?_
  rintro e w2 ⟨rfl, ⟨V, h2⟩, b2, s2⟩
  have B2 := b1.trans (b2.mono b1.size)
  have HB1 := Lib.hid b1.size
  have HC := Lib.hid (log_create (B := w.heap.size) h2 (HH.out.below B2) (fun k hk => by have h9 : k = w1.heap.size := hk; have := b1.size; omega) none [] 0 0 rfl (.inl rfl) (fun _ => rfl) (fun h => (h rfl).elim))
  have HB2 := Lib.hid B2
  have HMD := Lib.hid Turn.made
  obtain ⟨r, hr⟩ : ∃ r, logCreate (DM.new 1048576) [] = r := ⟨_, rfl⟩
  rw [hr] at HC HMD
  clear hr h2 s2 B2 b1 b2
  go_wp2_with fail
  refine HC.out.mono ?_
  rintro e w3 ⟨S3, u3, m3, -, hyes⟩
  obtain ⟨q, T, rfl, h3, hT⟩ := hyes HMD.out.1
  have HB3 : Hid (Below w.heap.size w w3) := HB2.out.trans (u3.toBelow HB2.out.size (fun k hk h => by have h9 : k = w1.heap.size := h; have := HB1.out; omega))
  have hst : Hid (∃ S T D L, Both w3 w.heap.size w1.heap.size q S T D L ∧ Turn D L ∧ L.gen = 0 + 1 ∧ L.recs = [] ∧ L.image.length ≤ 50000) := by
    refine ⟨S3, T, r.2.1, r.2.2, h3, ?_, ?_, ?_, ?_⟩
    · rw [HMD.out.2.1]; exact HMD.out.2.2
    · rw [HMD.out.2.1]
    · rw [HMD.out.2.1]
    · rw [HMD.out.2.1]; exact Nat.zero_le _
  generalize w1.heap.size = p at *
  clear h3 hyes u3 m3 hT HC HMD
  go_wp2_with fail
  go_loopw [38] (fun i wr => ∃ k : Nat, k ≤ n ∧ i = .int .i64 k ∧ Below w.heap.size w wr ∧ ∃ S T D L, Both wr w.heap.size p q S T D L ∧ Turn D L ∧ L.gen = k + 1 ∧ L.recs = [] ∧ L.image.length ≤ 50000) (fun i _ => n - (intOf i).toNat)
  case atStart => exact ⟨0, Nat.zero_le _, rfl, HB3.out, hst.out⟩
  case round =>
    clear hst HB3 HB2 HB1
    obtain ⟨k, hk, rfl, hB, S, T, D, L, hBo, hTu, hG, hRe, hIm⟩ := hrel
    have HBB := Lib.hid hB
    have HBO := Lib.hid hBo
    have HTU := Lib.hid hTu
    have HG := Lib.hid hG
    have HRE := Lib.hid hRe
    clear hB hBo hTu hG hRe
    by_cases hlt : k < n
    · have hlk : k < I.length := by rw [HN.out]; exact hlt
      obtain ⟨b, off, ad, cx, rfl, hb, hck, hby, hnx, hxm⟩ := lists_cell HI.out hlk HBB.out
      have HCELL : Hid (∀ wr', Below w.heap.size w wr' → wr'.cell? ⟨b, off + k, none⟩ = some (.slice ad I[k].length cx)) := fun wr' h => by
        have h1 := (HBB.out.cell (p := ⟨b, off + k, none⟩) hb)
        rw [h1] at hck
        exact (h.cell (p := ⟨b, off + k, none⟩) hb).trans hck
      generalize hx : I[k] = x at *
      obtain ⟨lx, hlx⟩ : ∃ lx, x.length = lx := ⟨_, rfl⟩
      rw [hlx] at hck HCELL hxm
      have HLX := Lib.hid hlx
      have HBY := Lib.hid hby
      have HBL := Lib.hid hby.lt
      have hk0 : (0 : Int) ≤ (k : Int) := by omega
      have hkn : (k : Int) < (n : Int) := by omega
      clear hx hlx hby
      by_cases hbig : 50000 < lx
      · have hbigi : (50000 : Int) < (lx : Int) := by omega
        go_wp2
        go_ret
        exact ⟨rfl, HBB.out⟩
      · have hbigi : ¬ (50000 : Int) < (lx : Int) := by omega
        go_wp2_with fail
        go_loopw [49] (fun i2 wr2 => ∃ j : Nat, j ≤ m ∧ i2 = .int .i64 j ∧ Below w.heap.size w wr2 ∧ ∃ S T D L, Both wr2 w.heap.size p q S T D L ∧ Turn D L ∧ L.gen = k + 1 ∧ L.image.length ≤ 50000 ∧ L.recs.length ≤ j ∧ ∀ x ∈ L.recs, x.length ≤ 4000) (fun i2 _ => m - (intOf i2).toNat)
        case atStart => exact ⟨0, Nat.zero_le _, rfl, HBB.out, S, T, D, L, HBO.out, HTU.out, HG.out, hIm, by rw [HRE.out]; simp, fun x hx => by rw [HRE.out] at hx; cases hx⟩
        case round =>
          obtain ⟨j, hj, rfl, hB2, S2, T2, D2, L2, hBo2, hTu2, hG2, hIm2, hRl, hRx⟩ := hrel
          have HBB2 := Lib.hid hB2
          have HBO2 := Lib.hid hBo2
          have HTU2 := Lib.hid hTu2
          have HG2 := Lib.hid hG2
          have HRX := Lib.hid hRx
          clear hB2 hBo2 hTu2 hG2 hRx
          by_cases hltj : j < m
          · have hlj : j < R.length := by rw [HM.out]; exact hltj
            obtain ⟨b', off', ad', cx', rfl, hb', hck', hby', hnx', hxm'⟩ := lists_cell HR.out hlj HBB2.out
            generalize hx : R[j] = y at *
            obtain ⟨ly, hly⟩ : ∃ ly, y.length = ly := ⟨_, rfl⟩
            rw [hly] at hck' hxm'
            have HLY := Lib.hid hly
            have HBY' := Lib.hid hby'
            have HBL' := Lib.hid hby'.lt
            have hj0 : (0 : Int) ≤ (j : Int) := by omega
            have hjm : (j : Int) < (m : Int) := by omega
            clear hx hly hby'
            by_cases hbig' : 4000 < ly
            · have hbigi' : (4000 : Int) < (ly : Int) := by omega
              go_wp2
              go_ret
              exact ⟨rfl, HBB2.out⟩
            · have hbigi' : ¬ (4000 : Int) < (ly : Int) := by omega
              have HA := Lib.hid (log_append HBO2.out (HH.out.below HBB2.out) ad' y ly cx' HLY.out (HBY'.out.below HBB2.out) hnx' (fun h0 x hx e => by
                have := HBL'.out h0 x hx
                rcases e with e | e
                · have := HBO2.out.sB _ e; omega
                · have := HBO2.out.tB _ e; omega) (by omega))
              have HAP := Lib.hid (HTU2.out.append y)
              obtain ⟨r2, hr2⟩ : ∃ r2, logAppend D2 L2 y = r2 := ⟨_, rfl⟩
              rw [hr2] at HA HAP
              clear hr2
              go_wp2_with fail
              refine HA.out.mono ?_
              rintro e w5 ⟨rfl, S5, T5, h5, g5⟩
              have HB5 : Hid (Below w.heap.size w w5) := HBB2.out.trans (HBO2.out.went g5)
              have H5 := Lib.hid h5
              clear h5 g5
              go_wp2
              go_roundw
              case rel =>
                obtain ⟨e1, e2, e3, e4⟩ := HAP.out
                refine ⟨j + 1, by omega, by go_num, HB5.out, S5, T5, r2.2.1, r2.2.2, H5.out, e1, by rw [e2]; exact HG2.out, by rw [e3]; exact hIm2, ?_, ?_⟩
                · rcases e4 with e4 | ⟨e4, _⟩
                  · rw [e4]; omega
                  · rw [e4, List.length_append]; simp; omega
                · intro z hz
                  rcases e4 with e4 | ⟨e4, e5⟩
                  · rw [e4] at hz; exact HRX.out z hz
                  · rw [e4] at hz
                    rcases List.mem_append.1 hz with hz | hz
                    · exact HRX.out z hz
                    · rw [List.mem_singleton.1 hz]; exact e5
              case measure => simp [intOf]; omega
          · obtain rfl : j = m := by omega
            have hck2 := HCELL.out _ HBB2.out
            have HCP := Lib.hid (log_compact HBO2.out (HH.out.below HBB2.out) ad x lx cx HLX.out (HBY.out.below HBB2.out) hnx (fun h0 x hx e => by
              have := HBL.out h0 x hx
              rcases e with e | e
              · have := HBO2.out.sB _ e; omega
              · have := HBO2.out.tB _ e; omega))
            have HCO := Lib.hid (HTU2.out.compact x (by rw [HLX.out]; omega) (by rw [HG2.out]; omega) (by
              rw [HTU2.out.used, HLX.out]
              have h1 := catF_bound (L := L2.recs) (b := 4000) HRX.out
              have h2 : L2.recs.length * (7 + 4000) ≤ 10 * (7 + 4000) := Nat.mul_le_mul_right _ (by omega)
              omega))
            obtain ⟨r2, hr2⟩ : ∃ r2, logCompact D2 L2 x = r2 := ⟨_, rfl⟩
            rw [hr2] at HCP HCO
            clear hr2
            go_wp2_with fail
            refine HCP.out.mono ?_
            rintro e w5 ⟨rfl, S5, T5, h5, g5⟩
            obtain ⟨e1, e2, e3, e4, e5⟩ := HCO.out
            rw [e1]
            rw [e2] at h5
            have HB5 : Hid (Below w.heap.size w w5) := HBB2.out.trans (HBO2.out.went g5)
            have H5 := Lib.hid h5
            have HT5 := Lib.hid e3
            have hck5 := HCELL.out _ HB5.out
            have HSM := Lib.hid (same_log H5.out.log (by simp [LM.anew]) ad none x [] lx cx 0 0 HLX.out (HBY.out.below HB5.out) hxm rfl (.inl rfl) (Nat.zero_le _))
            have hsm : same (L2.anew x) x [] = true := same_iff.2 ⟨rfl, rfl⟩
            rw [hsm] at HSM
            have HGN := Lib.hid (fun w' (h : Below w5.heap.size w5 w') => log_generation (H5.out.log.below h))
            have hge : Hid ((L2.anew x).gen = k + 2) := by show L2.gen + 1 = k + 2; rw [HG2.out]
            obtain ⟨V5, hd5⟩ := h5.disk
            obtain ⟨b2, hb2⟩ : ∃ b2, (r2.2.1.f 2).has = b2 := ⟨_, rfl⟩
            rw [hb2] at e4
            have HX1 : Hid (∀ w', Below w5.heap.size w5 w' → Calls Tryd.prog 30 #[.pointer (some ⟨p, 0, none⟩), .int .i64 1] w' fun e w'' => e = .returned (.bool !b2) ∧ Below w'.heap.size w' w'') := fun w' h => by rw [← e4]; exact has_in (hd5.below h) 1 (by omega)
            have HX2 : Hid (∀ w', Below w5.heap.size w5 w' → Calls Tryd.prog 30 #[.pointer (some ⟨p, 0, none⟩), .int .i64 2] w' fun e w'' => e = .returned (.bool b2) ∧ Below w'.heap.size w' w'') := fun w' h => by rw [← hb2]; exact has_in (hd5.below h) 2 (by omega)
            have HX3 : Hid (∀ w', Below w5.heap.size w5 w' → Calls Tryd.prog 30 #[.pointer (some ⟨p, 0, none⟩), .int .i64 3] w' fun e w'' => e = .returned (.bool false) ∧ Below w'.heap.size w' w'') := fun w' h => by rw [← e5]; exact has_in (hd5.below h) 3 (by omega)
            clear h5 g5 e1 e2 e3 e4 e5 hsm hd5 hb2 hck hck2
            go_wp2_with fail
            refine HSM.out.mono ?_
            rintro e w6 ⟨rfl, b6⟩
            have B6 := Lib.hid b6
            have HGN6 := Lib.hid (HGN.out w6 b6)
            rw [hge.out] at HGN6
            clear b6
            go_wp2_with fail
            refine HGN6.out.mono ?_
            rintro e w7 ⟨rfl, rfl⟩
            have hgk : (((k + 2 : Nat) : Int) != (k : Int) + 2) = false := by simp
            go_wp2_with fail
            refine (HX1.out w6 B6.out).mono ?_
            rintro e w7 ⟨rfl, b7⟩
            have B7 := Lib.hid (B6.out.trans (b7.mono B6.out.size))
            clear b7
            go_wp2_with fail
            refine (HX2.out w7 B7.out).mono ?_
            rintro e w8 ⟨rfl, b8⟩
            have B8 := Lib.hid (B7.out.trans (b8.mono B7.out.size))
            clear b8
            have hbe : ((!b2) == b2) = false := by cases b2 <;> rfl
            go_wp2_with fail
            refine (HX3.out w8 B8.out).mono ?_
            rintro e w9 ⟨rfl, b9⟩
            have B9 := Lib.hid (B8.out.trans (b9.mono B8.out.size))
            clear b9 hck5
            go_wp2
            go_roundw
            case rel => exact ⟨k + 1, by omega, by go_num, HB5.out.trans (B9.out.mono HB5.out.size), S5, T5, r2.2.1, L2.anew x, H5.out.below B9.out, HT5.out, hge.out, rfl, by show x.length ≤ 50000; rw [HLX.out]; omega⟩
            case measure => simp [intOf]; omega
    · obtain rfl : k = n := by omega
      obtain ⟨VV, hdd⟩ := HBO.out.disk
      have HO := Lib.hid (log_open hdd (HH.out.below HBB.out) HBO.out.sB)
      have hop := HTU.out.open
      rw [hop] at HO
      have HSZ := Lib.hid HBO.out.size
      clear hdd hop
      go_wp2_with fail
      refine HO.out.mono ?_
      rintro e w5 ⟨S5, u5, m5, -, hyes⟩
      obtain ⟨q5, T5, rfl, h5, hT5⟩ := hyes rfl
      have HG5 := Lib.hid (log_generation h5.log)
      have hg5 : Hid (L.gen = k + 1) := HG.out
      rw [hg5.out] at HG5
      have HB5 : Hid (Below w.heap.size w w5) := HBB.out.trans (u5.toBelow HSZ.out (fun k hk h => by have := HBO.out.sB k h; omega))
      have hgk : (((k + 1 : Nat) : Int) == (k : Int) + 1) = true := by simp
      clear hyes h5 u5 m5 hT5
      go_wp2_with fail
      refine HG5.out.mono ?_
      rintro e w6 ⟨rfl, rfl⟩
      go_wp2
      go_ret
      exact ⟨rfl, HB5.out⟩

theorem turns_far (a0 a1 : Option Addr) (n c0 m c1 : Nat) (w : World) (hH : HalvesAt w) (h : 10 < n ∨ 10 < m) :
    Calls Tryd.prog 6 #[.slice a0 n c0, .slice a1 m c1] w fun e w' => e = .returned (.bool true) ∧ Below w.heap.size w w' := by
  have HH := Lib.hid hH
  clear hH
  by_cases h1 : (10 : Int) < n
  · clear h
    go_enter Tryd.func6, Tryd.ntmps6
    go_wp2_with fail
    refine (log_awake _ HH.out).mono ?_
    rintro e w1 ⟨rfl, b1⟩
    go_wp2_with fail
    refine (log_awake _ (HH.out.below b1)).mono ?_
    rintro e w2 ⟨rfl, b2⟩
    go_wp2
    go_ret
    exact ⟨rfl, b1.trans (b2.mono b1.size)⟩
  · have h2 : (10 : Int) < m := by omega
    clear h
    go_enter Tryd.func6, Tryd.ntmps6
    go_wp2_with fail
    refine (log_awake _ HH.out).mono ?_
    rintro e w1 ⟨rfl, b1⟩
    go_wp2_with fail
    refine (log_awake _ (HH.out.below b1)).mono ?_
    rintro e w2 ⟨rfl, b2⟩
    go_wp2
    go_ret
    exact ⟨rfl, b1.trans (b2.mono b1.size)⟩

theorem turns_contract (W : World) (args : Array Value) (hL : laidMetH Tryd.prog halvesLaid W) (h : Each Tryd.prog W Tryd.f6.params.toList args.toList) :
    Calls Tryd.prog 6 args W fun e W' => e = .returned (.bool true) ∧ Below W.heap.size W W' := by
  rw [Tryd.params6] at h
  obtain ⟨v0, r0, e0, ⟨_, o0⟩, d0, h⟩ := h.cons
  obtain ⟨v1, r1, rfl, ⟨_, o1⟩, d1, h⟩ := h.cons
  obtain rfl := h.nil
  obtain ⟨args⟩ := args
  obtain rfl : args = [v0, v1] := e0
  obtain ⟨a0, n0, c0, rfl, hc0⟩ := val_slice o0 Tryd.underlying33
  rw [hc0] at d0
  obtain ⟨I, hn, hI, _, _⟩ := lists_of d0
  obtain ⟨a1, n1, c1, rfl, hc1⟩ := val_slice o1 Tryd.underlying33
  rw [hc1] at d1
  obtain ⟨R, hm, hR, _, _⟩ := lists_of d1
  have hH := halves_of_laid hL
  by_cases hbig : 10 < n0 ∨ 10 < n1
  · exact turns_far _ _ _ _ _ _ W hH hbig
  · exact turns_near _ _ I R _ _ _ _ W hH hn hI hm hR (by omega) (by omega)

theorem turns_lifted (os : Os) (started : os.Started) (H : Type) (enc : TypeId × Value → H) :
    ReturnsInHanded {} Tryd.checked os 6 .any (fun w args => (Rows.logTurnsSpec.pre enc Tryd.prog Tryd.f6 [] false w args ∧ laidMetH Tryd.prog halvesLaid w) ∧ sizedMet enc Tryd.prog Tryd.f6 (OpenSpec.ofChange Rows.logTurnsSpec) false w args)
      (Rows.logTurnsSpec.post enc Tryd.prog Tryd.f6 false true false false) :=
  law_lifted_laid (C := Tryd.checked) frame_own frame_laidOut (by kernel_rfl) Tryd.func6 rfl (tb := 4) rfl Tryd.underlying4
    (by
      rw [Tryd.params6]; intro t ht; simp at ht
      rcases ht with rfl | rfl <;> exact ⟨by kernel_rfl, of_decide_eq_true (by kernel_rfl)⟩)
    (fun H ds hl => by
      rw [Tryd.params6] at hl
      match ds, hl with
      | [d1, d2], _ => rfl)
    os started H enc
    (ChangeSpec.witness_shaped (enc := enc) (C := Tryd.checked) (os := os) (X := fun w _ => laidMetH Tryd.prog halvesLaid w) false (World.doorLaid Tryd.prog 14 os) #[.slice none 0 0, .slice none 0 0] 8 rfl (World.shaped_of_RefB (by kernel_rfl) (by kernel_rfl)) (by kernel_rfl) (by kernel_rfl) (by kernel_rfl) (door_met os _))
    turns_contract

theorem logTurns_holds : Rows.LogTurnsSaid :=
  OpenClaim.holds_of_wide 6 Tryd.f6 rfl rfl rfl rfl rfl rfl rfl ⟨rfl, rfl, rfl, rfl, rfl⟩ rfl rfl rfl rfl rfl (by kernel_rfl) Tryd.func6 (by kernel_rfl)
    (of_decide_eq_true (by kernel_rfl)) (by unfold Func.isWrapper; first | (rw [if_pos (by decide +kernel)]; kernel_rfl) | (rw [if_neg (by decide +kernel)]; exact ⟨rfl, rfl⟩))
    (fun os started H enc _ => turns_lifted os started H enc)

theorem logTurns_card : Rows.LogTurnsCardSaid :=
  Claim7.holds_tied_plain_at .later [] [.data] true _ false
    logTurns_holds (fun _ h => by cases h) (by kernel_rfl) (fun _ h => by cases h) logTurns_row_tie rfl ⟨rfl, rfl⟩ (by kernel_rfl) rfl
    (fun f fn hf hfn => by
      obtain rfl : f = 6 := Option.some.inj ((show Tryd.prog.funcNamed "recoup/recouplaw04.LogTurns" = some 6 by kernel_rfl).symm.trans hf) |>.symm
      obtain rfl : fn = Tryd.f6 := (Option.some.inj (Tryd.func6.symm.trans hfn)).symm
      exact ⟨by kernel_rfl, fun j t ht => by
        rw [Tryd.params6] at ht
        have hm : t ∈ [33, 33] := by simpa using Array.mem_of_getElem? ht
        have hall : ([33, 33].all fun u => !Tryd.prog.wantsStandIn u) = true := by kernel_rfl
        exact (show Tryd.prog.wantsStandIn t = false by simpa using List.all_eq_true.1 hall t hm)⟩)
    (by kernel_rfl)
#print axioms logTurns_card
end Go.Proofs.YtfoapnclfipkiaaDoor
