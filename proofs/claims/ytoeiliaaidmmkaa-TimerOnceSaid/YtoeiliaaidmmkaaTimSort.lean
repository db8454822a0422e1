/-
  Slices of timers: what a row of them reads as; sorted; cloned. Conditions: those of each theorem.
-/
import Derived.Test.YtoeiliaaidmmkaaTim
import Derived.Test.YtoeiliaaidmmkaaTimLay
namespace Go.Proofs.Ytoeiliaaidmmkaa
open Go.RowKit Go.Sort Go.Shelf
set_option maxRecDepth 100000

/-- A row of timers that is read. -/
def TRow (w : World) (a : Option Addr) (xs : List Tm) : Prop :=
  xs = [] ∨ ∃ b o, a = some ⟨b, o, none⟩ ∧ b < w.heap.size ∧ ∀ i, i < xs.length → w.cell? ⟨b, o + i * 2, none⟩ = some (.int .i64 (tget xs i).1) ∧ w.cell? ⟨b, o + i * 2 + 1, none⟩ = some (.int .i64 (tget xs i).2)
theorem TRow.upd {S : Nat → Prop} {w w' : World} {a : Option Addr} {xs : List Tm} (h : TRow w a xs) (hu : Upd S w w') (hn : ∀ b o, a = some ⟨b, o, none⟩ → ¬ S b) : TRow w' a xs := by
  rcases h with h | ⟨b, o, h1, h2, h3⟩
  · exact .inl h
  · exact .inr ⟨b, o, h1, Nat.lt_of_lt_of_le h2 hu.size, fun i hi => ⟨(hu.cell (p := ⟨b, o + i * 2, none⟩) h2 (hn b o h1)).trans (h3 i hi).1, (hu.cell (p := ⟨b, o + i * 2 + 1, none⟩) h2 (hn b o h1)).trans (h3 i hi).2⟩⟩
theorem TRow.below {w w' : World} {a : Option Addr} {xs : List Tm} (h : TRow w a xs) (hb : Below w.heap.size w w') : TRow w' a xs := h.upd (S := fun _ => False) (Upd.below hb) (fun _ _ _ x => x)
theorem trow_own {w : World} {base n c : Nat} {a : Option Addr} {xs : List Tm} (h : w.ownsRow base 35 2 (.slice a n c) n (tcells xs)) (hn : xs.length = n) : TRow w a xs := by
  have hx := fun g (e : (Value.slice a n c).ownBlock = some g) => own_in h e
  rcases h.2 with ⟨h2, h3⟩ | ⟨g', cap, cur, h2, h3, h4, h5, h6, h7, h8⟩
  · exact .inl (List.length_eq_zero_iff.1 (by omega))
  · injection h2 with e1 e2 e3
    subst e1 e3
    refine .inr ⟨g', 0, rfl, hx g' rfl, fun i hi => ?_⟩
    obtain ⟨x1, x2⟩ := tcells_get xs i hi
    rw [Nat.zero_add]
    exact ⟨(h.cellAt (i * 2) (by omega)).trans x1, (h.cellAt (i * 2 + 1) (by omega)).trans x2⟩

instance : Inhabited Tm := ⟨(0, 0)⟩
theorem tlt_of (x y : Tm) : ltOf tcmp x y = tlt x y := tcmp_neg x y
theorem tcmp_swo : SWO (ltOf tcmp) where
  irrefl x := by rw [tlt_of]; exact tlt_self x
  trans x y z h1 h2 := by rw [tlt_of] at *; exact tlt_trans h1 h2
  ntrans x y z h1 h2 := by rw [tlt_of] at *; exact tge_trans (a := z) (b := y) (c := x) h2 h1
/-- By day, of the same day by number, no two the same. -/
def Srt (xs : List Tm) : Prop := xs.Pairwise (fun x y => tlt x y = true)
theorem srt_unique {xs ys : List Tm} (hx : xs.Pairwise (fun x y => tlt y x = false)) (hy : Srt ys) (hp : xs.Perm ys) : xs = ys :=
  List.Perm.eq_of_pairwise (le := fun x y => tlt y x = false) (fun a b _ _ h1 h2 => by
    obtain ⟨a1, a2⟩ := a
    obtain ⟨b1, b2⟩ := b
    rw [tge_iff] at h1 h2
    dsimp only at h1 h2
    have e1 : a1 = b1 := by omega
    have e2 : a2 = b2 := by omega
    rw [e1, e2]) hx (List.Pairwise.imp tge_of_lt hy) hp

theorem enc_flat (xs : List Tm) (j : Nat) (h : j < xs.length * 2) : (tcells xs)[j]? = some ((flatK enc2 2 xs.toArray)[j]!) := by
  rw [get_flatK enc2 2 xs.toArray j (by simpa using h)]
  have hk : j / 2 < xs.length := by omega
  obtain ⟨h1, h2⟩ := tcells_get xs (j / 2) hk
  have e : (xs.toArray)[j / 2]! = tget xs (j / 2) := by
    rw [getElem!_pos _ _ (by simpa using hk), tget_eq hk]
    simp
  rw [e]
  have hm : j % 2 = 0 ∨ j % 2 = 1 := by omega
  rcases hm with hm | hm
  · rw [hm, show j = j / 2 * 2 by omega]
    rw [show j / 2 * 2 / 2 = j / 2 by omega]
    exact h1
  · rw [hm, show j = j / 2 * 2 + 1 by omega]
    rw [show (j / 2 * 2 + 1) / 2 = j / 2 by omega]
    exact h2

theorem sort_tm {w : World} {base g n c : Nat} {xs : List Tm} (h : w.ownsRow base 35 2 (.slice (some ⟨g, 0, none⟩) n c) n (tcells xs)) (hn : xs.length = n) (hfew : n ≤ 1000) {ws : List Tm} (hs : Srt ws) (hp : ws.Perm xs) :
    Calls Try.prog 25 #[.slice (some ⟨g, 0, none⟩) n c, .func (.func 26) #[] #[]] w fun e w' => e = .returned (.tuple #[]) ∧ TRow w' (some ⟨g, 0, none⟩) ws ∧ Upd (fun k => k = g) w w' := by
  subst hn
  have hg : g < w.heap.size := own_in h rfl
  have hH : HoldsK enc2 2 w g 0 xs.toArray := fun j hj => by
    have hj' : j < xs.length * 2 := by simpa using hj
    rw [Nat.zero_add]
    exact ⟨(h.cellAt j hj').trans (enc_flat xs j hj'), h.frozenAt j⟩
  have eg : ∀ args w, (callFunc 26 args).run Try.prog w = .ok (.enter 26 args) w := enters_of Try.func26 (by kernel_rfl) rfl
  have hcon := AnyQ.slices_SortFunc sf 2 Try.isAgg35 Try.sizeOf35 enc2 (fun _ => rfl) (fun x v hv => by simp [enc2] at hv; rcases hv with rfl | rfl <;> rfl) tcmp tcmp_swo 26 #[] g 0 c xs.toArray w eg (fun _ _ _ _ x y => tim_compare x y _) hH hg (by simp; omega)
  change Calls Try.prog 25 _ _ _ at hcon
  simp only [List.size_toArray] at hcon
  refine hcon.mono fun e w' ⟨he, d', m, os, hpm, hsd, hw⟩ => ⟨he, ?_, ?_⟩
  · have hsz : d'.size = xs.length := by simpa using hpm.1
    have hd : d'.toList = ws := by
      refine srt_unique ?_ hs ?_
      · rw [List.pairwise_iff_getElem]
        intro i j hi hj hij
        have := hsd i j (Nat.zero_le _) hij (by rw [← hsz]; simpa using hj)
        rw [tlt_of] at this
        rw [getElem!_pos d' i (by simpa using hi), getElem!_pos d' j (by simpa using hj)] at this
        simpa using this
      · have h2 := hpm.2.2
        have e1 : d'.extract 0 xs.length = d' := by rw [← hsz]; simp
        have e2 : xs.toArray.extract 0 xs.length = xs.toArray := by simp
        rw [e1, e2] at h2
        exact (h2.trans (by simp)).trans hp.symm
    have hHH := holdsK_sortWorldK_c enc2 2 w g 0 xs.toArray d' m os hH hg (by simpa using hsz)
    rw [← hw] at hHH
    by_cases h0 : ws = []
    · exact .inl h0
    · refine .inr ⟨g, 0, rfl, ?_, fun i hi => ?_⟩
      · rw [hw]
        exact Nat.lt_of_lt_of_le hg (size_sortWorldK_c enc2 2 w g 0 m d' os)
      · have hi2 : i < d'.size := by
          have := congrArg List.length hd
          simp at this
          omega
        have e3 : d'[i]! = tget ws i := by
          rw [getElem!_pos d' i hi2, tget_eq hi]
          simp only [← hd]
          simp
        have q0 := hHH (i * 2) (by simp; omega)
        have q1 := hHH (i * 2 + 1) (by simp; omega)
        rw [get_flatK _ _ _ _ (by omega), show i * 2 / 2 = i by omega, show i * 2 % 2 = 0 by omega, e3] at q0
        rw [get_flatK _ _ _ _ (by omega), show (i * 2 + 1) / 2 = i by omega, show (i * 2 + 1) % 2 = 1 by omega, e3] at q1
        rw [Nat.add_assoc]
        exact ⟨q0.1, q1.1⟩
  · rw [hw]
    unfold sortWorldK putRowK
    refine ⟨rfl, rfl, rfl, ?_, fun k hk hne => ?_⟩
    · rw [size_grow]
      simp [putRow, mapBlock]
    · rw [heap_grow_old _ _ (by simpa [putRow, mapBlock] using hk)]
      simp only [putRow, mapBlock]
      rw [Array.getElem?_modify, if_neg (fun e => hne e.symm)]
      rfl
theorem sort_none (p : Option Addr) (c : Nat) (w : World) :
    Calls Try.prog 25 #[.slice p 0 c, .func (.func 26) #[] #[]] w fun e w' => e = .returned (.tuple #[]) ∧ w' = w :=
  AnyF.slices_SortFunc_none sf p c _ w

theorem tcells_one (xs : List Tm) : ∀ u ∈ tcells xs, u.oneCell' = true := by
  intro u hu
  unfold tcells at hu
  obtain ⟨x, _, hu⟩ := List.mem_flatMap.1 hu
  simp only [List.mem_cons, List.not_mem_nil, or_false] at hu
  rcases hu with rfl | rfl <;> rfl
theorem clone_tm {w : World} {b o n c : Nat} {xs : List Tm} (h : TRow w (some ⟨b, o, none⟩) xs) (hn : xs.length = n) (hfew : n ≤ 1000) :
    Calls Try.prog 24 #[.slice (some ⟨b, o, none⟩) n c] w fun e w' => ∃ g' c', e = .returned (.slice (some ⟨g', 0, none⟩) n c') ∧ w'.ownsRow w.heap.size 35 2 (.slice (some ⟨g', 0, none⟩) n c') n (tcells xs) ∧ Below w.heap.size w w' := by
  subst hn
  obtain ⟨i0, hi, hz0, hz1, hz2⟩ := info_parts (show (Try.prog.info? 35).map (fun i => (i.zero, i.size, i.bytes)) = some (some (.agg #[.int .i64 0, .int .i64 0]), 2, 16) by kernel_rfl)
  have hcon := AnyE.slices_Clone sc i0 (.agg #[.int .i64 0, .int .i64 0]) 2 16 hi hz0 hz1 hz2 rfl (by decide) Try.sizeOf35 b o xs.length c (tcells xs) w (tcells_length xs) (by unfold maxLen; omega) (by omega) (fun j u hj => ?_) (tcells_one xs)
  · refine hcon.mono fun e w' ⟨v, he, ho, hv, hb⟩ => ?_
    rcases ho.2 with ⟨h2, _⟩ | ⟨g', cap, cur, h2, _⟩
    · exact absurd h2 hv
    · subst h2
      exact ⟨g', cap, he, ho, hb⟩
  · have hjl := (List.getElem?_eq_some_iff.1 hj).1
    rw [tcells_length] at hjl
    rcases h with h | ⟨b', o', h1, h2, h3⟩
    · subst h; simp at hjl
    · injection h1 with h1
      injection h1 with e1 e2
      subst e1 e2
      obtain ⟨x1, x2⟩ := tcells_get xs (j / 2) (by omega)
      obtain ⟨y1, y2⟩ := h3 (j / 2) (by omega)
      have hm : j % 2 = 0 ∨ j % 2 = 1 := by omega
      rcases hm with hm | hm
      · rw [show j / 2 * 2 = j by omega] at x1 y1
        rw [x1] at hj
        injection hj with hj
        rw [← hj]
        exact y1
      · rw [show o + j / 2 * 2 + 1 = o + j by omega] at y2
        rw [show j / 2 * 2 + 1 = j by omega] at x2
        rw [x2] at hj
        injection hj with hj
        rw [← hj]
        exact y2
theorem clone_tm_nil (n c : Nat) (w : World) : Calls Try.prog 24 #[.slice none n c] w fun e w' => e = .returned (.slice none 0 0) ∧ w' = w :=
  AnyE.slices_Clone_nil sc n c w
theorem clone_map {w : World} {b n : Nat} {ix : Int → Option Nat} (h : MapIs w b n ix) :
    Calls Try.prog 27 #[.map (some b)] w fun e w' => e = .returned (.map (some w.heap.size)) ∧ MapIs w' w.heap.size n ix ∧ Below w.heap.size w w' := by
  obtain ⟨D, h1, h2⟩ := h
  exact (AnyW.maps_Clone_owns mc 3 (plainElem Try.prog 3) b n D w h1).mono fun e w' ⟨he, r1, r2, r3⟩ => ⟨he, ⟨D, r1, h2⟩, r3⟩
theorem clone_map_nil (w : World) : Calls Try.prog 27 #[.map none] w fun e w' => e = .returned (.map none) ∧ w' = w :=
  AnyW.maps_Clone_nil mc w
end Go.Proofs.Ytoeiliaaidmmkaa
