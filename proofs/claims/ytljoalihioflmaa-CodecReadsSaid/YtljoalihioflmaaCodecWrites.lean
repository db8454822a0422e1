/-
  CodecWrites: whatever is put, the bytes are what the document says, or it is bad, for good. No conditions: every input.
-/
import Derived.Test.YtljoalihioflmaaItemsC
import Derived.Test.YtljoalihioflmaaCodecMost
namespace Go.Proofs.Ytljoalihioflmaa
open Go.RowKit Go.WideShapes
set_option maxRecDepth 100000

theorem addB_true (ys xs : List UInt8) : addB ys true xs = [] := rfl
theorem addB_false (ys xs : List UInt8) : addB ys false xs = ys ++ xs := rfl
theorem putN_is (ys : List UInt8) (bad : Bool) (v : Int) (n : Nat) : putN ys bad v n = if bad || !fits v n then ([], true) else (ys ++ le v n, false) := by
  unfold putN
  cases hf : fits v n <;> cases bad <;> simp [addB]
/-- What an Out holds behind an item: the item's bytes behind, unless it is bad. -/
theorem putItem_is (ys : List UInt8) (bad : Bool) (x : Item) (hV : I64 x.V) : putItem ys bad x = if bad || !okB x then ([], true) else (ys ++ docB x, false) := by
  have hw : ∀ n, fits x.V n = true → le (IntKind.u64.wrap x.V) n = le x.V n := fun n h => by rw [u64_pos hV (fits_pos h)]
  have num : ∀ n, putN ys bad x.V n = if bad || !fits x.V n then ([], true) else (ys ++ le (IntKind.u64.wrap x.V) n, false) := by
    intro n
    rw [putN_is]
    cases hf : fits x.V n
    · simp
    · rw [hw n hf]
  unfold putItem okB docB
  by_cases k0 : x.kind = 0
  · simp only [k0, if_true]; exact num 1
  by_cases k1 : x.kind = 1
  · simp only [k1]; exact num 2
  by_cases k2 : x.kind = 2
  · simp only [k2]; exact num 4
  by_cases k3 : x.kind = 3
  · simp only [k3]; cases bad <;> rfl
  by_cases k4 : x.kind = 4
  · simp only [k4]
    have e1 : fits (flagI x.F) 1 = true := by cases x.F <;> decide
    have e2 : le (flagI x.F) 1 = [if x.F then 1 else 0] := by cases x.F <;> decide
    have := putN_is ys bad (flagI x.F) 1
    rw [e1, e2] at this
    simpa using this
  by_cases k5 : x.kind = 5
  · simp only [k5]
    have e1 : fits (x.B.length : Int) 2 = decide (x.B.length < 65536) := by
      have : (2 : Int) ^ (8 * 2) = 65536 := by decide
      have h0 : (0 : Int) ≤ (x.B.length : Nat) := by omega
      rw [Bool.eq_iff_iff]
      simp only [fits, this, h0, decide_true, Bool.true_and, decide_eq_true_eq]
      omega
    have := putN_is ys bad (x.B.length : Int) 2
    rw [e1] at this
    simp only [putB, this]
    cases bad <;> cases decide (x.B.length < 65536) <;> simp [addB]
  · simp only [k0, k1, k2, k3, k4, k5, if_false]; cases bad <;> simp [addB]

theorem docB_len (x : Item) : (docB x).length ≤ x.B.length + 8 := by
  unfold docB
  split
  · rw [le_length]; omega
  split
  · rw [le_length]; omega
  split
  · rw [le_length]; omega
  split
  · rw [le_length]; omega
  split
  · simp
  split
  · rw [List.length_append, le_length]; omega
  · omega

set_option maxHeartbeats 800000 in
theorem bytes_in (k V L : Int) (F : Bool) (a : Option Addr) (B : List UInt8) (c : Nat) (w : World) (hk : 0 ≤ k) (hx : IsBytes w a B) (hnc : a = none → c = 0) (hl : B.length ≤ 1000000) :
    Calls Try.prog 34 #[.agg #[.int .u8 k, .int .i64 V, .int .i64 L, .bool F, .slice a B.length c]] w (BytesOut w (docB ⟨k, V, L, F, B⟩) (okB ⟨k, V, L, F, B⟩)) := by
  by_cases k0 : k = 0
  · subst k0; exact bytes_k0 V L F a B c w
  by_cases k1 : k = 1
  · subst k1; exact bytes_k1 V L F a B c w
  by_cases k2 : k = 2
  · subst k2; exact bytes_k2 V L F a B c w
  by_cases k3 : k = 3
  · subst k3; exact bytes_k3 V L F a B c w
  by_cases k4 : k = 4
  · subst k4; exact bytes_k4 V L F a B c w
  by_cases k5 : k = 5
  · subst k5; exact bytes_k5 V L F a B c w hx hnc hl
  have e1 : docB ⟨k, V, L, F, B⟩ = B := by simp only [docB, k0, k1, k2, k3, k4, k5, if_false]
  have e2 : okB ⟨k, V, L, F, B⟩ = true := by simp only [okB, k0, k1, k2, k5, if_false]
  rw [e1, e2]
  exact bytes_k6 k V L F a B c w (by omega) hx hnc

set_option maxHeartbeats 800000 in
theorem writes_far (a : Option Addr) (xs : List Item) (n c : Nat) (w : World) (hn : xs.length = n) (hx : Items w a xs) (hm : n ≤ maxLen) (hf : fewB xs = false) :
    Calls Try.prog 7 #[.slice a n c] w fun e w' => e = .returned (.bool true) ∧ Below w.heap.size w w' := by
  have HF := Lib.hid hf
  clear hf
  go_enter Try.func7, Try.ntmps7
  go_wp2_with fail
  refine (codec_awake _).mono ?_
  rintro e w1 ⟨rfl, b1⟩
  go_wp2_with fail
  refine (few_in a xs n c w1 hn (hx.below b1) hm).mono ?_
  rintro e w2 ⟨rfl, rfl⟩
  rw [HF.out]
  go_wp2_with fail
  refine (codec_awake _).mono ?_
  rintro e w2 ⟨rfl, b2⟩
  go_wp2
  go_ret
  exact ⟨rfl, b1.trans (b2.mono b1.size)⟩

theorem own_lt {w : World} {base : Nat} {e : TypeId} {size : Nat} {v : Value} {n : Nat} {xs : List Value} (h : w.ownsRow base e size v n xs) {g : Nat} (hg : v.ownBlock = some g) : g < w.heap.size := by
  rcases h.2 with ⟨hv, _⟩ | ⟨g', cap, cur, hv, _, hh, _⟩
  · subst hv; cases hg
  · subst hv
    obtain rfl : g' = g := by simpa [Value.ownBlock] using hg
    exact (Array.getElem?_eq_some_iff.1 hh).1
theorem item_cells {w w' : World} {b o c : Nat} {x : Item} {a : Option Addr} (h : ItemAt w b o x a c) (hw : ∀ o, w'.cell? ⟨b, o, none⟩ = w.cell? ⟨b, o, none⟩) :
    ∀ j v, (#[.int .u8 x.kind, .int .i64 x.V, .int .i64 x.L, .bool x.F, .slice a x.B.length c] : Array Value)[j]? = some v → w'.cell? ⟨b, o + j, none⟩ = some v := by
  intro j v hj
  rw [hw]
  match j, hj with
  | 0, hj => rw [Nat.add_zero, h.c0]; simpa using hj
  | 1, hj => rw [h.c1]; simpa using hj
  | 2, hj => rw [h.c2]; simpa using hj
  | 3, hj => rw [h.c3]; simpa using hj
  | 4, hj => rw [h.c4]; simpa using hj
  | j + 5, hj => simp at hj
theorem info_item : (Try.prog.info? 60).map (·.size) = some 5 := by kernel_rfl
/-- The statement's own state ahead of a round. -/
structure Round (w wr : World) (p : Nat) (xs : List Item) (k : Nat) (v : Value) (bad : Bool) : Prop where
  below : Below w.heap.size w wr
  mem : ∃ S ys zs m, OutAt wr p S ys bad ∧ (∀ k, S k → w.heap.size ≤ k) ∧ (bad = false → zs = ys) ∧ zs.length = m ∧ m ≤ sumB (xs.take k) + 8 * k ∧
    (∃ a c, v = .slice a m c) ∧ wr.ownsRow w.heap.size 5 1 v m (zs.map bval) ∧ ∀ g, v.ownBlock = some g → ¬ S g

set_option maxHeartbeats 3200000 in
theorem writes_near (a : Option Addr) (xs : List Item) (n c : Nat) (w : World) (hn : xs.length = n) (hx : Items w a xs) (hm : n ≤ maxLen) (hf : fewB xs = true) :
    Calls Try.prog 7 #[.slice a n c] w fun e w' => e = .returned (.bool true) ∧ Below w.heap.size w w' := by
  have hn60 : n ≤ 60 := by simp [fewB] at hf; omega
  have hsum : sumB xs ≤ 200000 := by simp [fewB] at hf; omega
  have HF := Lib.hid hf
  have HN := Lib.hid hn
  clear hf hn
  go_enter Try.func7, Try.ntmps7
  go_wp2_with fail
  refine (codec_awake _).mono ?_
  rintro e w1 ⟨rfl, b1⟩
  go_wp2_with fail
  refine (few_in a xs n c w1 HN.out (hx.below b1) hm).mono ?_
  rintro e w2 ⟨rfl, rfl⟩
  rw [HF.out]
  have hs1 := b1.size
  go_wp2_with fail
  go_loopw [4, 5, 6, 7, 8, 9, 10, 21] (fun v bd _ _ _ _ _ i wr => ∃ k : Nat, k ≤ n ∧ i = .int .i64 k ∧ ∃ bad : Bool, bd = .bool bad ∧ Round w wr w1.heap.size xs k v bad) (fun _ _ _ _ _ _ _ i _ => n - (intOf i).toNat)
  case atStart =>
    refine ⟨0, Nat.zero_le _, rfl, false, rfl, b1.trans ((Below.refl _ _).alloc hs1 _), _, [], [], 0, OutAt.new w1, fun k hk => ?_, fun _ => rfl, rfl, Nat.zero_le _, ⟨none, 0, rfl⟩, World.ownsRow_nil _ _ _ _, fun g hg => by simp [Value.ownBlock] at hg⟩
    have h9 : k = w1.heap.size := hk
    omega
  case round =>
    obtain ⟨k, hk, rfl, bad, rfl, ⟨hB, S, ys, zs, m, ho, hS, hzy, hzl, hml, ⟨av, cv, rfl⟩, hr, hd⟩⟩ := hrel
    by_cases hlt2 : k < n
    · rcases hx with h0 | ⟨b, off, rfl, hb, hi⟩
      · have := HN.out; rw [h0] at this; simp at this; omega
      have hlk : k < xs.length := by rw [HN.out]; exact hlt2
      obtain ⟨ad, cc, hit⟩ := hi k hlk
      have hsk := sumB_take xs k hlk
      have hmo := sumB_mono xs (k + 1)
      generalize xs[k] = x at *
      obtain ⟨kd, V, L, F, Bs⟩ := x
      have hkd := hit.kind.1
      have hV := hit.v64
      have hnil := hit.nil
      have hby := hit.bytes
      have cw : ∀ {w' : World}, Below w.heap.size w w' → ∀ o, w'.cell? ⟨b, o, none⟩ = w.cell? ⟨b, o, none⟩ := fun h o => h.cell (p := ⟨b, o, none⟩) hb
      have HIT := Lib.hid hit
      simp only at hsk hkd hV hnil hby
      have hBl : Bs.length ≤ 200000 := by omega
      have HSK := Lib.hid hsk
      have hyl : ys.length ≤ 1000000 := by
        cases bad with
        | true => rw [ho.ok rfl]; simp
        | false => rw [← hzy rfl, hzl]; omega
      clear hi hit hsk
      have hk0 : (0 : Int) ≤ (k : Int) := by omega
      have hkn : (k : Int) < (n : Int) := by omega
      have hbS : Bs ≠ [] → ∀ x, ad = some x → ¬ S x.block := fun h0 x e hs => by
        have h1 := hS _ hs
        rcases hby with h | ⟨b', o', e', hb', _⟩
        · exact h0 h
        · rw [e] at e'; injection e' with e'; subst e'; exact absurd hb' (by simp; omega)
      have HBY := Lib.hid hby
      have hbyr : IsBytes wr ad Bs := hby.upd (below_upd (fun _ => False) hB) (fun _ _ _ h => h)
      clear hby
      have hcs := item_cells HIT.out (cw hB)
      go_wp2_with (refine wpList_load_cells rfl 60 _ rfl b (off + k * 5) rfl #[.int .u8 kd, .int .i64 V, .int .i64 L, .bool F, .slice ad Bs.length cc] _ hcs Try.underlying60 rfl info_item ?_)
      refine (put_in ho kd V L F ad Bs cc hV hbyr hnil hbS hyl (by omega)).mono ?_
      rintro e w2 ⟨rfl, S2, h2, u2, m2⟩
      rw [putItem_is ys bad _ hV] at h2
      have B2 : Below w.heap.size w w2 := hB.trans (upd_below u2 hB.size hS)
      have hS2 : ∀ k, S2 k → w.heap.size ≤ k := fun k hk => (m2 k hk).elim (hS k) (fun h => Nat.le_trans hB.size h)
      have hr2 := ownsRow_upd hr u2 hd
      have hd2 : ∀ g, (Value.slice av m cv).ownBlock = some g → ¬ S2 g := fun g hg hs => by
        rcases m2 g hs with h | h
        · exact hd g hg h
        · have := own_lt hr hg; omega
      clear hcs
      have hcs := item_cells HIT.out (cw B2)
      have hby2 : IsBytes w2 ad Bs := HBY.out.upd (below_upd (fun _ => False) B2) (fun _ _ _ h => h)
      clear hbS hbyr u2 m2 hr hd ho hS
      go_wp2_with (refine wpList_load_cells rfl 60 _ rfl b (off + k * 5) rfl #[.int .u8 kd, .int .i64 V, .int .i64 L, .bool F, .slice ad Bs.length cc] _ hcs Try.underlying60 rfl info_item ?_)
      refine (bytes_in kd V L F ad Bs cc w2 hkd hby2 hnil (by omega)).mono ?_
      rintro e w3 ⟨a3, c3, rfl, hb3, hn3, b3⟩
      have B3 : Below w.heap.size w w3 := B2.trans (b3.mono B2.size)
      have hr3 := ownsRow_upd hr2 (below_upd (fun _ => False) b3) (fun _ _ h => h)
      have h3 := h2.below b3
      have hdl := docB_len ⟨kd, V, L, F, Bs⟩
      simp only at hdl
      generalize okB ⟨kd, V, L, F, Bs⟩ = ok at *
      generalize docB ⟨kd, V, L, F, Bs⟩ = ds at *
      clear h2 hr2 hby2 hcs b3
      have hmk := sumB_mono xs k
      have hap : m + ds.length ≤ 140737488355328 := by omega
      have hB3s := B3.size
      have hml2 : m + ds.length ≤ sumB (xs.take (k + 1)) + 8 * (k + 1) := by have := HSK.out; omega
      have HZL := Lib.hid hzl
      clear hzl
      by_cases hgood : bad = false ∧ ok = true
      · obtain ⟨rfl, rfl⟩ := hgood
        have HZY := Lib.hid (hzy rfl)
        clear hzy
        simp only [Bool.not_true, Bool.or_false, Bool.false_eq_true, if_false] at h3
        go_wp2_with (at_builtin; refine wpList_append_bytes rfl _ _ 31 rfl w.heap.size 5 Try.underlying31 u8_info (.slice av m cv) m zs rfl hr3 a3 ds ds.length rfl c3 rfl hb3 hn3 hap hB3s ?_; intro a4 c4 w4 hr4 hg4 hn4)
        have B4 : Below w.heap.size w w4 := B3.grown hg4 hB3s (fun _ h => own_ge hr3 h)
        have h4 := h3.upd (T := fun k => (Value.slice av m cv).ownBlock = some k) ((Upd.refl _ _).grown hg4 (fun k hk => .inl hk)) (fun k hk e => hd2 k e hk)
        have hd4 : ∀ g, (Value.slice a4 (m + ds.length) c4).ownBlock = some g → ¬ S2 g := fun g hg hs => by
          rcases hn4 g hg with h | h
          · exact hd2 g h hs
          · have := h3.lt g hs; omega
        refine (end_in h4 (by first | (simp; done) | (simp; omega))).mono ?_
        rintro e w5 ⟨⟨a5, c5, rfl, hr5⟩, b5⟩
        have B5 : Below w.heap.size w w5 := B4.trans (b5.mono B4.size)
        have e0 : endE false = 0 := rfl
        rw [e0]
        obtain ⟨g1, _, g3, g4, g5⟩ := bytes_of_row hr5
        obtain ⟨f1, f2, f3, f4, f5⟩ := bytes_of_row hr4
        have f1' : IsBytes w5 a4 (zs ++ ds) := f1.upd (below_upd (fun _ => False) b5) (fun _ _ _ h => h)
        have HF2 := Lib.hid f2
        clear f2 f1 f3 f4 f5 g3 g4 g5 hr5
        go_wp2_with fail
        refine (bytes_any a5 a4 (ys.length + ds.length) (m + ds.length) c5 c4 (ys ++ ds) (zs ++ ds) w5 List.length_append HF2.out.symm g1 f1' (by unfold maxLen; omega) (by unfold maxLen; omega)).mono ?_
        rintro e w6 ⟨rfl, b6⟩
        have ed : decide (ys ++ ds = zs ++ ds) = true := by rw [HZY.out]; simp
        rw [ed]
        clear ed
        go_wp2
        go_roundw
        case rel =>
          have b46 := b5.trans (b6.mono b5.size)
          refine ⟨k + 1, by omega, by go_num, false, rfl, B5.trans (b6.mono B5.size), S2, ys ++ ds, zs ++ ds, m + ds.length, h4.below b46, hS2, fun _ => by rw [HZY.out], by rw [List.length_append, HZL.out], hml2, ⟨a4, c4, rfl⟩, ?_, hd4⟩
          exact ownsRow_upd (S := fun _ => False) hr4 (below_upd _ b46) (fun _ _ h => h)
        case measure => simp [intOf]; omega
      · have hbad : (bad || !ok) = true := by cases bad <;> cases ok <;> simp_all
        rw [hbad] at h3
        simp only [if_true] at h3
        clear hgood
        have hcase : bad = true ∨ (bad = false ∧ ok = false) := by cases bad <;> cases ok <;> simp_all
        clear hbad hzy
        rcases hcase with rfl | ⟨rfl, rfl⟩
        all_goals
          go_wp2_with (at_builtin; refine wpList_append_bytes rfl _ _ 31 rfl w.heap.size 5 Try.underlying31 u8_info (.slice av m cv) m zs rfl hr3 a3 ds ds.length rfl c3 rfl hb3 hn3 hap hB3s ?_; intro a4 c4 w4 hr4 hg4 hn4)
          have B4 : Below w.heap.size w w4 := B3.grown hg4 hB3s (fun _ h => own_ge hr3 h)
          have h4 := h3.upd (T := fun k => (Value.slice av m cv).ownBlock = some k) ((Upd.refl _ _).grown hg4 (fun k hk => .inl hk)) (fun k hk e => hd2 k e hk)
          have hd4 : ∀ g, (Value.slice a4 (m + ds.length) c4).ownBlock = some g → ¬ S2 g := fun g hg hs => by
            rcases hn4 g hg with h | h
            · exact hd2 g h hs
            · have := h3.lt g hs; omega
          refine (end_in h4 (by first | (simp; done) | (simp; omega))).mono ?_
          rintro e w5 ⟨⟨a5, c5, rfl, hr5⟩, b5⟩
          have B5 : Below w.heap.size w w5 := B4.trans (b5.mono B4.size)
          have e0 : endE true = 2 := rfl
          rw [e0]
          have e1 : ([] : List UInt8).length = 0 := rfl
          rw [e1]
          clear hr5
          go_wp2
          go_roundw
          case rel =>
            refine ⟨k + 1, by omega, by go_num, true, rfl, B5, S2, [], zs ++ ds, m + ds.length, h4.below b5, hS2, (fun h => by cases h), by rw [List.length_append, HZL.out], hml2, ⟨a4, c4, rfl⟩, ?_, hd4⟩
            exact ownsRow_upd (S := fun _ => False) hr4 (below_upd _ b5) (fun _ _ h => h)
          case measure => simp [intOf]; omega
    · obtain rfl : k = n := by omega
      go_wp2
      go_ret
      exact ⟨rfl, hB⟩
theorem writes_contract (W : World) (args : Array Value) (h : Each Try.prog W Try.f7.params.toList args.toList) :
    Calls Try.prog 7 args W fun e W' => e = .returned (.bool true) ∧ Below W.heap.size W W' := by
  rw [Try.params7] at h
  obtain ⟨v, hv, ⟨base, hok⟩, hr⟩ := each_one h
  obtain ⟨args⟩ := args
  obtain rfl : args = [v] := hv
  obtain ⟨a, n, c, rfl, hc0⟩ := val_slice hok Try.underlying53
  rw [hc0] at hr
  obtain ⟨xs, hn, hx, hm⟩ := items_of hr
  by_cases hf : fewB xs = true
  · exact writes_near a xs n c W hn hx hm hf
  · exact writes_far a xs n c W hn hx hm (by simpa using hf)

theorem writes_lifted (os : Os) (started : os.Started) (H : Type) (enc : TypeId × Value → H) :
    ReturnsInHanded {} Try.checked os 7 .any (Rows.codecWritesSpec.pre6 enc Try.prog Try.f7 Rows.codecWritesRow.domain false) (Rows.codecWritesSpec.post enc Try.prog Try.f7 false true false false) :=
  law_lifted (C := Try.checked) codec_own codec_laidOut (by kernel_rfl) Try.func7 rfl (tb := 4) rfl Try.underlying4
    (by rw [Try.params7]; intro t ht; simp at ht; subst ht; exact ⟨by kernel_rfl, of_decide_eq_true (by kernel_rfl)⟩)
    (fun H ds hl => by
      rw [Try.params7] at hl
      match ds, hl with
      | [d], _ => rfl)
    os started H enc
    (ChangeSpec.witness6 (enc := enc) (C := Try.checked) false ⟨#[], #[.slice none 0 0], []⟩ 8 (by kernel_rfl) (by kernel_rfl) (by kernel_rfl) (by kernel_rfl))
    writes_contract

theorem codecWrites_holds : Rows.CodecWritesSaid :=
  OpenClaim.holds_of_wide 7 Try.f7 rfl rfl rfl rfl rfl rfl rfl ⟨rfl, rfl, rfl, rfl, rfl⟩ rfl rfl rfl rfl rfl (by kernel_rfl) Try.func7 (by kernel_rfl)
    (of_decide_eq_true (by kernel_rfl)) (by unfold Func.isWrapper; first | (rw [if_pos (by decide +kernel)]; kernel_rfl) | (rw [if_neg (by decide +kernel)]; exact ⟨rfl, rfl⟩))
    (fun os started H enc _ => writes_lifted os started H enc)
#print axioms codecWrites_holds
end Go.Proofs.Ytljoalihioflmaa
