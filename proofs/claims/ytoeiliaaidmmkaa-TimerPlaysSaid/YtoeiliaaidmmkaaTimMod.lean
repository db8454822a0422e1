/-
  The laws of layer 12: the model's functions ahead, without; timers appended to timers; where one is put among sorted ones. Conditions: those of each theorem.
-/
import Derived.Test.YtoeiliaaidmmkaaTimSides
import Derived.StillTailTactics
namespace Go.Proofs.Ytoeiliaaidmmkaa
open Go.RowKit
set_option maxRecDepth 100000

theorem own_none {w : World} {base n c : Nat} {e : TypeId} {xs : List Value} (h : w.ownsRow base e 2 (.slice none n c) n xs) : n = 0 ∧ c = 0 := by
  rcases h.2 with ⟨h2, h3⟩ | ⟨g', cap, cur, h2, _⟩
  · injection h2 with _ _ e3
    exact ⟨h3, e3⟩
  · cases h2

theorem run_append_tm (w : World) (ty : TypeId) (base n m : Nat) (av ao : Option Addr) (cv c : Nat) (xs news : List Tm) (hown : w.ownsRow base 35 2 (.slice av n cv) n (tcells xs)) (hl : news.length = m) (hrow : TRow w ao news) (hno : ao = none → m = 0 ∧ c = 0) (hs : ao ≠ none → ∃ b o, ao = some ⟨b, o, none⟩)
    (hf : n + m ≤ 10000) (hbase : base ≤ w.heap.size) :
    ∃ a' c' w', (Builtin.append_ #[25, 25] ty #[.slice av n cv, .slice ao m c]).run Try.prog w = .ok (.slice a' (n + m) c') w' ∧ w'.ownsRow base 35 2 (.slice a' (n + m) c') (n + m) (tcells (xs ++ news)) ∧ w.grownBy w' (Value.slice av n cv).ownBlock ∧
      ∀ g, (Value.slice a' (n + m) c').ownBlock = some g → (Value.slice av n cv).ownBlock = some g ∨ g = w.heap.size := by
  obtain ⟨i, hi0, hz, hsize, hby⟩ := info_parts (show (Try.prog.info? 35).map (fun i => (i.zero, i.size, i.bytes)) = some (some (.agg #[.int .i64 0, .int .i64 0]), 2, 16) by kernel_rfl)
  cases ao with
  | none =>
    obtain ⟨rfl, rfl⟩ := hno rfl
    have hn : news = [] := List.length_eq_zero_iff.1 hl
    subst hn
    refine ⟨av, cv, w, ?_, by simpa using hown, ⟨rfl, rfl, rfl, Nat.le_refl _, fun _ _ _ => rfl⟩, fun g hg => .inl hg⟩
    exact run_append_owned_none (P := Try.prog) (w := w) base 25 ty 35 i 2 Try.underlying25 hi0 (.slice av n cv) n (tcells xs) hown
  | some ad =>
    obtain ⟨b, o, e⟩ := hs (by simp)
    injection e with e
    subst e
    have := run_append_full (P := Try.prog) w base 25 ty 35 i _ 2 16 Try.underlying25 hi0 hz hsize hby rfl (by decide) (.slice av n cv) n (tcells xs) hown ⟨b, o, none⟩ m c (tcells news) (by rw [tcells_length, hl]) (fun j u hj => ?_) (tcells_one news) (by unfold maxLen; omega) (by omega) hbase
    · rw [← tcells_append] at this
      exact this
    · have hjl := (List.getElem?_eq_some_iff.1 hj).1
      rw [tcells_length] at hjl
      have ea : (⟨b, o, none⟩ : Addr).add j = ⟨b, o + j, none⟩ := by unfold Addr.add; split <;> simp_all
      rw [ea]
      rcases hrow with h | ⟨b', o', h1, h2, h3⟩
      · subst h; simp at hjl
      · injection h1 with h1
        injection h1 with e1 e2
        subst e1 e2
        obtain ⟨x1, x2⟩ := tcells_get news (j / 2) (by omega)
        obtain ⟨y1, y2⟩ := h3 (j / 2) (by omega)
        have hm : j % 2 = 0 ∨ j % 2 = 1 := by omega
        rcases hm with hm | hm
        · rw [show j / 2 * 2 = j by omega] at x1 y1
          rw [x1] at hj
          injection hj with hj
          rw [← hj]
          exact y1
        · rw [show o + j / 2 * 2 + 1 = o + j by omega] at y2
          rw [show j / 2 * 2 + 1 = j by omega] at x2
          rw [x2] at hj
          injection hj with hj
          rw [← hj]
          exact y2
theorem step_append_tm {w : World} {ops : Array Oper} {o : Oper} {act : Act} {K : Act → World → Prop} {Q : Exit → Act → World → Prop} {E : Prop} (hgd : o.guard = none) (s x : Operand)
    (ho : o.op = .call { callee := .builtin .append, args := #[s, x], argTypes := #[25, 25] })
    (base n m : Nat) (av ao : Option Addr) (cv c : Nat) (xs news : List Tm) (hs : act.eval s = .slice av n cv) (hx : act.eval x = .slice ao m c) (hown : w.ownsRow base 35 2 (.slice av n cv) n (tcells xs)) (hl : news.length = m) (hrow : TRow w ao news) (hno : ao = none → m = 0 ∧ c = 0) (hsp : ao ≠ none → ∃ b o, ao = some ⟨b, o, none⟩)
    (hf : n + m ≤ 10000) (hbase : base ≤ w.heap.size) (k : Nat) (hk : n + m = k)
    (h : ∀ a' c' w', w'.ownsRow base 35 2 (.slice a' k c') k (tcells (xs ++ news)) → w.grownBy w' (Value.slice av n cv).ownBlock → (∀ g, (Value.slice a' k c').ownBlock = some g → (Value.slice av n cv).ownBlock = some g ∨ g = w.heap.size) → K (act.put o.dst (.slice a' k c')) w') :
    if Region.wanted o (yielded ops act.tmps) = true then Oper.wp Try.prog o act w K Q else E := by
  rw [if_pos (by simp [Region.wanted, hgd])]
  subst hk
  obtain ⟨a', c', w', hr, h2, h3, h4⟩ := run_append_tm w o.type base n m av ao cv c xs news hown hl hrow hno hsp hf hbase
  unfold Oper.wp execOp
  simp only [ho, resolve, invoke, builtin, Sem.run_bind, Sem.run_pure, Result.andThen_ok, List.map_toArray, List.map_cons, List.map_nil, hs, hx, hr]
  exact h a' c' w' h2 h3 h4

theorem mod_ahead (x y : Tm) (w : World) : Calls Try.prog 10 #[.agg #[.int .i64 x.1, .int .i64 x.2], .agg #[.int .i64 y.1, .int .i64 y.2]] w fun e w' => e = .returned (.bool (tlt x y)) ∧ Below w.heap.size w w' := by
  obtain ⟨d1, n1⟩ := x
  obtain ⟨d2, n2⟩ := y
  unfold tlt
  dsimp only
  by_cases h1 : d1 < d2
  · rw [decide_eq_true (.inl h1)]
    go_enter Try.func10, Try.ntmps10
    go_wp2
    go_ret
    exact ⟨rfl, below_two w _ _⟩
  · by_cases h2 : d1 = d2
    · subst h2
      by_cases h3 : n1 < n2
      · rw [decide_eq_true (.inr ⟨rfl, h3⟩)]
        go_enter Try.func10, Try.ntmps10
        go_wp2
        go_ret
        exact ⟨by simp, below_two w _ _⟩
      · rw [decide_eq_false (by omega)]
        go_enter Try.func10, Try.ntmps10
        go_wp2
        go_ret
        exact ⟨by simp <;> omega, below_two w _ _⟩
    · have h4 : (d1 == d2) = false := by simpa using h2
      rw [decide_eq_false (by omega)]
      go_enter Try.func10, Try.ntmps10
      go_wp2
      go_ret
      exact ⟨by simp <;> omega, below_two w _ _⟩

theorem without_snoc (xs : List Tm) (x : Tm) (a : Int) : without (xs ++ [x]) a = if x.2 = a then without xs a else without xs a ++ [x] := by
  unfold without
  rw [List.filter_append, List.filter_cons]
  by_cases h : x.2 = a
  · simp [h]
  · simp [h]

set_option maxHeartbeats 2000000 in
theorem mod_without {w : World} {a : Option Addr} {n c : Nat} {xs : List Tm} (h : TRow w a xs) (hn : xs.length = n) (hf : n ≤ 1000) (q : Int) : Calls Try.prog 9 #[.slice a n c, .int .i64 q] w fun e w' => ∃ a' c', e = .returned (.slice a' (without xs q).length c') ∧ w'.ownsRow w.heap.size 35 2 (.slice a' (without xs q).length c') (without xs q).length (tcells (without xs q)) ∧ Below w.heap.size w w' := by
  subst hn
  have HX : Aside (TRow w a xs) := h
  clear h
  go_enter Try.func9, Try.ntmps9
  go_wp2
  go_loopw [5, 9] (fun s i wr => ∃ (k : Nat) (a' : Option Addr) (c' : Nat), k ≤ xs.length ∧ i = .int .i64 k ∧ s = .slice a' (without (xs.take k) q).length c' ∧ Aside (wr.ownsRow w.heap.size 35 2 (.slice a' (without (xs.take k) q).length c') (without (xs.take k) q).length (tcells (without (xs.take k) q)) ∧ Below w.heap.size w wr)) (fun _ i _ => xs.length - (intOf i).toNat)
  case atStart => exact ⟨0, none, 0, Nat.zero_le _, rfl, rfl, World.ownsRow_nil _ _ _ _, Below.refl _ _⟩
  case round =>
    obtain ⟨k, a', c', hk, rfl, rfl, HO⟩ := hrel
    by_cases hlt : k < xs.length
    · have hkz : (k : Int) < (xs.length : Int) := by omega
      have hs := without_snoc (xs.take k) (tget xs k) q
      rw [← take_at hlt] at hs
      obtain ⟨b1, o1, rfl, hb1, hc1⟩ := (HX.out.below HO.out.2).at_ (by omega)
      obtain ⟨l0, l1⟩ := hc1 k hlt
      have hlen : (without (xs.take k) q).length ≤ k := by
        have := List.length_filter_le (fun x : Tm => x.2 != q) (xs.take k)
        unfold without
        rw [List.length_take] at this
        omega
      clear hc1
      generalize hz : tget xs k = x at *
      clear hz
      obtain ⟨d, z⟩ := x
      dsimp only at *
      by_cases hq : z = q
      · subst hq
        rw [if_pos rfl] at hs
        have HN : Aside (wr.ownsRow w.heap.size 35 2 (.slice a' (without (xs.take (k + 1)) z).length c') (without (xs.take (k + 1)) z).length (tcells (without (xs.take (k + 1)) z)) ∧ Below w.heap.size w wr) := by rw [hs]; exact HO.out
        have HE : Hid ((without (xs.take (k + 1)) z).length = (without (xs.take k) z).length) := by show _ = _; rw [hs]
        clear HO hs
        go_wp2
        go_roundw
        case rel => exact ⟨k + 1, a', c', by omega, by go_num, by rw [HE.out], HN.out⟩
        case measure => simp [intOf]; omega
      · have hne : (z == q) = false := by simpa using hq
        rw [if_neg hq] at hs
        generalize hys : without (xs.take k) q = ys at *
        have HE : Hid (without (xs.take (k + 1)) q = ys ++ [(d, z)]) := hs
        have hal := ownsRow_alloc HO.out.1 (.cells #[.int .i64 d, .int .i64 z] 35)
        have hun := one_cells wr (d, z)
        have ho1 := one_one (d, z)
        have hbs : w.heap.size ≤ (wr.alloc (.cells #[.int .i64 d, .int .i64 z] 35)).heap.size := by have := HO.out.2.size; simp; omega
        have HBW : Aside (Below w.heap.size w (wr.alloc (.cells #[.int .i64 d, .int .i64 z] 35))) := blw_alloc HO.out.2 _
        have HOW : Aside (∀ q, (Value.slice a' ys.length c').ownBlock = some q → w.heap.size ≤ q) := fun q hq => own_base HO.out.1 hq
        dsimp only at hun ho1
        clear hs hys HO
        go_wp2_with (at_builtin; refine wpList_append_full rfl _ _ 25 rfl w.heap.size 35 _ 2 16 Try.underlying25 info_timer rfl (by decide) (.slice a' ys.length c') ys.length (tcells ys) rfl hal ⟨wr.heap.size, 0, none⟩ 1 1 _ rfl rfl hun ho1 (by unfold maxLen; omega) (by omega) hbs ?_; intro a2 c2 w2 r1 r2 r3)
        have HN : Aside (w2.ownsRow w.heap.size 35 2 (.slice a2 (ys ++ [(d, z)]).length c2) (ys ++ [(d, z)]).length (tcells (ys ++ [(d, z)])) ∧ Below w.heap.size w w2) := by
          rw [List.length_append, tcells_append]
          exact ⟨r1, HBW.out.grown r2 hbs (fun q hq => HOW.out q hq)⟩
        clear hal hun r1 r2 r3
        go_roundw
        case rel =>
          refine ⟨k + 1, a2, c2, by omega, by go_num, ?_, ?_⟩
          · rw [HE.out, List.length_append]; rfl
          · rw [HE.out]; exact HN.out
        case measure => simp [intOf]; omega
    · obtain rfl : k = xs.length := by omega
      rw [List.take_length] at HO ⊢
      have HF := HO
      clear HO
      go_wp2
      go_ret
      exact ⟨a', c', rfl, HF.out⟩

/-! ### Where it is put -/
theorem srt_insert {ws : List Tm} {x : Tm} {k : Nat} (hs : Srt ws) (hk : k ≤ ws.length) (h1 : ∀ i, i < k → tlt (tget ws i) x = true) (h2 : k < ws.length → tlt (tget ws k) x = false) (hno : ∀ y ∈ ws, y.2 ≠ x.2) : Srt (ws.take k ++ x :: ws.drop k) := by
  unfold Srt
  rw [List.pairwise_append]
  refine ⟨List.Pairwise.take hs, ?_, ?_⟩
  · rw [List.pairwise_cons]
    refine ⟨fun y hy => ?_, List.Pairwise.drop hs⟩
    have hkl : k < ws.length := by
      rcases Nat.lt_or_ge k ws.length with h | h
      · exact h
      · rw [List.drop_of_length_le h] at hy; cases hy
    have hxk : tlt x (tget ws k) = true := by
      have a1 := h2 hkl
      have a2 := hno _ (mem_tget.2 ⟨k, hkl, rfl⟩)
      rw [tge_iff] at a1
      rw [tlt_iff]
      omega
    rw [drop_at hkl] at hy
    rcases List.mem_cons.1 hy with e | hy
    · rw [e]; exact hxk
    · have h7 : Srt (ws.drop k) := List.Pairwise.drop hs
      rw [drop_at hkl] at h7
      exact tlt_trans hxk ((List.pairwise_cons.1 h7).1 _ hy)
  · intro y hy z hz
    obtain ⟨i, hi, rfl⟩ := mem_tget.1 hy
    rw [List.length_take] at hi
    have hyx : tlt (tget ws i) x = true := h1 i (by omega)
    rw [tget_take i (by omega)]
    rcases List.mem_cons.1 hz with e | hz
    · rw [e]; exact hyx
    · have h7 : Srt (ws.take k ++ ws.drop k) := by rw [List.take_append_drop]; exact hs
      have := (List.pairwise_append.1 h7).2.2 _ (mem_tget.2 ⟨i, by rw [List.length_take]; omega, rfl⟩) _ hz
      rwa [tget_take i (by omega)] at this
theorem perm_insert (ws : List Tm) (x : Tm) (k : Nat) : (ws.take k ++ x :: ws.drop k).Perm (ws ++ [x]) := by
  refine List.perm_middle.trans ?_
  rw [List.take_append_drop]
  exact (List.perm_append_singleton _ _).symm
theorem srt_without {ws : List Tm} (h : Srt ws) (a : Int) : Srt (without ws a) := List.Pairwise.filter _ h
end Go.Proofs.Ytoeiliaaidmmkaa
