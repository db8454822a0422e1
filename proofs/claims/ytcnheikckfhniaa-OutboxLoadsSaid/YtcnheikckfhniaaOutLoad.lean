/-
  Package outbox: areRight, Load. Conditions: those of each theorem.
-/
import Derived.Test.YtcnheikckfhniaaOutRow
import Derived.Test.YtcnheikckfhniaaOutPut
namespace Go.Proofs.Ytcnheikckfhniaa
open Go.RowKit
set_option maxRecDepth 100000

/-- Whether messages may be loaded, behind a key. -/
def goodFrom (next : Int) : Int → List Msg → Bool
  | _, [] => true
  | lst, m :: l => decide (lst < m.key) && decide (m.key < next) && decide (1 ≤ m.kind) && decide (m.kind ≤ 4) && decide (1 ≤ m.tries) && goodFrom next m.key l
theorem goodFrom_rise {next : Int} : ∀ {lst : Int} {l : List Msg}, goodFrom next lst l = true → Rise l ∧ ∀ m ∈ l, lst < m.key ∧ m.key < next ∧ 1 ≤ m.tries
  | lst, [], _ => ⟨List.Pairwise.nil, fun m hm => by cases hm⟩
  | lst, x :: l, h => by
    unfold goodFrom at h
    simp only [Bool.and_eq_true, decide_eq_true_eq] at h
    obtain ⟨⟨⟨⟨⟨h1, h2⟩, h3⟩, h4⟩, h5⟩, h6⟩ := h
    obtain ⟨i1, i2⟩ := goodFrom_rise h6
    refine ⟨List.pairwise_cons.2 ⟨fun y hy => (i2 y hy).1, i1⟩, fun m hm => ?_⟩
    rcases List.mem_cons.1 hm with rfl | hm
    · exact ⟨h1, h2, h5⟩
    · have := i2 m hm
      omega
theorem goodFrom_at {next lst : Int} {l : List Msg} {k : Nat} (hk : k < l.length) : goodFrom next lst (l.drop k) = (decide (lst < (mget l k).key) && decide ((mget l k).key < next) && decide (1 ≤ (mget l k).kind) && decide ((mget l k).kind ≤ 4) && decide (1 ≤ (mget l k).tries) && goodFrom next (mget l k).key (l.drop (k + 1))) := by
  have : l.drop k = mget l k :: l.drop (k + 1) := by
    rw [mget_eq hk]
    exact List.drop_eq_getElem_cons hk
  rw [this]
  rfl
set_option maxHeartbeats 2000000 in
theorem out_right {w : World} {a : Option Addr} {n c : Nat} {l : List Msg} (h : MRow w a l) (hn : l.length = n) (hf : n ≤ 1000) (next : Int) : Calls Try.prog 30 #[.slice a n c, .int .i64 next] w fun e w' => e = .returned (.bool (goodFrom next 0 l)) ∧ Below w.heap.size w w' := by
  subst hn
  have HX : Aside (MRow w a l) := h
  clear h
  go_enter Try.func30, Try.ntmps30
  go_wp2
  go_loopw [5, 10] (fun s i wr => ∃ (k : Nat) (lst : Int), k ≤ l.length ∧ i = .int .i64 k ∧ s = .int .i64 lst ∧ Hid (goodFrom next 0 l = goodFrom next lst (l.drop k)) ∧ Aside (Below w.heap.size w wr)) (fun _ i _ => l.length - (intOf i).toNat)
  case atStart => exact ⟨0, 0, Nat.zero_le _, rfl, rfl, rfl, Below.refl _ _⟩
  case round =>
    obtain ⟨k, lst, hk, rfl, rfl, HG, HO⟩ := hrel
    by_cases hlt : k < l.length
    · have hkz : (k : Int) < (l.length : Int) := by omega
      obtain ⟨b1, o1, rfl, hb1, hc1⟩ := (HX.out.below HO.out).at_ (by omega)
      obtain ⟨x0, x1, x2, x3, x4, x5⟩ := hc1 k hlt
      have hg := goodFrom_at (next := next) (lst := lst) hlt
      have HB : Aside (∀ o, Below w.heap.size w (wr.alloc o)) := fun o => HO.out.alloc HO.out.size o
      clear hc1 HO
      generalize mget l k = m at *
      obtain ⟨mk, mi, mr, mv, mt, mu⟩ := m
      dsimp only at *
      have HG2 : Aside (goodFrom next lst (l.drop k) = (decide (lst < mk) && decide (mk < next) && decide (1 ≤ mi) && decide (mi ≤ 4) && decide (1 ≤ mt) && goodFrom next mk (l.drop (k + 1)))) := hg
      clear hg
      by_cases h1 : mk ≤ lst
      · have hE : Hid (goodFrom next 0 l = false) := by show _ = _; rw [HG.out, HG2.out]; simp; omega
        go_wp2
        go_ret
        exact ⟨by rw [hE.out]; rfl, HB.out _⟩
      · by_cases h2 : next ≤ mk
        · have hE : Hid (goodFrom next 0 l = false) := by show _ = _; rw [HG.out, HG2.out]; simp; omega
          go_wp2
          go_ret
          exact ⟨by rw [hE.out]; rfl, HB.out _⟩
        · by_cases h3 : mi < 1
          · have hE : Hid (goodFrom next 0 l = false) := by show _ = _; rw [HG.out, HG2.out]; simp; omega
            go_wp2
            go_ret
            exact ⟨by rw [hE.out]; rfl, HB.out _⟩
          · by_cases h4 : 4 < mi
            · have hE : Hid (goodFrom next 0 l = false) := by show _ = _; rw [HG.out, HG2.out]; simp; omega
              go_wp2
              go_ret
              exact ⟨by rw [hE.out]; rfl, HB.out _⟩
            · by_cases h5 : mt < 1
              · have hE : Hid (goodFrom next 0 l = false) := by show _ = _; rw [HG.out, HG2.out]; simp; omega
                go_wp2
                go_ret
                exact ⟨by rw [hE.out]; rfl, HB.out _⟩
              · have hE : Hid (goodFrom next 0 l = goodFrom next mk (l.drop (k + 1))) := by
                  show _ = _
                  rw [HG.out, HG2.out, decide_eq_true (by omega), decide_eq_true (by omega), decide_eq_true (by omega), decide_eq_true (by omega), decide_eq_true (by omega)]
                  rfl
                go_wp2
                go_roundw
                case rel => exact ⟨k + 1, mk, by omega, by go_num, rfl, hE, HB.out _⟩
                case measure => simp [intOf]; omega
    · obtain rfl : k = l.length := by omega
      have hE : Hid (goodFrom next 0 l = true) := by show _ = _; rw [HG.out, List.drop_length]; rfl
      clear HG
      go_wp2
      go_ret
      exact ⟨by rw [hE.out]; rfl, HO.out⟩

/-- What Load tells. -/
def LoadOf (w : World) (next : Int) (l : List Msg) (e : Ending) (w' : World) : Prop :=
  Below w.heap.size w w' ∧ if (decide (1 ≤ next) && goodFrom next 0 l) = true then ∃ (p : Nat) (S : Nat → Prop), e = .returned (.tuple #[.pointer (some ⟨p, 0, none⟩), .int .i64 0]) ∧ OutAt w' p S (next - 1) l ∧ ∀ k, S k → w.heap.size ≤ k ∧ k < w'.heap.size
    else e = .returned (.tuple #[.pointer none, .int .i64 1])
set_option maxHeartbeats 2000000 in
theorem out_load {w : World} {a : Option Addr} {n c : Nat} {l : List Msg} (h : MRow w a l) (hn : l.length = n) (hf : n ≤ 200) (next : Int) (hnx : next ≤ 9223372036854775807) : Calls Try.prog 21 #[.int .i64 next, .slice a n c] w (LoadOf w next l) := by
  subst hn
  have HX : Aside (MRow w a l) := h
  have HR : Aside _ := out_right (c := c) h rfl (by omega) next
  clear h
  by_cases h1 : next < 1
  · have HF : Aside (LoadOf w next l (.returned (.tuple #[.pointer none, .int .i64 1])) w) := by
      refine ⟨Below.refl _ _, ?_⟩
      rw [decide_eq_false (by omega), Bool.false_and]
      rfl
    clear HX HR
    go_enter Try.func21, Try.ntmps21
    go_wp2
    go_ret2
    exact HF.out
  · go_enter Try.func21, Try.ntmps21
    go_wp2_with fail
    refine Calls.mono HR.out ?_
    rintro e w1 ⟨rfl, b1⟩
    have HB1 : Aside (Below w.heap.size w w1) := b1
    clear b1 HR
    by_cases hg : goodFrom next 0 l = true
    · obtain ⟨g1, g2⟩ := goodFrom_rise hg
      have HG : Aside (Rise l ∧ ∀ m ∈ l, 0 < m.key ∧ m.key < next ∧ 1 ≤ m.tries) := ⟨g1, g2⟩
      have HGT : Aside ((decide (1 ≤ next) && goodFrom next 0 l) = true) := by show _ = _; rw [hg, decide_eq_true (by omega)]; rfl
      rw [hg]
      clear g1 g2 hg
      have A := arr_new w1 #[.int .i64 (next - 1), .map none, .slice none 0 0, .map none] 61
      have hfz : ∀ j, (w1.alloc (.cells #[.int .i64 (next - 1), .map none, .slice none 0 0, .map none] 61)).frozen? ⟨w1.heap.size, j, none⟩ = false := fun j => by
        unfold World.frozen?
        rw [heap_alloc_new]
        simp
      have hO : OutAt (w1.alloc (.cells #[.int .i64 (next - 1), .map none, .slice none 0 0, .map none] 61)) w1.heap.size (fun k => k = w1.heap.size) (next - 1) [] :=
        { nd := List.Pairwise.nil, few := by simp, lst := by omega, keys := fun _ hm => (by cases hm), c0 := A.cells 0 _ rfl, fz := hfz, st := ⟨(fun k => k = w1.heap.size), [], fun _ x => x, TimSt.bare rfl (by simp) (A.cells 2 _ rfl) (A.cells 3 _ rfl) hfz, List.Perm.refl _, .inl ⟨rfl, A.cells 1 _ rfl⟩⟩ }
      have HO : Aside (OutAt (w1.alloc (.cells #[.int .i64 (next - 1), .map none, .slice none 0 0, .map none] 61)) w1.heap.size (fun k => k = w1.heap.size) (next - 1) [] ∧ Below w.heap.size w (w1.alloc (.cells #[.int .i64 (next - 1), .map none, .slice none 0 0, .map none] 61)) ∧ ∀ k, k = w1.heap.size → w.heap.size ≤ k ∧ k < (w1.alloc (.cells #[.int .i64 (next - 1), .map none, .slice none 0 0, .map none] 61)).heap.size) := ⟨hO, HB1.out.alloc HB1.out.size _, fun k hk => by have := HB1.out.size; rw [hk]; simp; exact this⟩
      clear A hfz hO
      go_wp2
      go_loopw [23] (fun i wr => ∃ (k : Nat) (S' : Nat → Prop), k ≤ l.length ∧ i = .int .i64 k ∧ Aside (OutAt wr w1.heap.size S' (next - 1) (l.take k) ∧ Below w.heap.size w wr ∧ ∀ k, S' k → w.heap.size ≤ k ∧ k < wr.heap.size)) (fun i _ => l.length - (intOf i).toNat)
      case atStart => exact ⟨0, _, Nat.zero_le _, rfl, HO.out⟩
      case round =>
        clear HO
        obtain ⟨k, S', hk, rfl, HO⟩ := hrel
        by_cases hlt : k < l.length
        · have hkz : (k : Int) < (l.length : Int) := by omega
          obtain ⟨b1, o1, rfl, hb1, hc1⟩ := (HX.out.below HO.out.2.1).at_ (by omega)
          obtain ⟨x0, x1, x2, x3, x4, x5⟩ := hc1 k hlt
          have hm : mget l k ∈ l := mget_mem.2 ⟨k, hlt, rfl⟩
          obtain ⟨hk1, hk2, hk3⟩ := HG.out.2 _ hm
          have hln : (l.take k).length = k := by rw [List.length_take]; omega
          have b9 : Below wr.heap.size wr (wr.alloc (.cells #[.int .i64 (mget l k).key, .int .i64 (mget l k).kind, .int .i64 (mget l k).rma, .int .i64 (mget l k).value, .int .i64 (mget l k).tries, .int .i64 (mget l k).due] 31)) := upd_box _
          have HKP : Aside _ := out_keep (OutSt.below HO.out.1 b9) (mget l k) ⟨by omega, by omega⟩ (by rw [hln]; omega) (by rw [List.length_map, hln]; omega)
          have HF : Aside (∀ w5, Kept (wr.alloc (.cells #[.int .i64 (mget l k).key, .int .i64 (mget l k).kind, .int .i64 (mget l k).rma, .int .i64 (mget l k).value, .int .i64 (mget l k).tries, .int .i64 (mget l k).due] 31)) w1.heap.size S' (next - 1) (l.take k) ((l.take k).map tmOf) (mget l k) w5 → OutAt w5 w1.heap.size (More S' (wr.alloc (.cells #[.int .i64 (mget l k).key, .int .i64 (mget l k).kind, .int .i64 (mget l k).rma, .int .i64 (mget l k).value, .int .i64 (mget l k).tries, .int .i64 (mget l k).due] 31)) w5) (next - 1) (l.take (k + 1)) ∧ Below w.heap.size w w5 ∧ ∀ q, More S' (wr.alloc (.cells #[.int .i64 (mget l k).key, .int .i64 (mget l k).kind, .int .i64 (mget l k).rma, .int .i64 (mget l k).value, .int .i64 (mget l k).tries, .int .i64 (mget l k).due] 31)) w5 q → w.heap.size ≤ q ∧ q < w5.heap.size) := by
            intro w5 hk5
            have hnone : look (l.take k) (mget l k).key = none := look_none.2 (fun x hx e => by
              obtain ⟨i, hi, rfl⟩ := mget_mem.1 hx
              rw [hln] at hi
              have hr := List.pairwise_iff_getElem.1 HG.out.1 i k (by omega) hlt hi
              have e1 : mget (l.take k) i = l[i] := by rw [mget_eq (by rw [hln]; exact hi)]; simp
              rw [e1, mget_eq hlt] at e
              omega)
            have q1 := OutSt.added hk5.1 hnone
            have hp : (mget l k :: l.take k).Perm (l.take (k + 1)) := by
              rw [mtake_at hlt]
              exact (List.perm_append_singleton _ _).symm
            have s1 := hk5.2.size
            have s0 := HO.out.2.1.size
            have s2 := b9.size
            refine ⟨OutAt.perm q1 hp, (HO.out.2.1.trans (b9.mono s0)).trans (hk5.2.toBelow (Nat.le_trans s0 s2) (fun q hq x => by have := (HO.out.2.2 q x).1; omega)), fun q hq => ?_⟩
            rcases hq with hq | ⟨q1, q2⟩
            · have := HO.out.2.2 q hq; omega
            · omega
          clear hc1 HO hm hln b9 hk1 hk2 hk3
          generalize mget l k = m at *
          obtain ⟨mk, mi, mr, mv, mt, mu⟩ := m
          dsimp only at *
          go_wp2_with fail
          refine Calls.mono HKP.out ?_
          rintro e w5 ⟨rfl, hk5⟩
          have HN : Aside _ := HF.out w5 hk5
          clear hk5 HKP HF
          go_wp2
          go_roundw
          case rel => exact ⟨k + 1, _, by omega, by go_num, HN.out⟩
          case measure => simp [intOf]; omega
        · obtain rfl : k = l.length := by omega
          have HF : Aside (LoadOf w next l (.returned (.tuple #[.pointer (some ⟨w1.heap.size, 0, none⟩), .int .i64 0])) wr) := by
            refine ⟨HO.out.2.1, ?_⟩
            rw [if_pos HGT.out]
            have := HO.out.1
            rw [List.take_length] at this
            exact ⟨_, S', rfl, this, HO.out.2.2⟩
          clear HO HX HG
          go_wp2
          go_ret2
          exact HF.out
    · have hg : goodFrom next 0 l = false := by simpa using hg
      have HF : Aside (LoadOf w next l (.returned (.tuple #[.pointer none, .int .i64 1])) w1) := by
        refine ⟨HB1.out, ?_⟩
        rw [hg, Bool.and_false]
        rfl
      rw [hg]
      clear HX hg
      go_wp2
      go_ret2
      exact HF.out
end Go.Proofs.Ytcnheikckfhniaa
