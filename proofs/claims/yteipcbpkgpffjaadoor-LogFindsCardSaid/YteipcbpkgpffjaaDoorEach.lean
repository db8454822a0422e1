/-
  The code's each: the frames with which bytes begin, one by one, whatever each round does to its caller's own blocks. Conditions: those of each theorem ('SrcAt': memory holds the bytes and the table; 'Caller': a round's state hangs on its own blocks).
-/
import Derived.Test.YteipcbpkgpffjaaDoorIter
namespace Go.Proofs.YteipcbpkgpffjaaDoor
open Go.RowKit Go.Shelf
set_option maxRecDepth 100000
attribute [local go_sem] Oper.semAt_some

theorem endOf_take {L : List (List UInt8)} {i : Nat} (h : i < L.length) : endOf 0 (L.take (i + 1)) = endOf 0 (L.take i) + 7 + L[i].length := by
  rw [List.take_succ_eq_append_getElem h, endOf_snoc]
theorem framesF_len {k : Nat} {b x : List UInt8} (h : x ∈ framesF k b) : 1 ≤ x.length ∧ x.length ≤ 60000 := by
  induction k generalizing b with
  | zero => cases h
  | succ k ih =>
    simp only [framesF] at h
    cases hf : frameAt b with
    | none => rw [hf] at h; cases h
    | some y =>
      rw [hf] at h
      rcases List.mem_cons.1 h with rfl | h
      · have := frameAt_some hf
        exact ⟨this.2.2.2.1, this.2.2.2.2.1⟩
      · exact ih h
theorem frames_len {xs : List UInt8} {i : Nat} (h : i < (frames xs).length) : 1 ≤ (frames xs)[i].length ∧ (frames xs)[i].length ≤ 60000 := framesF_len (List.getElem_mem h)
theorem own_addr {w : World} {base : Nat} {e : TypeId} {size : Nat} {a : Option Addr} {n m c : Nat} {xs : List Value} (h : w.ownsRow base e size (.slice a n c) m xs) : ∀ x, a = some x → base ≤ x.block ∧ x.block < w.heap.size := by
  intro x hx
  rcases h.2 with ⟨hv, _⟩ | ⟨g, cap, cur, hv, hb, hh, _⟩
  · injection hv with e1 _ _
    rw [e1] at hx
    cases hx
  · injection hv with e1 _ _
    rw [e1] at hx
    cases hx
    exact ⟨hb, (Array.getElem?_eq_some_iff.1 hh).1⟩
/-- Where i frames have come. -/
structure Come (xs : List UInt8) (i k : Nat) : Prop where
  le : i ≤ (frames xs).length
  at' : k = endOf 0 ((frames xs).take i)
  rest : frames (xs.drop k) = (frames xs).drop i
  in' : k ≤ xs.length
theorem Come.zero (xs : List UInt8) : Come xs 0 0 := ⟨Nat.zero_le _, by simp [endOf], by simp, Nat.zero_le _⟩
theorem Come.stop {xs : List UInt8} {i k : Nat} (h : Come xs i k) (hn : frameAt (xs.drop k) = none) : i = (frames xs).length := by
  have h1 := h.rest
  rw [frames_none hn] at h1
  have h2 := congrArg List.length h1
  have h3 := h.le
  rw [List.length_drop, List.length_nil] at h2
  omega
theorem Come.step {xs x : List UInt8} {i k : Nat} (h : Come xs i k) (hf : frameAt (xs.drop k) = some x) : ∃ hi : i < (frames xs).length, (frames xs)[i] = x ∧ Come xs (i + 1) (k + 7 + x.length) := by
  have h1 := h.rest
  rw [frames_step hf] at h1
  have hi : i < (frames xs).length := by
    have h2 := congrArg List.length h1
    rw [List.length_cons, List.length_drop] at h2
    omega
  rw [List.drop_eq_getElem_cons hi] at h1
  injection h1 with h2 h3
  refine ⟨hi, h2.symm, hi, ?_, h3, ?_⟩
  · rw [endOf_take hi, ← h2, h.at']
  · have h4 := (frameAt_some hf).2.2.2.2.2.1
    rw [List.length_drop] at h4
    omega

theorem drop_facts {W : World} {a A : Option Addr} {xs : List UInt8} {m c k : Nat} (hA : (if c = k then a else Option.map (fun x => x.add k) a) = A) (hx : IsBytes W a xs) (hc : m ≤ c) (hn : a = none → c = 0) (hl : xs.length = m) (hk : k ≤ m) :
    IsBytes W A (xs.drop k) ∧ (A = none → c - k = 0) ∧ ∀ x, A = some x → ∃ y, a = some y ∧ y.block = x.block := by
  by_cases h : c = k
  · rw [if_pos h] at hA
    subst hA
    exact ⟨.inl (by rw [List.drop_eq_nil_iff]; omega), fun _ => by omega, fun x hx => ⟨x, hx, rfl⟩⟩
  · rw [if_neg h] at hA
    subst hA
    refine ⟨?_, ?_, ?_⟩
    · rcases hx with rfl | ⟨b, off, rfl, hb, hcs⟩
      · exact .inl (by simp)
      · refine .inr ⟨b, off + k, by simp [addr_add], hb, fun i hi => ?_⟩
        rw [List.getElem_drop, Nat.add_assoc]
        exact hcs (k + i) (by simp at hi; omega)
    · intro hA
      have : a = none := by cases a <;> simp_all
      have := hn this
      omega
    · intro x hx
      cases a with
      | none => cases hx
      | some y =>
        simp only [Option.map_some, Option.some.injEq] at hx
        subst hx
        exact ⟨y, rfl, by unfold Addr.add; split <;> rfl⟩

/-- What a round of each is asked, and answers. -/
def RoundsOf (n l : Nat) (L : List (List UInt8)) (J Jx : Nat → (Nat → Prop) → World → Prop) : Prop :=
  ∀ (i : Nat) (S : Nat → Prop) (W : World) (ad : Option Addr) (m c : Nat) (hi : i < L.length), J i S W → L[i].length = m → IsBytes W ad L[i] → m ≤ c → c ≤ maxLen → (ad = none → c = 0) → (∀ x, ad = some x → ¬ S x.block) →
    YieldAt Fence.wide n Tryd.prog l #[.int .i64 (endOf 0 (L.take (i + 1)) : Nat), .slice ad m c] W fun e W' =>
      (e = .returned (.bool true) ∧ ∃ S', J (i + 1) S' W' ∧ Grows S W S' W') ∨ (e = .returned (.bool false) ∧ ∃ S', Jx i S' W' ∧ Grows S W S' W')

set_option maxHeartbeats 4000000 in
theorem each_walk (n l : Nat) (B : Nat) (a : Option Addr) (xs : List UInt8) (m c : Nat) (J Jx : Nat → (Nat → Prop) → World → Prop) (hJ : Caller J) (hY : ∀ k, RoundsOf k l (frames xs) J Jx)
    (S : Nat → Prop) (W : World) (hS : SrcAt W S B a xs m c) (h0 : J 0 S W) :
    CallsIn Fence.wide n Tryd.prog 78 #[.func (.yield l) #[] #[], .pointer (some ⟨B, 0, none⟩)] W fun e W' => (∃ v, e = .returned v) ∧
      ∃ S', Grows S W S' W' ∧ (J (frames xs).length S' W' ∨ ∃ i, i < (frames xs).length ∧ Jx i S' W') := by
  refine callsIn_of_wp Tryd.func78 rfl trivial ?_ rfl
  simp only [Tryd.ntmps78, List.size_toArray, List.length_cons, List.length_nil, Nat.reduceAdd, Nat.reduceSub, Array.replicate_succ, Array.replicate_zero, List.push_toArray, List.append_toArray, List.nil_append, List.cons_append]
  gi_wp2
  gi_loopw [3] (fun p wr => ∃ (i k : Nat) (T : Nat → Prop), p = .int .i64 (k : Int) ∧ Come xs i k ∧ J i T wr ∧ Grows S W T wr) (fun p _ => m - (intOf p).toNat)
  case atStart =>
    exact ⟨0, 0, S, rfl, Come.zero xs, h0, Grows.refl _ _⟩
  case round =>
    obtain ⟨i, k, T, rfl, hk, hj, hg⟩ := hrel
    have hs := hS.grows hg
    have hb := hs.box
    have hkn := hk.in'
    have hlen := hs.len
    have hcap := hs.cap
    have hmost := hs.most
    unfold maxLen at hmost
    rw [hlen] at hkn
    have hk1 : (0 : Int) ≤ (k : Int) := by omega
    have hk2 : (k : Int) ≤ (m : Int) := by omega
    have hk3 : (m : Int) ≤ (c : Int) := by omega
    have hk4 : (k : Int) ≤ (c : Int) := by omega
    obtain ⟨A, hA⟩ : ∃ A, (if c = k then a else Option.map (fun x => x.add k) a) = A := ⟨_, rfl⟩
    have HS := Lib.hid hS
    have Hs := Lib.hid hs
    have HL := Lib.hid hlen
    have HK := Lib.hid hk
    have HG := Lib.hid hg
    have HJ := Lib.hid hj
    obtain ⟨hx, hnA, hbA⟩ := drop_facts hA hs.bytes hcap hs.nil hlen hkn
    have HX := Lib.hid hx
    have HBA := Lib.hid hbA
    clear hbA
    have hdl : Hid ((xs.drop k).length = m - k) := by
      show (xs.drop k).length = m - k
      rw [List.length_drop, HL.out]
    clear hS hs hk hg h0 hlen hj hx
    gi_wp2_with fail
    refine ⟨trivial, fun h => by simp [Fence.wide] at h, ?_⟩
    refine (callsIn_wide.2 (code_begin A (xs.drop k) (m - k) (c - k) wr Hs.out.halves hdl.out HX.out hnA (by omega) (by unfold maxLen; omega))).mono ?_
    rintro e w1 ⟨hB, b1⟩
    clear hA hnA
    have hj1 := hJ.below HJ.out b1
    have hs1 := Hs.out.below b1
    have hg1 : Grows S W T w1 := HG.out.trans ⟨below_upd _ b1, fun _ h => .inl h⟩
    have Hj1 := Lib.hid hj1
    have Hs1 := Lib.hid hs1
    have Hg1 := Lib.hid hg1
    clear hj1 hs1 hg1
    rcases hB with ⟨hno, rfl⟩ | ⟨x, b, off, hyes, rfl, rfl⟩
    · have hno := Lib.hid hno
      gi_wp2
      refine bodyPost_ret (results_none rfl _ _ _) rfl ?_
      refine ⟨⟨_, rfl⟩, T, Hg1.out, .inl ?_⟩
      have := HK.out.stop hno.out
      rw [← this]
      exact Hj1.out
    · obtain ⟨hi, hxi, hc2⟩ := HK.out.step hyes
      have hfs := frameAt_some hyes
      have hx1 : (1 : Int) ≤ (x.length : Int) := by have := hfs.2.2.2.1; omega
      have hx6 : (x.length : Int) ≤ 60000 := by have := hfs.2.2.2.2.1; omega
      have hx0 : ((x.length : Int) == 0) = false := by simp; intro e; subst e; simp at hx1
      clear hfs
      have HC2 := Lib.hid hc2
      have HYES := Lib.hid hyes
      clear hc2 hyes
      obtain ⟨q, hq⟩ : ∃ q, k + 7 + x.length = q := ⟨_, rfl⟩
      have hqm : q ≤ m := by have := HC2.out.in'; rw [HL.out, hq] at this; exact this
      have hw : wrap64 ((k : Int) + (7 + (x.length : Int))) = (q : Int) := by
        rw [show (k : Int) + (7 + (x.length : Int)) = (q : Int) by omega]
        exact wrap_i64 (by omega)
      have hyx : IsBytes w1 (some ⟨b, off + 7, none⟩) x := by
        have h1 := (HX.out).below b1
        have h2 := (frameAt_some HYES.out).2.2.2.2.2.2.1
        rcases h1 with h1 | ⟨b', o', e, hb', hcs⟩
        · have := (frameAt_some HYES.out).1
          rw [h1] at this
          simp at this
        · injection e with e
          injection e with e1 e2 _
          subst e1 e2
          rw [h2]
          exact at_off hcs hb' 7 _
      have hry := hY (n - 1) i T w1 (some ⟨b, off + 7, none⟩) x.length (c - k - 7) hi Hj1.out (by rw [hxi]) (by rw [hxi]; exact hyx) (by have := HC2.out.in'; rw [HL.out] at this; omega) (by unfold maxLen; omega) (fun e => by cases e) (fun x hx => by
        injection hx with hx
        subst hx
        obtain ⟨y, hy1, hy2⟩ := HBA.out _ rfl
        rw [← show y.block = b from hy2]
        exact Hs1.out.aS (fun h0 => by have := (frameAt_some HYES.out).1; rw [h0] at this; simp at this) y hy1)
      rw [← HC2.out.at', hq] at hry
      obtain ⟨fn, tmps, assign, body, hy, hR⟩ := hry
      have HR := Lib.hid hR
      have HQ := Lib.hid hq
      have HI := Lib.hid hi
      clear hR hq hi hxi hyx hY
      gi_wp2
      refine ⟨fun h => by simp [Fence.wide] at h, HR.out.mono ?_⟩
      rintro e w2 (⟨rfl, S', hj2, hg2⟩ | ⟨rfl, S', hj2, hg2⟩)
      · have Hj2 := Lib.hid hj2
        have Hg2 := Lib.hid hg2
        clear hj2 hg2
        gi_wp2
        go_roundw
        case rel =>
          have hc := HC2.out
          rw [HQ.out] at hc
          exact ⟨i + 1, q, S', rfl, hc, Hj2.out, Hg1.out.trans Hg2.out⟩
        case measure => have := HQ.out; simp [intOf]; omega
      · have Hj2 := Lib.hid hj2
        have Hg2 := Lib.hid hg2
        clear hj2 hg2
        gi_wp2
        refine bodyPost_ret (results_none rfl _ _ _) rfl ?_
        exact ⟨⟨_, rfl⟩, S', Hg1.out.trans Hg2.out, .inr ⟨i, HI.out, Hj2.out⟩⟩

set_option maxHeartbeats 400000 in
theorem each_new (a : Option Addr) (n c : Nat) (w : World) : Calls Tryd.prog 69 #[.slice a n c] w fun e w' => e = .returned (.func (.func 78) #[] #[.pointer (some ⟨w.heap.size, 0, none⟩)]) ∧ w' = w.alloc (.cells #[.slice a n c] 22) := by
  go_enter Tryd.func69, Tryd.ntmps69
  go_wp2
  go_ret
  exact ⟨rfl, rfl⟩
/-- Where a walk begins: the bytes' own box is new. -/
theorem SrcAt.new {w : World} {S : Nat → Prop} {a : Option Addr} {xs : List UInt8} {n c : Nat} (hH : HalvesAt w) (hn : xs.length = n) (hx : IsBytes w a xs) (hc : n ≤ c) (hcm : c ≤ maxLen) (hnc : a = none → c = 0)
    (hS : ∀ k, S k → w.heap.size < k) : SrcAt (w.alloc (.cells #[.slice a n c] 22)) S w.heap.size a xs n c :=
  ⟨by simp, by simp, fun h => by have := hS _ h; omega, hx.below (upd_box _), fun h0 x hx' h => by have h1 := hS _ h; have h2 := hx.lt h0 x hx'; omega, hH.below (upd_box _), fun h => by have h1 := hS _ h; have h2 := hH.lt; omega, hn, hc, hcm, hnc⟩
end Go.Proofs.YteipcbpkgpffjaaDoor
