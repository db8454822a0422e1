/-
  The law OutboxLoads of layer 13 returns true whatever its arguments are, and leaves them as they were. No condition.
-/
import Derived.Test.YtcnheikckfhniaaOutLaw
import Derived.Test.YtcnheikckfhniaaOutLoad
import Derived.Test.YtcnheikckfhniaaOutAll
namespace Go.Proofs.Ytcnheikckfhniaa
open Go.RowKit
set_option maxRecDepth 100000

set_option maxHeartbeats 4000000 in
theorem outboxLoads_law (next : Int) (hnx : (Lit.int .i64 next).wf = true) (a : Option Addr) (n c : Nat) (l : List Msg) (w : World) (hl : l.length = n) (hr : MRow w a l) : Calls Try.prog 5 #[.int .i64 next, .slice a n c] w fun e w' => e = .returned (.bool true) ∧ Below w.heap.size w w' := by
  subst hl
  obtain ⟨n1, n2⟩ := wf_i64 hnx
  clear hnx
  have HA : Aside (∀ w, _) := fun w => out_awake w
  by_cases hbig : 200 < l.length
  · have hbz : (200 : Int) < (l.length : Int) := by omega
    go_enter Try.func5, Try.ntmps5
    go_wp2_with fail
    refine Calls.mono (HA.out _) ?_
    rintro e w1 ⟨rfl, b1⟩
    have HB : Aside (Below w.heap.size w w1) := b1
    clear b1
    go_wp2_with fail
    refine Calls.mono (HA.out _) ?_
    rintro e w2 ⟨rfl, b2⟩
    have HF : Aside (Below w.heap.size w w2) := HB.out.trans (b2.mono HB.out.size)
    clear b2
    go_wp2
    go_ret
    exact ⟨rfl, HF.out⟩
  · have hbz : ¬ (200 : Int) < (l.length : Int) := by omega
    have HR : Aside (MRow w a l) := hr
    clear hr
    go_enter Try.func5, Try.ntmps5
    go_wp2_with fail
    refine Calls.mono (HA.out _) ?_
    rintro e w1 ⟨rfl, b1⟩
    have HB : Aside (Below w.heap.size w w1) := b1
    have HLD : Aside (Calls Try.prog 21 #[.int .i64 next, .slice a l.length c] w1 (LoadOf w1 next l)) := out_load (HR.out.below b1) rfl (by omega) next n2
    clear b1 HA
    go_wp2_with fail
    refine Calls.mono HLD.out ?_
    rintro e w2 ⟨b2, hif⟩
    have HB2 : Aside (Below w.heap.size w w2) := HB.out.trans (b2.mono HB.out.size)
    have HB12 : Hid (w.heap.size ≤ w1.heap.size) := HB.out.size
    have HR2 : Aside (MRow w2 a l) := HR.out.below HB2.out
    clear b2 HLD
    obtain ⟨G, hG⟩ : ∃ G, G = (decide (1 ≤ next) && goodFrom next 0 l) := ⟨_, rfl⟩
    have HGD : Hid (G = (decide (1 ≤ next) && goodFrom next 0 l)) := hG
    rw [← hG] at hif
    clear hG
    obtain ⟨O, E, he, HI⟩ : ∃ (O : Option Addr) (E : Int), e = .returned (.tuple #[.pointer O, .int .i64 E]) ∧ Aside (if G = true then ∃ (p : Nat) (S : Nat → Prop), O = some ⟨p, 0, none⟩ ∧ E = 0 ∧ OutAt w2 p S (next - 1) l ∧ ∀ k, S k → w1.heap.size ≤ k ∧ k < w2.heap.size else O = none ∧ E = 1) := by
      cases G
      · exact ⟨none, 1, by simpa using hif, by rw [if_neg (by decide)]; exact ⟨rfl, rfl⟩⟩
      · simp only [if_true] at hif
        obtain ⟨p, S, h1, h2, h3⟩ := hif
        exact ⟨some ⟨p, 0, none⟩, 0, h1, by rw [if_pos rfl]; exact ⟨p, S, rfl, rfl, h2, h3⟩⟩
    subst he
    clear hif
    go_wp2
    go_loopw [7, 8, 30] (fun s7 s8 i wr => ∃ (k : Nat) (lst : Int) (fine : Bool), k ≤ l.length ∧ i = .int .i64 k ∧ s7 = .int .i64 lst ∧ s8 = .bool fine ∧ Hid (G = (fine && goodFrom next lst (l.drop k))) ∧ Aside (w2 = wr)) (fun _ _ i _ => l.length - (intOf i).toNat)
    case atStart => exact ⟨0, 0, decide (1 ≤ next), Nat.zero_le _, rfl, rfl, rfl, HGD.out, rfl⟩
    case round =>
      obtain ⟨k, lst, fine, hk, rfl, rfl, rfl, HG, HO⟩ := hrel
      obtain rfl : w2 = wr := HO.out
      by_cases hlt : k < l.length
      · have hkz : (k : Int) < (l.length : Int) := by omega
        obtain ⟨b1, o1, rfl, hb1, hc1⟩ := HR2.out.at_ (by omega)
        obtain ⟨x0, x1, x2, x3, x4, x5⟩ := hc1 k hlt
        have hg := goodFrom_at (next := next) (lst := lst) hlt
        clear hc1
        generalize mget l k = m at *
        obtain ⟨mk, mi, mr, mv, mt, mu⟩ := m
        dsimp only at *
        have HG2 : Aside (goodFrom next lst (l.drop k) = (decide (lst < mk) && decide (mk < next) && decide (1 ≤ mi) && decide (mi ≤ 4) && decide (1 ≤ mt) && goodFrom next mk (l.drop (k + 1)))) := hg
        clear hg
        cases fine
        · have hE : Hid (G = (false && goodFrom next mk (l.drop (k + 1)))) := by
            show _ = _
            rw [HG.out]
            rfl
          go_wp2
          go_roundw
          case rel => exact ⟨k + 1, mk, false, by omega, by go_num, rfl, rfl, hE, trivial⟩
          case measure => simp [intOf]; omega
        · skip
          by_cases q0 : lst < mk
          · skip
            by_cases q1 : mk < next
            · skip
              by_cases q2 : 1 ≤ mi
              · skip
                by_cases q3 : mi ≤ 4
                · skip
                  by_cases q4 : 1 ≤ mt
                  · skip
                    have hE : Hid (G = (true && goodFrom next mk (l.drop (k + 1)))) := by
                      show _ = _
                      rw [HG.out, HG2.out, decide_eq_true q0, decide_eq_true q1, decide_eq_true q2, decide_eq_true q3, decide_eq_true q4]
                      rfl
                    go_wp2
                    go_roundw
                    case rel => exact ⟨k + 1, mk, true, by omega, by go_num, rfl, rfl, hE, trivial⟩
                    case measure => simp [intOf]; omega
                  · have hE : Hid (G = (false && goodFrom next mk (l.drop (k + 1)))) := by
                      show _ = _
                      rw [HG.out, HG2.out]
                      simp; omega
                    go_wp2
                    go_roundw
                    case rel => exact ⟨k + 1, mk, false, by omega, by go_num, rfl, rfl, hE, trivial⟩
                    case measure => simp [intOf]; omega
                · have hE : Hid (G = (false && goodFrom next mk (l.drop (k + 1)))) := by
                    show _ = _
                    rw [HG.out, HG2.out]
                    simp; omega
                  go_wp2
                  go_roundw
                  case rel => exact ⟨k + 1, mk, false, by omega, by go_num, rfl, rfl, hE, trivial⟩
                  case measure => simp [intOf]; omega
              · have hE : Hid (G = (false && goodFrom next mk (l.drop (k + 1)))) := by
                  show _ = _
                  rw [HG.out, HG2.out]
                  simp; omega
                go_wp2
                go_roundw
                case rel => exact ⟨k + 1, mk, false, by omega, by go_num, rfl, rfl, hE, trivial⟩
                case measure => simp [intOf]; omega
            · have hE : Hid (G = (false && goodFrom next mk (l.drop (k + 1)))) := by
                show _ = _
                rw [HG.out, HG2.out]
                simp; omega
              go_wp2
              go_roundw
              case rel => exact ⟨k + 1, mk, false, by omega, by go_num, rfl, rfl, hE, trivial⟩
              case measure => simp [intOf]; omega
          · have hE : Hid (G = (false && goodFrom next mk (l.drop (k + 1)))) := by
              show _ = _
              rw [HG.out, HG2.out]
              simp; omega
            go_wp2
            go_roundw
            case rel => exact ⟨k + 1, mk, false, by omega, by go_num, rfl, rfl, hE, trivial⟩
            case measure => simp [intOf]; omega
      · obtain rfl : k = l.length := by omega
        have hfine : fine = G := by have := HG.out; rw [List.drop_length] at this; cases fine <;> simpa [goodFrom] using this.symm
        clear HG HO
        cases hGG : G
        · obtain rfl : fine = false := hfine.trans hGG
          have HI2 : O = none ∧ E = 1 := by have := HI.out; rw [hGG] at this; simpa using this
          obtain ⟨rfl, rfl⟩ := HI2
          clear HGD HI hfine hGG
          go_wp2
          go_ret
          exact ⟨rfl, HB2.out⟩
        · obtain rfl : fine = true := hfine.trans hGG
          have HI2 : ∃ (p : Nat) (S : Nat → Prop), O = some ⟨p, 0, none⟩ ∧ E = 0 ∧ OutAt w2 p S (next - 1) l ∧ ∀ k, S k → w1.heap.size ≤ k ∧ k < w2.heap.size := by have := HI.out; rw [hGG] at this; simpa using this
          obtain ⟨p, S, rfl, rfl, h2, hS⟩ := HI2
          have hgood : goodFrom next 0 l = true := by have := HGD.out; rw [hGG] at this; simp at this; exact this.2
          have hrise := (goodFrom_rise hgood).1
          have HAL : Aside _ := out_all h2 hrise (List.Perm.refl _)
          have H2 : Aside (OutAt w2 p S (next - 1) l) := h2
          have HS : Aside (∀ k, S k → w1.heap.size ≤ k ∧ k < w2.heap.size) := hS
          clear h2 hS HGD HI hfine hGG hgood hrise
          go_wp2_with fail
          refine Calls.mono HAL.out ?_
          rintro e w3 ⟨a3, c3, rfl, r3, b3⟩
          have H3 : Aside (OutAt w3 p S (next - 1) l) := OutSt.below H2.out b3
          have R3 : Aside (MRow w3 a3 l) := mrow_own r3 rfl
          have HB3 : Aside (Below w.heap.size w w3) := HB2.out.trans (b3.mono HB2.out.size)
          have HL3 : Aside (MRow w3 a l) := HR2.out.below b3
          have HNX : Aside (Calls Try.prog 17 #[.pointer (some ⟨p, 0, none⟩)] w3 fun e w' => e = .returned (.int .i64 next) ∧ w3 = w') := by
            have := out_next H3.out (by omega)
            rw [show next - 1 + 1 = next by omega] at this
            exact this
          clear r3 b3 HAL
          go_wp2_with fail
          refine Calls.mono HNX.out ?_
          rintro e w4 ⟨rfl, rfl⟩
          go_wp2
          go_loopw [109] (fun i wr => ∃ k : Nat, k ≤ l.length ∧ i = .int .i64 k ∧ Aside (Below w3.heap.size w3 wr)) (fun i _ => l.length - (intOf i).toNat)
          case atStart => exact ⟨0, Nat.zero_le _, rfl, Below.refl _ _⟩
          case round =>
            obtain ⟨k, hk, rfl, HW⟩ := hrel
            by_cases hlt : k < l.length
            · have hkz : (k : Int) < (l.length : Int) := by omega
              obtain ⟨b1, o1, rfl, hb1, hc1⟩ := (R3.out.below HW.out).at_ (by omega)
              obtain ⟨b2, o2, rfl, hb2, hc2⟩ := (HL3.out.below HW.out).at_ (by omega)
              obtain ⟨x0, x1, x2, x3, x4, x5⟩ := hc1 k hlt
              obtain ⟨y0, y1, y2, y3, y4, y5⟩ := hc2 k hlt
              have heq := msg_self 9998 (mget l k)
              clear hc1 hc2
              generalize mget l k = m at *
              obtain ⟨mk, mi, mr, mv, mt, mu⟩ := m
              dsimp only at *
              go_wp2_with fail
              go_quiet (fail)
              go_wp2
              go_roundw
              case rel => exact ⟨k + 1, by omega, by go_num, HW.out.trans ⟨rfl, rfl, rfl, Nat.le_refl _, fun _ _ => rfl⟩⟩
              case measure => simp [intOf]; omega
            · obtain rfl : k = l.length := by omega
              have H5 : OutAt wr p S (next - 1) l := OutSt.below H3.out HW.out
              have HPT : Aside _ := out_put H5 2 1 1 1 (by omega) (by omega) (by omega)
              have HB5 : Aside (Below w.heap.size w wr) := HB3.out.trans (HW.out.mono HB3.out.size)
              have hk5 := fun w => msg_key (fresh (next - 1) 2 1 1 1) w
              have E5 : Hid ((fresh (next - 1) 2 1 1 1).key = next) := by show next - 1 + 1 = next; omega
              have HS5 : Aside (∀ w', Upd S wr w' → Below w.heap.size w w') := fun w' u => HB5.out.trans (u.toBelow HB5.out.size (fun q hq x => by have := (HS.out q x).1; have := HB12.out; omega))
              clear H5 HW R3 HL3 H3 HNX
              generalize fresh (next - 1) 2 1 1 1 = y at *
              go_wp2_with fail
              refine Calls.mono HPT.out ?_
              rintro e w6 ⟨rfl, h6, u6⟩
              have HF : Aside (Below w.heap.size w w6) := HS5.out _ u6
              clear h6 u6 HPT
              go_wp2
              go_ret
              exact ⟨by simp [E5.out], HF.out⟩

theorem outboxLoads_contract (W : World) (args : Array Value) (h : Each Try.prog W Try.f5.params.toList args.toList) :
    Calls Try.prog 5 args W fun e W' => e = .returned (.bool true) ∧ Below W.heap.size W W' := by
  rw [Try.params5] at h
  obtain ⟨v0, r0, e0, ⟨_, o0⟩, d0, h⟩ := h.cons
  obtain ⟨v1, r1, rfl, ⟨_, o1⟩, d1, h⟩ := h.cons
  obtain rfl := h.nil
  obtain ⟨args⟩ := args
  obtain rfl : args = [v0, v1] := e0
  obtain ⟨x0, rfl, hx0⟩ := val_int o0 d0 Try.underlying3
  obtain ⟨sa1, sn1, sc1, rfl, hsc1⟩ := val_slice o1 Try.underlying36
  rw [hsc1] at d1
  obtain ⟨xs1, hl1, hr1⟩ := msgs_of d1
  exact outboxLoads_law x0 hx0 _ _ _ _ W hl1 hr1

theorem outboxLoads_lifted (os : Os) (started : os.Started) (H : Type) (enc : TypeId × Value → H) :
    ReturnsInHanded {} Try.checked os 5 .any (Rows.outboxLoadsSpec.pre6 enc Try.prog Try.f5 Rows.outboxLoadsRow.domain false) (Rows.outboxLoadsSpec.post enc Try.prog Try.f5 false true false false) :=
  law_lifted (C := Try.checked) seat_own seat_laid (by kernel_rfl) Try.func5 rfl (tb := 4) rfl Try.underlying4
    (by
      rw [Try.params5]; intro t ht; simp at ht
      rcases ht with rfl | rfl <;> exact ⟨by kernel_rfl, of_decide_eq_true (by kernel_rfl)⟩)
    (fun H ds hl => by
      rw [Try.params5] at hl
      match ds, hl with
      | [d1, d2], _ => rfl)
    os started H enc
    (ChangeSpec.witness6 (enc := enc) (C := Try.checked) false ⟨#[], #[.int .i64 0, .slice none 0 0], []⟩ 8 (by kernel_rfl) (by kernel_rfl) (by kernel_rfl) (by kernel_rfl))
    outboxLoads_contract

theorem outboxLoads_holds : Rows.OutboxLoadsSaid :=
  OpenClaim.holds_of_wide 5 Try.f5 rfl rfl rfl rfl rfl rfl rfl ⟨rfl, rfl, rfl, rfl, rfl⟩ rfl rfl rfl rfl rfl (by kernel_rfl) Try.func5 (by kernel_rfl)
    (of_decide_eq_true (by kernel_rfl)) (by unfold Func.isWrapper; first | (rw [if_pos (by decide +kernel)]; kernel_rfl) | (rw [if_neg (by decide +kernel)]; exact ⟨rfl, rfl⟩))
    (fun os started H enc _ => outboxLoads_lifted os started H enc)
#print axioms outboxLoads_holds
end Go.Proofs.Ytcnheikckfhniaa
