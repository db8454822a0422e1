/-
  Package outbox: All. Conditions: those of each theorem.
-/
import Derived.Test.YtcnheikckfhniaaOutRow
import Derived.Test.YtcnheikckfhniaaOutHeard
namespace Go.Proofs.Ytcnheikckfhniaa
open Go.RowKit
set_option maxRecDepth 100000

theorem out_all_nil (w : World) : Calls Try.prog 16 #[.pointer none] w fun e w' => e = .returned (.slice none 0 0) ∧ w = w' := by
  go_enter Try.func16, Try.ntmps16
  go_wp2
  go_ret
  exact ⟨rfl, rfl⟩
theorem all_bare {w : World} {p : Nat} (h1 : w.cell? ⟨p, 1, none⟩ = some (.map none)) : Calls Try.prog 16 #[.pointer (some ⟨p, 0, none⟩)] w fun e w' => e = .returned (.slice none 0 0) ∧ Below w.heap.size w w' := by
  have HK : Aside _ := msg_keysfn none w
  have HS : Aside _ := msg_sorted_nil w
  go_enter Try.func16, Try.ntmps16
  go_wp2_with fail
  refine Calls.mono HK.out ?_
  rintro e w1 ⟨rfl, rfl⟩
  go_wp2_with fail
  refine Calls.mono HS.out ?_
  rintro e w1 ⟨rfl, b1⟩
  have HB : Aside _ := b1
  clear b1 HS HK
  go_wp2
  go_loopw [3, 15] (fun s i wr => s = .slice none 0 0 ∧ i = .int .i64 0 ∧ wr = w1) (fun _ _ _ => 0)
  case atStart => exact ⟨rfl, rfl, rfl⟩
  case round =>
    obtain ⟨rfl, rfl, rfl⟩ := hrel
    go_wp2
    go_ret
    exact ⟨rfl, HB.out⟩
set_option maxHeartbeats 2000000 in
theorem all_made {w : World} {p b : Nat} {xs ws : List Msg} (hpl : p < w.heap.size) (h1 : w.cell? ⟨p, 1, none⟩ = some (.map (some b))) (hM : MsgMap w b xs) (hx : ∀ m ∈ xs, W64 m.key) (hfew : xs.length ≤ 900) (hs : Rise ws) (hp : ws.Perm xs) :
    Calls Try.prog 16 #[.pointer (some ⟨p, 0, none⟩)] w fun e w' => ∃ a c, e = .returned (.slice a ws.length c) ∧ w'.ownsRow w.heap.size 31 6 (.slice a ws.length c) ws.length (mcells ws) ∧ Below w.heap.size w w' := by
  have HK : Aside _ := msg_keysfn (some b) w
  have HS : Aside _ := msg_sorted hM hx (by omega) hs hp
  have hl : Hid (ws.length = xs.length) := hp.length_eq
  have HM : Aside (∀ w1, Below w.heap.size w w1 → ∀ i, i < ws.length → (Instr.lookup 53 (.map (some b)) (.int .i64 (mget ws i).key) false).run Try.prog w1 = .ok (.agg #[.int .i64 (mget ws i).key, .int .i64 (mget ws i).kind, .int .i64 (mget ws i).rma, .int .i64 (mget ws i).value, .int .i64 (mget ws i).tries, .int .i64 (mget ws i).due]) w1) := by
    intro w1 hb i hi
    have hm : mget ws i ∈ xs := hp.mem_iff.1 (mget_mem.2 ⟨i, hi, rfl⟩)
    have := (hM.below hb).val (hx _ hm) false
    have e : got xs (mget ws i).key = mget ws i := by unfold got; rw [look_mem (hs.nd.perm hp) hm]; rfl
    rw [e] at this
    exact this
  clear hM
  go_enter Try.func16, Try.ntmps16
  go_wp2_with fail
  refine Calls.mono HK.out ?_
  rintro e w1 ⟨rfl, rfl⟩
  go_wp2_with fail
  refine Calls.mono HS.out ?_
  rintro e w1 ⟨a, c, rfl, hr, b1⟩
  have HB : Aside (Below w.heap.size w w1) := b1
  have HR : Aside (IntRow w1 a ws.length fun i => (mget ws i).key) := hr
  clear b1 hr HS HK
  go_wp2
  go_loopw [3, 15] (fun s i wr => ∃ (k : Nat) (a' : Option Addr) (c' : Nat), k ≤ ws.length ∧ i = .int .i64 k ∧ s = .slice a' k c' ∧ Aside (wr.ownsRow w1.heap.size 31 6 (.slice a' k c') k (mcells (ws.take k)) ∧ Below w1.heap.size w1 wr)) (fun _ i _ => ws.length - (intOf i).toNat)
  case atStart => exact ⟨0, none, 0, Nat.zero_le _, rfl, rfl, World.ownsRow_nil _ _ _ _, Below.refl _ _⟩
  case round =>
    obtain ⟨k, a', c', hk, rfl, rfl, HO⟩ := hrel
    by_cases hlt : k < ws.length
    · have hkz : (k : Int) < (ws.length : Int) := by omega
      have hbk : Below w.heap.size w wr := HB.out.trans (HO.out.2.mono HB.out.size)
      have k1 := (hbk.cell (p := ⟨p, 1, none⟩) hpl).trans h1
      obtain ⟨b1, o1, rfl, hb1, hc1⟩ := HR.out (by omega)
      have x0 : wr.cell? ⟨b1, o1 + k, none⟩ = some (.int .i64 (mget ws k).key) := (HO.out.2.cell (p := ⟨b1, o1 + k, none⟩) hb1).trans (hc1 k hlt)
      have hlook := HM.out wr hbk k hlt
      have HT : Aside _ := mtake_at hlt
      have HBW : Aside (Below w1.heap.size w1 wr) := HO.out.2
      have HOW : Aside (wr.ownsRow w1.heap.size 31 6 (.slice a' k c') k (mcells (ws.take k))) := HO.out.1
      have hk1 : k < 10000 := by have := hl.out; omega
      clear hc1 HO hbk
      generalize mget ws k = m at *
      obtain ⟨mk, mi, mr, mv, mt, mu⟩ := m
      dsimp only at *
      go_wp2_with (at_builtin; refine wpList_append_msg rfl _ _ 36 31 rfl Try.underlying36 info_msgz w1.heap.size k c' a' (ws.take k) rfl HOW.out ⟨mk, mi, mr, mv, mt, mu⟩ rfl hk1 HBW.out.size (k + 1) rfl w1.heap.size w1 HBW.out (Nat.le_refl _) ?_; intro a2 c2 w2 r1 r2 r3 r4)
      have HN : Aside (w2.ownsRow w1.heap.size 31 6 (.slice a2 (k + 1) c2) (k + 1) (mcells (ws.take (k + 1))) ∧ Below w1.heap.size w1 w2) := by
        rw [HT.out]
        exact ⟨r1, r2⟩
      clear r1 r2 r3 r4 hlook
      go_roundw
      case rel => exact ⟨k + 1, a2, c2, by omega, by go_num, rfl, HN.out⟩
      case measure => simp [intOf]; omega
    · obtain rfl : k = ws.length := by omega
      rw [List.take_length] at HO
      have HF := HO
      clear HO
      go_wp2
      go_ret
      exact ⟨a', c', rfl, ownsRow_base_a HF.out.1 HB.out.size, HB.out.trans (HF.out.2.mono HB.out.size)⟩
theorem out_all {w : World} {p : Nat} {S : Nat → Prop} {last : Int} {xs ws : List Msg} {ts : List Tm} (h : OutSt w p S last xs ts) (hs : Rise ws) (hp : ws.Perm xs) :
    Calls Try.prog 16 #[.pointer (some ⟨p, 0, none⟩)] w fun e w' => ∃ a c, e = .returned (.slice a ws.length c) ∧ w'.ownsRow w.heap.size 31 6 (.slice a ws.length c) ws.length (mcells ws) ∧ Below w.heap.size w w' := by
  obtain ⟨T, ys, hTS, hT, hyp, h4⟩ := h.st
  rcases h4 with ⟨e, q⟩ | ⟨b, q1, q2, q3, q4⟩
  · subst e
    obtain rfl := List.perm_nil.1 hp
    exact (all_bare q).mono fun e w' x => ⟨none, 0, x.1, World.ownsRow_nil _ _ _ _, x.2⟩
  · exact all_made h.lt q3 q4 (fun m hm => key_w64 (h.keys m hm) h.lst) h.few hs hp
end Go.Proofs.Ytcnheikckfhniaa
