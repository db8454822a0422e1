/-
  DiskSafe: what is safe of a file stays, whatever is appended behind and wherever the power goes. No conditions: every input.
-/
import Derived.Test.YtdoaaambimkdkaaBytes
import Derived.Test.YtdoaaambimkdkaaAwake
import Derived.Test.YtdoaaambimkdkaaAct
namespace Go.Proofs.Ytdoaaambimkdkaa
open Go.RowKit Go.WideShapes

/-- What stays: file 1 is there, b stands at its head, and is safe. -/
structure Inv (b : List UInt8) (D : DM) : Prop where
  has : (D.f 1).has = true
  pre : b <+: (D.f 1).b
  safe : b.length ≤ (D.f 1).safe

theorem Inv.congr {b : List UInt8} {D E : DM} (h : Inv b D) (e : E.f 1 = D.f 1) : Inv b E := ⟨by rw [e]; exact h.has, by rw [e]; exact h.pre, by rw [e]; exact h.safe⟩
theorem Inv.append {b : List UInt8} {D : DM} (h : Inv b D) (ys : List UInt8) : Inv b (D.append 1 ys).2 := by
  unfold DM.append
  split
  · split
    · exact h
    · split
      · exact ⟨rfl, h.pre.trans (List.prefix_append _ _), h.safe⟩
      · exact ⟨rfl, h.pre.trans (List.prefix_append _ _), h.safe⟩
  · exact h
theorem Inv.spend {b : List UInt8} {D : DM} (h : Inv b D) : Inv b D.spend.2 := h.congr (by rw [D.spend_f.1])
theorem Inv.sync {b : List UInt8} {D : DM} (h : Inv b D) : Inv b (D.sync 1).2 := by
  unfold DM.sync
  split
  · split
    · exact ⟨h.has, h.pre, h.pre.length_le⟩
    · exact h.spend
  · exact h
theorem Inv.light {b : List UInt8} {D : DM} (h : Inv b D) (n : Int) : Inv b (D.lightUp n).2 := by
  unfold DM.lightUp
  split
  · exact h
  · split
    · exact h
    · exact h.congr rfl
theorem Inv.restart {b : List UInt8} {D : DM} (h : Inv b D) (keep : Nat → Int) : ((D.restart keep).f 1).b.take b.length = b ∧ ((D.restart keep).f 1).has = true ∧ (D.restart keep).lost = false := by
  refine ⟨?_, h.has, rfl⟩
  show ((D.f 1).b.take ((D.f 1).left (keep 1))).take b.length = b
  rw [List.take_take, Nat.min_eq_left (by unfold FM.left; have := h.safe; omega)]
  exact (List.prefix_iff_eq_take.1 h.pre).symm
theorem restart_len {D : DM} (hok : D.ok) (keep : Nat → Int) : ((D.restart keep).f 1).b.length = ((D.restart keep).f 1).safe ∧ (D.f 1).safe ≤ ((D.restart keep).f 1).b.length := by
  have hl := FM.left_le (D.f 1) (hok.safe 1 (by decide)) (keep 1)
  have e : ((D.restart keep).f 1).b.length = (D.f 1).left (keep 1) := by
    show ((D.f 1).b.take ((D.f 1).left (keep 1))).length = _
    rw [List.length_take]; omega
  have e2 : ((D.restart keep).f 1).safe = (D.f 1).left (keep 1) := rfl
  rw [e, e2]
  exact ⟨rfl, by unfold FM.left; omega⟩

/-- The first append and sync of the statement. -/
def first (b : List UInt8) : DM := (DM.new 1048576).set 1 { has := true, b := b, safe := 0 }
def second (b : List UInt8) : DM := (first b).set 1 { has := true, b := b, safe := b.length }
theorem first_is (b : List UInt8) (hb : b.length ≤ 5000) : (DM.new 1048576).append 1 b = (0, first b) := by
  have h0 : (DM.new 1048576).used 8 = 0 := DM.new_used _ _
  have h1 : ¬ (DM.new 1048576).cap < (DM.new 1048576).used 8 + b.length := by rw [h0]; show ¬ 1048576 < 0 + b.length; omega
  unfold DM.append
  rw [if_pos (show rd (DM.new 1048576).lost [1] = 0 from rfl), if_neg h1]
  rfl
theorem second_is (b : List UInt8) : (first b).sync 1 = (0, second b) := rfl
theorem second_inv (b : List UInt8) : Inv b (second b) := ⟨rfl, List.prefix_refl _, Nat.le_refl _⟩

/-- A list of lists of bytes that came in. -/
def Rows2 (w : World) (a : Option Addr) (n : Nat) : Prop :=
  n = 0 ∨ ∃ b off, a = some ⟨b, off, none⟩ ∧ b < w.heap.size ∧ ∀ i, i < n → ∃ ad xs c, w.cell? ⟨b, off + i, none⟩ = some (.slice ad (List.length xs) c) ∧ List.length xs ≤ c ∧ c ≤ maxLen ∧ IsBytes w ad xs ∧ (ad = none → c = 0)

set_option maxHeartbeats 1600000 in
theorem safe_far (a : Option Addr) (n c m cm : Nat) (am : Option Addr) (fu k0 k1 k2 k3 k4 k5 k6 k7 : Int) (w : World) (h : 5000 < n ∨ 20 < m) (hn : n ≤ maxLen) (hm : m ≤ maxLen) :
    Calls Try.prog 5 #[.slice a n c, .slice am m cm, .int .i64 fu, .agg #[.int .i64 k0, .int .i64 k1, .int .i64 k2, .int .i64 k3, .int .i64 k4, .int .i64 k5, .int .i64 k6, .int .i64 k7]] w
      fun e w' => e = .returned (.bool true) ∧ Below w.heap.size w w' := by
  unfold maxLen at hn hm
  by_cases h1 : 5000 < n
  · clear h
    have hi : (5000 : Int) < n := by omega
    go_enter Try.func5, Try.ntmps5
    go_wp2_with fail
    refine (awake_any _).mono ?_
    rintro e w1 ⟨rfl, b1⟩
    go_wp2_with fail
    refine (awake_any _).mono ?_
    rintro e w2 ⟨rfl, b2⟩
    go_wp2
    go_ret
    have B1 : Below w.heap.size w w1 := ((Below.refl _ _).alloc (Nat.le_refl _) _).trans (b1.mono (by simp))
    exact ⟨rfl, B1.trans (b2.mono B1.size)⟩
  · have h2 : 20 < m := h.resolve_left h1
    clear h
    have hi : ¬ (5000 : Int) < n := by omega
    have hj : (20 : Int) < m := by omega
    go_enter Try.func5, Try.ntmps5
    go_wp2_with fail
    refine (awake_any _).mono ?_
    rintro e w1 ⟨rfl, b1⟩
    go_wp2_with fail
    refine (awake_any _).mono ?_
    rintro e w2 ⟨rfl, b2⟩
    go_wp2
    go_ret
    have B1 : Below w.heap.size w w1 := ((Below.refl _ _).alloc (Nat.le_refl _) _).trans (b1.mono (by simp))
    exact ⟨rfl, B1.trans (b2.mono B1.size)⟩

set_option maxHeartbeats 4000000 in
theorem safe_near (a : Option Addr) (c m cm : Nat) (am : Option Addr) (xs : List UInt8) (fu k0 k1 k2 k3 k4 k5 k6 k7 : Int) (w : World) (hn : xs.length ≤ 5000) (hm : m ≤ 20) (hxc : xs.length ≤ c) (hcm : c ≤ maxLen)
    (hx : IsBytes w a xs) (hnc : a = none → c = 0) (hr : Rows2 w am m) (hfu : I64 fu) :
    Calls Try.prog 5 #[.slice a xs.length c, .slice am m cm, .int .i64 fu, .agg #[.int .i64 k0, .int .i64 k1, .int .i64 k2, .int .i64 k3, .int .i64 k4, .int .i64 k5, .int .i64 k6, .int .i64 k7]] w
      fun e w' => e = .returned (.bool true) ∧ Below w.heap.size w w' := by
  obtain ⟨hf0, hf1⟩ := hfu
  have hi : ¬ (5000 : Int) < xs.length := by omega
  have hj : ¬ (20 : Int) < m := by omega
  go_enter Try.func5, Try.ntmps5
  go_wp2_with fail
  refine (awake_any _).mono ?_
  rintro e w1 ⟨rfl, b1⟩
  have B1 : Below (w.heap.size + 1) (w.alloc (.cells #[.int .i64 k0, .int .i64 k1, .int .i64 k2, .int .i64 k3, .int .i64 k4, .int .i64 k5, .int .i64 k6, .int .i64 k7] 32)) w1 := b1.mono (by simp)
  have s1 : w.heap.size + 1 ≤ w1.heap.size := by have := b1.size; simp at this; omega
  have A0 : Below w.heap.size w (w.alloc (.cells #[.int .i64 k0, .int .i64 k1, .int .i64 k2, .int .i64 k3, .int .i64 k4, .int .i64 k5, .int .i64 k6, .int .i64 k7] 32)) := (Below.refl _ _).alloc (Nat.le_refl _) _
  have hks : ∀ i, i < 8 → (w.alloc (.cells #[.int .i64 k0, .int .i64 k1, .int .i64 k2, .int .i64 k3, .int .i64 k4, .int .i64 k5, .int .i64 k6, .int .i64 k7] 32)).cell? ⟨w.heap.size, i, none⟩ = some (.int .i64 (kp k0 k1 k2 k3 k4 k5 k6 k7 i)) := by
    intro i hi
    rcases eight hi with rfl | rfl | rfl | rfl | rfl | rfl | rfl | rfl <;> simp [kp]
  have hwa : w.heap.size + 1 ≤ (w.alloc (.cells #[.int .i64 k0, .int .i64 k1, .int .i64 k2, .int .i64 k3, .int .i64 k4, .int .i64 k5, .int .i64 k6, .int .i64 k7] 32)).heap.size := by simp
  generalize w.alloc (.cells #[.int .i64 k0, .int .i64 k1, .int .i64 k2, .int .i64 k3, .int .i64 k4, .int .i64 k5, .int .i64 k6, .int .i64 k7] 32) = wa at *
  clear b1
  go_wp2_with fail
  refine (new_in 1048576 w1 (by decide)).mono ?_
  rintro e w2 ⟨rfl, ⟨V2, h2⟩, b2, s2⟩
  have hs2 := Lib.hid s2
  clear s2
  have hlt := hx.lt
  have low : ∀ {w' : World}, Below (w.heap.size + 1) wa w' → Below w.heap.size w w' := fun h => A0.trans (h.mono (Nat.le_succ _))
  have L1 := low B1
  have hx2 : IsBytes w2 a xs := (hx.upd (below_upd (fun _ => False) L1) (fun _ _ _ h => h)).upd (below_upd (fun _ => False) b2) (fun _ _ _ h => h)
  go_wp2_with fail
  refine (append_in h2 1 a xs c hxc hcm hx2 hnc (fun h0 x e hS => by have := hlt h0 x e; have h9 : x.block = w1.heap.size := hS; omega)).mono ?_
  rw [first_is xs hn]
  rintro e w3 ⟨rfl, S3, V3, h3, u3, m3⟩
  go_wp2_with fail
  refine (sync_in h3 1).mono ?_
  rw [second_is]
  rintro e w4 ⟨rfl, S4, V4, h4, u4, m4⟩
  have hS3 : ∀ k, S3 k → w.heap.size + 1 ≤ k := fun k hk => by
    have := b2.size
    rcases m3 k hk with h | ⟨h, _⟩
    · have h9 : k = w1.heap.size := h; omega
    · omega
  have hS4 : ∀ k, S4 k → w.heap.size + 1 ≤ k := fun k hk => by
    have := b2.size
    have := u3.size
    rcases m4 k hk with h | ⟨h, _⟩
    · exact hS3 k h
    · omega
  have B2 : Below (w.heap.size + 1) wa w2 := B1.trans (b2.mono s1)
  have B3 : Below (w.heap.size + 1) wa w3 := B2.trans (u3.toBelow (by have := B2.size; omega) (fun k hk h => by have h9 : k = w1.heap.size := h; omega))
  have B4 : Below (w.heap.size + 1) wa w4 := B3.trans (u4.toBelow (by have := B3.size; omega) (fun k hk h => by have := hS3 k h; omega))
  have hI4 := second_inv xs
  generalize second xs = D4 at *
  clear h2 h3 hx2 m3 m4 hs2 u3 u4 b2 B1 B2 B3 hS3 L1 V3 V2
  go_wp2_with fail
  all_goals
    refine (fuse_in h4 _ (by omega)).mono ?_
    rintro e w5 ⟨rfl, S5, V5, h5, u5, m5⟩
    have hI5 := hI4.light
    have hS5 : ∀ k, S5 k → w.heap.size + 1 ≤ k := fun k hk => by
      have := B4.size
      rcases m5 k hk with h | ⟨h, _⟩
      · exact hS4 k h
      · omega
    have B5 : Below (w.heap.size + 1) wa w5 := B4.trans (u5.toBelow (by have := B4.size; omega) (fun k hk h => by have := hS4 k h; omega))
    go_wp2_with fail
    go_loopw [11, 48] (fun _ i wr => ∃ k : Nat, k ≤ m ∧ i = .int .i64 k ∧ ∃ S V D, DiskAt wr w1.heap.size S V D ∧ Inv xs D ∧ (∀ k, S k → w.heap.size + 1 ≤ k) ∧ Below (w.heap.size + 1) wa wr) (fun _ i _ => m - (intOf i).toNat)
    case atStart => exact ⟨0, Nat.zero_le _, rfl, S5, V5, _, h5, hI5 _, hS5, B5⟩
    case round =>
      obtain ⟨k, hk, rfl, S, V, D, hd, hI, hS, hB⟩ := hrel
      by_cases hlt2 : k < m
      · rcases hr with h0 | ⟨bm, om, rfl, hbm, hrow⟩
        · omega
        obtain ⟨ad, ys, cy, hcell, hyc, hycm, hyb, hyn⟩ := hrow k hlt2
        have hyw : IsBytes wr ad ys := hyb.upd (below_upd (fun _ => False) (low hB)) (fun _ _ _ h => h)
        have hcw : wr.cell? ⟨bm, om + k, none⟩ = some (.slice ad ys.length cy) := ((low hB).cell (p := ⟨bm, om + k, none⟩) hbm).trans hcell
        have hyl := hyb.lt
        clear hrow hks
        by_cases hbig : 5000 < ys.length
        · have hb5 : (5000 : Int) < ys.length := by omega
          go_wp2
          go_ret
          exact ⟨rfl, low hB⟩
        · have hb5 : ¬ (5000 : Int) < ys.length := by omega
          go_wp2_with fail
          refine (append_in hd 1 ad ys cy hyc hycm hyw hyn (fun h0 x e hx => by have := hyl h0 x e; have := hS _ hx; omega)).mono ?_
          rintro e w6 ⟨rfl, S6, V6, h6, u6, m6⟩
          have hI6 := hI.append ys
          have hS6 : ∀ k, S6 k → w.heap.size + 1 ≤ k := fun k hk => by
            have := hB.size
            rcases m6 k hk with h | ⟨h, _⟩
            · exact hS k h
            · omega
          have B6 : Below (w.heap.size + 1) wa w6 := hB.trans (u6.toBelow (by have := hB.size; omega) (fun k hk h => by have := hS k h; omega))
          generalize (D.append 1 ys).2 = D6 at *
          by_cases hodd : (k : Int) % 2 = 1
          · have ho := beq_iff_eq.2 hodd
            clear hodd
            go_wp2_with fail
            refine (sync_in h6 1).mono ?_
            rintro e w7 ⟨rfl, S7, V7, h7, u7, m7⟩
            have hI7 := hI6.sync
            have hS7 : ∀ k, S7 k → w.heap.size + 1 ≤ k := fun k hk => by
              have := B6.size
              rcases m7 k hk with h | ⟨h, _⟩
              · exact hS6 k h
              · omega
            have B7 : Below (w.heap.size + 1) wa w7 := B6.trans (u7.toBelow (by have := B6.size; omega) (fun k hk h => by have := hS6 k h; omega))
            generalize (D6.sync 1).2 = D7 at *
            go_wp2
            go_roundw
            case rel => exact ⟨k + 1, by omega, by go_num, S7, V7, D7, h7, hI7, hS7, B7⟩
            case measure => simp [intOf]; omega
          · have ho := beq_eq_false_iff_ne.2 hodd
            clear hodd
            go_wp2
            go_roundw
            case rel => exact ⟨k + 1, by omega, by go_num, S6, V6, D6, h6, hI6, hS6, B6⟩
            case measure => simp [intOf]; omega
      · go_wp2_with fail
        refine (safe_in hd 1 (by decide)).mono ?_
        rintro e w6 ⟨rfl, b6⟩
        have h6 := hd.below b6
        have B6 : Below (w.heap.size + 1) wa w6 := hB.trans (b6.mono (by have := hB.size; omega))
        have c0 : w6.cell? ⟨w.heap.size, 0, none⟩ = some (.int .i64 k0) := (B6.cell (p := ⟨w.heap.size, 0, none⟩) (Nat.lt_succ_self _)).trans (hks 0 (by decide))
        have c1 : w6.cell? ⟨w.heap.size, 1, none⟩ = some (.int .i64 k1) := (B6.cell (p := ⟨w.heap.size, 1, none⟩) (Nat.lt_succ_self _)).trans (hks 1 (by decide))
        have c2 : w6.cell? ⟨w.heap.size, 2, none⟩ = some (.int .i64 k2) := (B6.cell (p := ⟨w.heap.size, 2, none⟩) (Nat.lt_succ_self _)).trans (hks 2 (by decide))
        have c3 : w6.cell? ⟨w.heap.size, 3, none⟩ = some (.int .i64 k3) := (B6.cell (p := ⟨w.heap.size, 3, none⟩) (Nat.lt_succ_self _)).trans (hks 3 (by decide))
        have c4 : w6.cell? ⟨w.heap.size, 4, none⟩ = some (.int .i64 k4) := (B6.cell (p := ⟨w.heap.size, 4, none⟩) (Nat.lt_succ_self _)).trans (hks 4 (by decide))
        have c5 : w6.cell? ⟨w.heap.size, 5, none⟩ = some (.int .i64 k5) := (B6.cell (p := ⟨w.heap.size, 5, none⟩) (Nat.lt_succ_self _)).trans (hks 5 (by decide))
        have c6 : w6.cell? ⟨w.heap.size, 6, none⟩ = some (.int .i64 k6) := (B6.cell (p := ⟨w.heap.size, 6, none⟩) (Nat.lt_succ_self _)).trans (hks 6 (by decide))
        have c7 : w6.cell? ⟨w.heap.size, 7, none⟩ = some (.int .i64 k7) := (B6.cell (p := ⟨w.heap.size, 7, none⟩) (Nat.lt_succ_self _)).trans (hks 7 (by decide))
        clear hks b6 hB hd
        go_wp2_with fail
        refine (restart_in h6 k0 k1 k2 k3 k4 k5 k6 k7).mono ?_
        rintro e w7 ⟨rfl, ⟨V7, h7⟩, u7⟩
        have B7 : Below (w.heap.size + 1) wa w7 := B6.trans (u7.toBelow (by have := B6.size; omega) (fun k hk h => by have := hS k h; omega))
        obtain ⟨q1, q2, q3⟩ := hI.restart (kp k0 k1 k2 k3 k4 k5 k6 k7)
        obtain ⟨q4, q5⟩ := restart_len h6.ok (kp k0 k1 k2 k3 k4 k5 k6 k7)
        have q6 := hI.safe
        have qp : (D.restart (kp k0 k1 k2 k3 k4 k5 k6 k7)).prs 1 = 0 := by
          unfold DM.prs
          rw [if_neg (by rw [q3]; decide), if_pos (show inRange 1 = true from rfl), if_pos (show ((D.restart (kp k0 k1 k2 k3 k4 k5 k6 k7)).f (Int.toNat 1)).has = true from q2)]
        generalize D.restart (kp k0 k1 k2 k3 k4 k5 k6 k7) = D7 at *
        have QP := Lib.hid qp
        have Q1 := Lib.hid q1
        have Q4 := Lib.hid q4
        clear qp q1 q2 q3 q4 c0 c1 c2 c3 c4 c5 c6 c7
        generalize (D.f 1).safe = sf at *
        go_wp2_with fail
        refine (read_in h7 1).mono ?_
        rintro e w8 ⟨⟨ar, nr, cr, ys, rfl, hyl, hyb, hrc, hrcm, hrn, hyeq⟩, b8⟩
        have B8 : Below (w.heap.size + 1) wa w8 := B7.trans (b8.mono (by have := B7.size; omega))
        have h8 := h7.below b8
        have hye := hyeq QP.out
        clear hyeq
        rw [QP.out]
        have e1 : (D7.f (Int.toNat 1)) = D7.f 1 := rfl
        rw [e1] at hye
        subst hye
        have hg1 : (sf : Int) ≤ nr := by omega
        have hg2 : (xs.length : Int) ≤ sf := by omega
        have hyl' := Lib.hid hyl
        clear hyl e1
        have hxw : IsBytes w8 a xs := hx.upd (below_upd (fun _ => False) (low B8)) (fun _ _ _ h => h)
        have htk : IsBytes w8 ar ((D7.f 1).b.take xs.length) := hyb.take _
        go_wp2_with fail
        refine (bytes_any ar a xs.length xs.length cr c ((D7.f 1).b.take xs.length) xs w8 (by rw [Q1.out]) rfl htk hxw (by omega) (by omega)).mono ?_
        rintro e w9 ⟨rfl, b9⟩
        have B9 : Below (w.heap.size + 1) wa w9 := B8.trans (b9.mono (by have := B8.size; omega))
        have h9 := h8.below b9
        have hd1 : decide ((D7.f 1).b.take xs.length = xs) = true := by rw [Q1.out]; simp
        rw [hd1]
        clear hd1
        go_wp2_with fail
        refine (safe_in h9 1 (by decide)).mono ?_
        rintro e w10 ⟨rfl, b10⟩
        have B10 : Below (w.heap.size + 1) wa w10 := B9.trans (b10.mono (by have := B9.size; omega))
        have heq : (((D7.f 1).safe : Int) == (nr : Int)) = true := by
          have := Q4.out
          have := hyl'.out
          rw [beq_iff_eq]; omega
        go_wp2
        go_ret
        exact ⟨rfl, low B10⟩

theorem cells_lists : Try.prog.cellsOf 42 = 1 := by kernel_rfl

theorem rows2_of {w : World} {a : Option Addr} {n c : Nat} (h : Rd Try.prog w 42 [.slice a n c]) : Rows2 w a n ∧ n ≤ maxLen := by
  obtain ⟨a', n', c', e, hn, hc, hr, _⟩ := h.slice_at Try.underlying42 cells_bytes Nat.one_pos
  injection e with e _
  injection e with e1 e2 e3
  subst e1 e2 e3
  refine ⟨?_, Nat.le_trans hn hc⟩
  rcases hr with h0 | ⟨b, off, rfl, hb, hi⟩
  · exact .inl (by omega)
  · refine .inr ⟨b, off, rfl, hb, fun i hlt => ?_⟩
    obtain ⟨cs', hl, hat, hrd⟩ := hi i (by omega)
    obtain ⟨ad, cap, xs, rfl, h1, h2, h3, h4⟩ := hrd.bytes Try.underlying31 Try.underlying5 cells_u8
    have := hat 0 Nat.one_pos
    rw [Nat.mul_one, Nat.add_zero] at this
    exact ⟨ad, xs, cap, this, h1, h2, h3, h4⟩

theorem safe_contract (W : World) (args : Array Value) (h : Each Try.prog W Try.f5.params.toList args.toList) :
    Calls Try.prog 5 args W fun e W' => e = .returned (.bool true) ∧ Below W.heap.size W W' := by
  rw [Try.params5] at h
  obtain ⟨v0, r0, e0, ⟨_, o0⟩, d0, h⟩ := h.cons
  obtain ⟨v1, r1, rfl, ⟨_, o1⟩, d1, h⟩ := h.cons
  obtain ⟨v2, r2, rfl, ⟨_, o2⟩, d2, h⟩ := h.cons
  obtain ⟨v3, r3, rfl, ⟨_, o3⟩, d3, h⟩ := h.cons
  obtain rfl := h.nil
  obtain ⟨args⟩ := args
  obtain rfl : args = [v0, v1, v2, v3] := e0
  obtain ⟨a, n, c, rfl, hc0⟩ := val_slice o0 Try.underlying31
  obtain ⟨am, m, cm, rfl, hc1⟩ := val_slice o1 Try.underlying42
  obtain ⟨fu, rfl, hf⟩ := val_int o2 d2 Try.underlying3
  obtain ⟨k0, k1, k2, k3, k4, k5, k6, k7, rfl⟩ := rd_keep o3 d3
  rw [hc0] at d0
  rw [hc1] at d1
  obtain ⟨hr, hm⟩ := rows2_of d1
  obtain ⟨a', c', xs, e, h1, h2, h3, h4⟩ := d0.bytes Try.underlying31 Try.underlying5 cells_u8
  injection e with e _
  injection e with e1 e2 e3
  subst e1 e2 e3
  by_cases hbig : 5000 < xs.length ∨ 20 < m
  · exact safe_far _ _ _ _ _ _ _ _ _ _ _ _ _ _ _ W hbig (Nat.le_trans h1 h2) hm
  · exact safe_near _ _ _ _ _ _ _ _ _ _ _ _ _ _ _ W (by omega) (by omega) h1 h2 h3 h4 hr (wf_i64 hf)

theorem safe_own : ownKnob Try.prog.godebug = none := by kernel_rfl
theorem safe_laidOut : laidOutB Try.prog = true := by kernel_rfl

set_option maxRecDepth 100000 in
theorem safe_lifted (os : Os) (started : os.Started) (H : Type) (enc : TypeId × Value → H) :
    ReturnsInHanded {} Try.checked os 5 .any (Rows.diskSafeSpec.pre6 enc Try.prog Try.f5 Rows.diskSafeRow.domain false) (Rows.diskSafeSpec.post enc Try.prog Try.f5 false true false false) :=
  law_lifted (C := Try.checked) safe_own safe_laidOut (by kernel_rfl) Try.func5 rfl (tb := 4) rfl Try.underlying4
    (by
      rw [Try.params5]; intro t ht; simp at ht
      rcases ht with rfl | rfl | rfl | rfl <;> exact ⟨by kernel_rfl, of_decide_eq_true (by kernel_rfl)⟩)
    (fun H ds hl => by
      rw [Try.params5] at hl
      match ds, hl with
      | [d1, d2, d3, d4], _ => rfl)
    os started H enc
    (ChangeSpec.witness6 (enc := enc) (C := Try.checked) false ⟨#[], #[.slice none 0 0, .slice none 0 0, .int .i64 0, .agg #[.int .i64 0, .int .i64 0, .int .i64 0, .int .i64 0, .int .i64 0, .int .i64 0, .int .i64 0, .int .i64 0]], []⟩ 8 (by kernel_rfl) (by kernel_rfl) (by kernel_rfl) (by kernel_rfl))
    safe_contract

theorem diskSafe_holds : Rows.DiskSafeSaid :=
  OpenClaim.holds_of_wide 5 Try.f5 rfl rfl rfl rfl rfl rfl rfl ⟨rfl, rfl, rfl, rfl, rfl⟩ rfl rfl rfl rfl rfl (by kernel_rfl) Try.func5 (by kernel_rfl)
    (of_decide_eq_true (by kernel_rfl)) (by unfold Func.isWrapper; first | (rw [if_pos (by decide +kernel)]; kernel_rfl) | (rw [if_neg (by decide +kernel)]; exact ⟨rfl, rfl⟩))
    (fun os started H enc _ => safe_lifted os started H enc)
#print axioms diskSafe_holds
end Go.Proofs.Ytdoaaambimkdkaa
