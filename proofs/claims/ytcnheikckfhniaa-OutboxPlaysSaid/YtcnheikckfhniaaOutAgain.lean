/-
  Package outbox: Again. Conditions: those of each theorem.
-/
import Derived.Test.YtcnheikckfhniaaOutDue
namespace Go.Proofs.Ytcnheikckfhniaa
open Go.RowKit
set_option maxRecDepth 100000

/-! ### plain -/
def agSaid (now : Int) (ds : List Msg) : List Msg := (ds.filter (fun m => !overB m)).map (fun m => said m now)
def agOver (ds : List Msg) : List Msg := ds.filter overB
/-- What is left, behind all was said again. -/
def agLeft (now : Int) (xs : List Msg) : List Msg := (xs.filter (fun m => !(dueB now m && overB m))).map (fun m => if dueB now m then said m now else m)
theorem agSaid_snoc (now : Int) (ds : List Msg) (m : Msg) : agSaid now (ds ++ [m]) = if overB m then agSaid now ds else agSaid now ds ++ [said m now] := by
  unfold agSaid
  rw [List.filter_append, List.map_append]
  cases h : overB m <;> simp [h]
theorem agOver_snoc (ds : List Msg) (m : Msg) : agOver (ds ++ [m]) = if overB m then agOver ds ++ [m] else agOver ds := by
  unfold agOver
  rw [List.filter_append]
  cases h : overB m <;> simp [h]
/-- What is there behind j of the due ones. -/
def agNow (now : Int) (ds und : List Msg) (j : Nat) : List Msg := agSaid now (ds.take j) ++ (ds.drop j ++ und)
def agTms (now : Int) (ds und : List Msg) (j : Nat) : List Tm := (und ++ agSaid now (ds.take j)).map tmOf
theorem mdrop_at {ws : List Msg} {k : Nat} (hk : k < ws.length) : ws.drop k = mget ws k :: ws.drop (k + 1) := by
  rw [mget_eq hk]
  exact List.drop_eq_getElem_cons hk
theorem wo_cons {L : List Msg} {m : Msg} (h : NDK (m :: L)) : wo (m :: L) m.key = L := by
  obtain ⟨h1, _⟩ := List.pairwise_cons.1 h
  unfold wo
  rw [List.filter_cons]
  simp only [bne_self_eq_false, Bool.false_eq_true, if_false]
  rw [List.filter_eq_self]
  intro x hx
  simpa using fun e => h1 x hx e.symm
theorem agNow_wo {now : Int} {ds und : List Msg} {j : Nat} (hj : j < ds.length) (hn : NDK (agNow now ds und j)) : (wo (agNow now ds und j) (mget ds j).key).Perm (agSaid now (ds.take j) ++ (ds.drop (j + 1) ++ und)) := by
  have hp : (agNow now ds und j).Perm (mget ds j :: (agSaid now (ds.take j) ++ (ds.drop (j + 1) ++ und))) := by
    unfold agNow
    rw [mdrop_at hj, List.cons_append]
    exact List.perm_middle
  have := wo_perm hp (mget ds j).key
  rw [wo_cons (hn.perm hp)] at this
  exact this
theorem agNow_over {now : Int} {ds und : List Msg} {j : Nat} (hj : j < ds.length) (hn : NDK (agNow now ds und j)) (ho : overB (mget ds j) = true) : (wo (agNow now ds und j) (mget ds j).key).Perm (agNow now ds und (j + 1)) := by
  have := agNow_wo hj hn
  unfold agNow at *
  rw [mtake_at hj, agSaid_snoc, if_pos ho]
  exact this
theorem agNow_said {now : Int} {ds und : List Msg} {j : Nat} (hj : j < ds.length) (hn : NDK (agNow now ds und j)) (ho : overB (mget ds j) = false) : (said (mget ds j) now :: wo (agNow now ds und j) (mget ds j).key).Perm (agNow now ds und (j + 1)) := by
  have := agNow_wo hj hn
  refine (this.cons _).trans ?_
  unfold agNow
  rw [mtake_at hj, agSaid_snoc, ho]
  simp only [Bool.false_eq_true, if_false]
  rw [List.append_assoc]
  exact (List.perm_middle (a := said (mget ds j) now)).symm
theorem agTms_over {now : Int} {ds und : List Msg} {j : Nat} (hj : j < ds.length) (ho : overB (mget ds j) = true) : agTms now ds und (j + 1) = agTms now ds und j := by
  unfold agTms
  rw [mtake_at hj, agSaid_snoc, if_pos ho]
theorem agTms_said {now : Int} {ds und : List Msg} {j : Nat} (hj : j < ds.length) (hn : NDK (agNow now ds und j)) (ho : overB (mget ds j) = false) : without (agTms now ds und j) (mget ds j).key ++ [tmOf (said (mget ds j) now)] = agTms now ds und (j + 1) := by
  have hp : (agNow now ds und j).Perm (mget ds j :: (agSaid now (ds.take j) ++ (ds.drop (j + 1) ++ und))) := by
    unfold agNow
    rw [mdrop_at hj, List.cons_append]
    exact List.perm_middle
  obtain ⟨h1, _⟩ := List.pairwise_cons.1 (hn.perm hp)
  have e : without (agTms now ds und j) (mget ds j).key = agTms now ds und j := without_none (fun t ht => by
    obtain ⟨x, hx, rfl⟩ := List.mem_map.1 ht
    have hx' : x ∈ agSaid now (ds.take j) ++ (ds.drop (j + 1) ++ und) := by
      rcases List.mem_append.1 hx with hx | hx
      · exact List.mem_append_right _ (List.mem_append_right _ hx)
      · exact List.mem_append_left _ hx
    exact fun e => h1 x hx' e.symm)
  rw [e]
  unfold agTms
  rw [mtake_at hj, agSaid_snoc, ho]
  simp
theorem agNow_zero (now : Int) (xs : List Msg) : (agNow now (xs.filter (dueB now)) (xs.filter (fun m => !dueB now m)) 0).Perm xs := by
  unfold agNow
  exact List.filter_append_perm _ xs
theorem agLeft_perm {now : Int} {xs ys : List Msg} (h : xs.Perm ys) : (agLeft now xs).Perm (agLeft now ys) := (h.filter _).map _
theorem agNow_all (now : Int) (xs : List Msg) : (agNow now (xs.filter (dueB now)) (xs.filter (fun m => !dueB now m)) (xs.filter (dueB now)).length).Perm (agLeft now xs) := by
  have h1 := agLeft_perm (now := now) (List.filter_append_perm (dueB now) xs)
  refine List.Perm.trans ?_ h1
  unfold agNow agLeft agSaid
  rw [List.take_length, List.drop_length, List.nil_append, List.filter_append, List.map_append]
  have e1 : (xs.filter (dueB now)).filter (fun m => !(dueB now m && overB m)) = (xs.filter (dueB now)).filter (fun m => !overB m) := List.filter_congr (fun m hm => by rw [(List.mem_filter.1 hm).2]; rfl)
  have e2 : (xs.filter (fun m => !dueB now m)).filter (fun m => !(dueB now m && overB m)) = xs.filter (fun m => !dueB now m) := by
    rw [List.filter_eq_self]
    intro m hm
    have := (List.mem_filter.1 hm).2
    simp only [Bool.not_eq_true'] at this
    rw [this]
    rfl
  rw [e1, e2]
  have e3 : ((xs.filter (dueB now)).filter (fun m => !overB m)).map (fun m => if dueB now m = true then said m now else m) = ((xs.filter (dueB now)).filter (fun m => !overB m)).map (fun m => said m now) := List.map_congr_left (fun m hm => by rw [if_pos (List.mem_filter.1 (List.mem_filter.1 hm).1).2])
  have e4 : (xs.filter (fun m => !dueB now m)).map (fun m => if dueB now m = true then said m now else m) = xs.filter (fun m => !dueB now m) := by
    conv => rhs; rw [← List.map_id (xs.filter (fun m => !dueB now m))]
    exact List.map_congr_left (fun m hm => by
      have := (List.mem_filter.1 hm).2
      simp only [Bool.not_eq_true'] at this
      rw [this]
      rfl)
  rw [e3, e4]
theorem Rise.filter {xs : List Msg} (h : Rise xs) (q : Msg → Bool) : Rise (xs.filter q) := List.Pairwise.filter _ h
theorem agLeft_rise {now : Int} {xs : List Msg} (h : Rise xs) : Rise (agLeft now xs) := by
  refine List.pairwise_map.2 ((h.filter _).imp ?_)
  intro a b hab
  have e : ∀ m : Msg, (if dueB now m = true then said m now else m).key = m.key := fun m => by split <;> rfl
  rw [e, e]
  exact hab

/-! ### the loop -/
/-- A row's own block is none of these. -/
def Off (S : Nat → Prop) (a : Option Addr) (n c : Nat) : Prop := ∀ q, (Value.slice a n c).ownBlock = some q → ¬ S q
structure Saying (w wr : World) (p : Nat) (S : Nat → Prop) (last : Int) (now : Int) (ds und : List Msg) (a0 : Option Addr) (c0 j : Nat) (a1 : Option Addr) (n1 c1 : Nat) (a2 : Option Addr) (n2 c2 : Nat) (S' : Nat → Prop) : Prop where
  inn : ∀ k, S' k → (S k ∨ w.heap.size ≤ k) ∧ k < wr.heap.size
  out : OutSt wr p S' last (agNow now ds und j) (agTms now ds und j)
  r1 : wr.ownsRow w.heap.size 31 6 (.slice a1 n1 c1) n1 (mcells (agSaid now (ds.take j)))
  r2 : wr.ownsRow w.heap.size 31 6 (.slice a2 n2 c2) n2 (mcells (agOver (ds.take j)))
  k0 : ∀ b o, a0 = some ⟨b, o, none⟩ → w.heap.size ≤ b ∧ b < wr.heap.size ∧ ¬ S' b ∧ (∀ i, i < ds.length → wr.cell? ⟨b, o + i, none⟩ = some (.int .i64 (mget ds i).key)) ∧ (Value.slice a1 n1 c1).ownBlock ≠ some b ∧ (Value.slice a2 n2 c2).ownBlock ≠ some b
  o1 : Off S' a1 n1 c1
  o2 : Off S' a2 n2 c2
  o12 : ∀ q, (Value.slice a1 n1 c1).ownBlock = some q → (Value.slice a2 n2 c2).ownBlock ≠ some q
  up : Upd S w wr

section
variable {w wr w1 w2 w4 : World} {p : Nat} {S S' : Nat → Prop} {last now : Int} {ds und : List Msg} {a0 a1 a2 a4 : Option Addr} {c0 c1 c2 c4 n1 n2 j : Nat}
theorem Saying.over (h : Saying w wr p S last now ds und a0 c0 j a1 n1 c1 a2 n2 c2 S') (hj : j < ds.length) (ho : overB (mget ds j) = true) (b1 : Below wr.heap.size wr w1) (hout : OutSt w2 p S' last (wo (agNow now ds und j) (mget ds j).key) (agTms now ds und j)) (u2 : Upd S' w1 w2)
    (r4 : w4.ownsRow w.heap.size 31 6 (.slice a4 (n2 + 1) c4) (n2 + 1) (mcells (agOver (ds.take j) ++ [mget ds j]))) (u4 : Upd (fun q => (Value.slice a2 n2 c2).ownBlock = some q) w2 w4) (l4 : ∀ q, (Value.slice a4 (n2 + 1) c4).ownBlock = some q → (Value.slice a2 n2 c2).ownBlock = some q ∨ w2.heap.size ≤ q) :
    Saying w w4 p S last now ds und a0 c0 (j + 1) a1 n1 c1 a4 (n2 + 1) c4 S' := by
  have s1 := b1.size
  have s2 := u2.size
  have s4 := u4.size
  have hn := h.out.nd
  have e1 : agSaid now (ds.take (j + 1)) = agSaid now (ds.take j) := by rw [mtake_at hj, agSaid_snoc, if_pos ho]
  have e2 : agOver (ds.take (j + 1)) = agOver (ds.take j) ++ [mget ds j] := by rw [mtake_at hj, agOver_snoc, if_pos ho]
  refine ⟨fun k hk => ⟨(h.inn k hk).1, by have := (h.inn k hk).2; omega⟩, ?_, ?_, ?_, ?_, h.o1, ?_, ?_, ?_⟩
  · rw [agTms_over hj ho]
    exact OutSt.perm (hout.upd u4 (fun k hk e => h.o2 k e hk)) (agNow_over hj hn ho) (List.Perm.refl _)
  · rw [e1]
    exact ownsRow_upd (ownsRow_upd (ownsRow_upd (S := fun _ => False) h.r1 (Upd.below b1) (fun _ _ x => x)) u2 (fun q hq => h.o1 q hq)) u4 (fun q hq => h.o12 q hq)
  · rw [e2]
    exact r4
  · intro b o e
    obtain ⟨q1, q2, q3, q4, q5, q6⟩ := h.k0 b o e
    refine ⟨q1, by omega, q3, fun i hi => ?_, q5, fun e4 => ?_⟩
    · exact (u4.cell (p := ⟨b, o + i, none⟩) (by show b < _; omega) q6).trans ((u2.cell (p := ⟨b, o + i, none⟩) (by show b < _; omega) q3).trans ((b1.cell (p := ⟨b, o + i, none⟩) q2).trans (q4 i hi)))
    · rcases l4 b e4 with e5 | e5
      · exact q6 e5
      · omega
  · intro q hq hS
    rcases l4 q hq with e5 | e5
    · exact h.o2 q e5 hS
    · have := (h.inn q hS).2; omega
  · intro q hq e4
    rcases l4 q e4 with e5 | e5
    · exact h.o12 q hq e5
    · have := own_in h.r1 hq; omega
  · refine ((h.up.trans (Upd.below b1 (S := S)) (fun _ _ x => x)).trans (u2.mono (S' := S') (fun _ _ x => x)) (fun k hk x => ?_)).trans u4 (fun k hk x => ?_)
    · rcases (h.inn k x).1 with y | y
      · exact y
      · omega
    · have := own_base h.r2 x; omega
theorem Saying.said (h : Saying w wr p S last now ds und a0 c0 j a1 n1 c1 a2 n2 c2 S') (hj : j < ds.length) (ho : overB (mget ds j) = false) (b1 : Below wr.heap.size wr w1) (hk : Kept w1 p S' last (agNow now ds und j) (agTms now ds und j) (said (mget ds j) now) w2)
    (r4 : w4.ownsRow w.heap.size 31 6 (.slice a4 (n1 + 1) c4) (n1 + 1) (mcells (agSaid now (ds.take j) ++ [Go.Proofs.Ytcnheikckfhniaa.said (mget ds j) now]))) (u4 : Upd (fun q => (Value.slice a1 n1 c1).ownBlock = some q) w2 w4) (l4 : ∀ q, (Value.slice a4 (n1 + 1) c4).ownBlock = some q → (Value.slice a1 n1 c1).ownBlock = some q ∨ w2.heap.size ≤ q) :
    Saying w w4 p S last now ds und a0 c0 (j + 1) a4 (n1 + 1) c4 a2 n2 c2 (More S' w1 w2) := by
  obtain ⟨hout, u2⟩ := hk
  have s1 := b1.size
  have s2 := u2.size
  have s4 := u4.size
  have hn := h.out.nd
  have e1 : agSaid now (ds.take (j + 1)) = agSaid now (ds.take j) ++ [Go.Proofs.Ytcnheikckfhniaa.said (mget ds j) now] := by rw [mtake_at hj, agSaid_snoc, ho]; rfl
  have e2 : agOver (ds.take (j + 1)) = agOver (ds.take j) := by rw [mtake_at hj, agOver_snoc, ho]; rfl
  have nb : ∀ q, q < wr.heap.size → ¬ S' q → ¬ More S' w1 w2 q := fun q h1 h2 h3 => h3.elim h2 (fun h4 => by omega)
  refine ⟨fun k hk => ?_, ?_, ?_, ?_, ?_, ?_, ?_, ?_, ?_⟩
  · rcases hk with hk | ⟨q1, q2⟩
    · exact ⟨(h.inn k hk).1, by have := (h.inn k hk).2; omega⟩
    · exact ⟨.inr (by have := h.up.size; omega), by omega⟩
  · have q := hout.upd u4 (fun k hk e => nb k (own_in h.r1 e) (h.o1 k e) hk)
    have e3 := agTms_said hj hn ho
    have e4 : (Go.Proofs.Ytcnheikckfhniaa.said (mget ds j) now).key = (mget ds j).key := rfl
    rw [e4, e3] at q
    exact OutSt.perm q (agNow_said hj hn ho) (List.Perm.refl _)
  · rw [e1]
    exact r4
  · rw [e2]
    exact ownsRow_upd (ownsRow_upd (ownsRow_upd (S := fun _ => False) h.r2 (Upd.below b1) (fun _ _ x => x)) u2 (fun q hq => h.o2 q hq)) u4 (fun q hq e => h.o12 q e hq)
  · intro b o e
    obtain ⟨q1, q2, q3, q4, q5, q6⟩ := h.k0 b o e
    refine ⟨q1, by omega, nb b q2 q3, fun i hi => ?_, fun e4 => ?_, q6⟩
    · exact (u4.cell (p := ⟨b, o + i, none⟩) (by show b < _; omega) q5).trans ((u2.cell (p := ⟨b, o + i, none⟩) (by show b < _; omega) q3).trans ((b1.cell (p := ⟨b, o + i, none⟩) q2).trans (q4 i hi)))
    · rcases l4 b e4 with e5 | e5
      · exact q5 e5
      · omega
  · intro q hq hS
    rcases l4 q hq with e5 | e5
    · exact nb q (own_in h.r1 e5) (h.o1 q e5) hS
    · rcases hS with hS | ⟨_, hS⟩
      · have := (h.inn q hS).2; omega
      · omega
  · exact fun q hq => nb q (own_in h.r2 hq) (h.o2 q hq)
  · intro q hq e4
    rcases l4 q hq with e5 | e5
    · exact h.o12 q e5 e4
    · have := own_in h.r2 e4; omega
  · refine ((h.up.trans (Upd.below b1 (S := S)) (fun _ _ x => x)).trans (u2.mono (S' := S') (fun _ _ x => x)) (fun k hk x => ?_)).trans u4 (fun k hk x => ?_)
    · rcases (h.inn k x).1 with y | y
      · exact y
      · omega
    · have := own_base h.r1 x; omega
/-- At the start of the loop. -/
theorem Saying.start {xs : List Msg} {wd ws : World} {b o : Nat} (hS : ∀ k, S k → k < w.heap.size) (hd : OutSt wd p S last xs ((xs.filter (fun m => !dueB now m)).map tmOf)) (ud : Upd S w wd) (us : Upd (fun q => q = b) wd ws) (h0 : w.heap.size ≤ b) (hb : b < wd.heap.size)
    (hc : ∀ i, i < (xs.filter (dueB now)).length → ws.cell? ⟨b, o + i, none⟩ = some (.int .i64 (mget (xs.filter (dueB now)) i).key)) : Saying w ws p S last now (xs.filter (dueB now)) (xs.filter (fun m => !dueB now m)) (some ⟨b, o, none⟩) c0 0 none 0 0 none 0 0 S := by
  refine ⟨fun k hk => ⟨.inl hk, by have := hS k hk; have := ud.size; have := us.size; omega⟩, ?_, World.ownsRow_nil _ _ _ _, World.ownsRow_nil _ _ _ _, ?_, (fun q hq => by cases hq), (fun q hq => by cases hq), (fun q hq => by cases hq), ?_⟩
  · have e : agTms now (xs.filter (dueB now)) (xs.filter (fun m => !dueB now m)) 0 = (xs.filter (fun m => !dueB now m)).map tmOf := by
      unfold agTms agSaid
      simp
    rw [e]
    exact OutSt.perm (hd.upd us (fun k hk e => by have := hS k hk; omega)) (agNow_zero now xs).symm (List.Perm.refl _)
  · intro b' o' e
    cases e
    exact ⟨h0, Nat.lt_of_lt_of_le hb us.size, fun x => by have := hS b x; omega, hc, fun e => (by cases e), fun e => (by cases e)⟩
  · exact ud.trans us (fun k hk e => by omega)
end
end Go.Proofs.Ytcnheikckfhniaa
