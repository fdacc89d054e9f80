/-
  Texts of mine in build order. No conditions of their own.
-/
import Derived.Test.YtaeladkcmpdkhaaGreatDoorPack10
import Derived.Test.YtaeladkcmpdkhaaGreatDoorPack11
set_option maxHeartbeats 16000000
namespace Go.Proofs.YtaeladkcmpdkhaaGreatDoor
section
open Go.RowKit Go.Lib
theorem ta_nd (n : Int) (v : World) : Sem.run Tryz.prog (Instr.typeAssert (.iface 157 (.int .i64 n)) 20 157 true) v = .ok (.tuple #[.int .i64 n, .bool true]) v := by kernel_rfl
theorem ta_nd_nil (v : World) : Sem.run Tryz.prog (Instr.typeAssert .nilIface 20 157 true) v = .ok (.tuple #[.int .i64 0, .bool false]) v := by kernel_rfl
theorem ta_nd_wt (k b : Int) (v : World) : Sem.run Tryz.prog (Instr.typeAssert (.iface 186 (.agg #[.int .i64 k, .int .i64 b])) 20 157 true) v = .ok (.tuple #[.int .i64 0, .bool false]) v := by kernel_rfl
theorem ta_nd_br (v : World) : Sem.run Tryz.prog (Instr.typeAssert (.iface 208 (.agg #[])) 20 157 true) v = .ok (.tuple #[.int .i64 0, .bool false]) v := by kernel_rfl
theorem ta_wt (k b : Int) (v : World) : Sem.run Tryz.prog (Instr.typeAssert (.iface 186 (.agg #[.int .i64 k, .int .i64 b])) 20 186 true) v = .ok (.tuple #[.agg #[.int .i64 k, .int .i64 b], .bool true]) v := by kernel_rfl
theorem ta_wt_nil (v : World) : Sem.run Tryz.prog (Instr.typeAssert .nilIface 20 186 true) v = .ok (.tuple #[.agg #[.int .i64 0, .int .i64 0], .bool false]) v := by kernel_rfl
theorem ta_wt_br (v : World) : Sem.run Tryz.prog (Instr.typeAssert (.iface 208 (.agg #[])) 20 186 true) v = .ok (.tuple #[.agg #[.int .i64 0, .int .i64 0], .bool false]) v := by kernel_rfl
section
variable {W w : World} {R : Nat} {ta : Option Addr} {tc : Nat} {i l o : Value} {L : List Tok} {p : Nat} {all : List Nd} {S : List It}
theorem q_take_nd {n : Int} (h : Tq W w R ta tc i l o L p all (S ++ [.nd n])) (hl : S.length ≤ 100000) :
  Calls Tryz.prog 160 #[.pointer (some ⟨R, 0, none⟩)] w fun e w' => e = .returned (.tuple #[.int .i64 n, .bool true]) ∧ Tq W w' R ta tc i l o L p all S ∧ Keep TY w w' := by
 have TP := q_top_some h hl
 have DR := fun (v : World) (d : Below w.heap.size w v) => q_drop (h.more d) hl
 unfold itV at TP
 dsimp only at TP
 clear h hl
 have TA := ta_nd n
 go_enter Tryz.func160, Tryz.ntmps160
 go_wp2_with (first
  | (go_at_call 186; (with_reducible refine Calls.mono TP ?_); rintro e w1 ⟨rfl, d1⟩)
  | (go_at_call 187; (with_reducible refine Calls.mono (DR _ (by assumption)) ?_); rintro e w2 ⟨rfl, T2, K2⟩))
 go_ret2
 exact ⟨rfl, T2, (Keep.of TY d1).trans K2⟩
theorem q_take_no (h : Tq W w R ta tc i l o L p all S) (hl : S.length ≤ 100000) (hS : ∀ n, S.getLast? ≠ some (.nd n)) :
  Calls Tryz.prog 160 #[.pointer (some ⟨R, 0, none⟩)] w fun e w' => e = .returned (.tuple #[.int .i64 0, .bool false]) ∧ Below w.heap.size w w' := by
 have TP := q_top h hl
 unfold topV at TP
 cases hg : S.getLast? with
 | none =>
  rw [hg] at TP
  dsimp only at TP
  clear h hl hS hg
  have TA := ta_nd_nil
  go_enter Tryz.func160, Tryz.ntmps160
  go_wp2_with (go_at_call 186; (with_reducible refine Calls.mono TP ?_); rintro e w1 ⟨rfl, d1⟩)
  go_ret2
  exact ⟨rfl, d1⟩
 | some x =>
  rw [hg] at TP
  cases x with
  | inl n =>
   exact absurd hg (hS n)
  | inr y => cases y with
   | none =>
    unfold itV at TP
    dsimp only at TP
    clear h hl hS hg
    have TA := ta_nd_br
    go_enter Tryz.func160, Tryz.ntmps160
    go_wp2_with (go_at_call 186; (with_reducible refine Calls.mono TP ?_); rintro e w1 ⟨rfl, d1⟩)
    go_ret2
    exact ⟨rfl, d1⟩
   | some y =>
    obtain ⟨k, b⟩ := y
    unfold itV at TP
    dsimp only at TP
    clear h hl hS hg
    have TA := ta_nd_wt k b
    go_enter Tryz.func160, Tryz.ntmps160
    go_wp2_with (go_at_call 186; (with_reducible refine Calls.mono TP ?_); rintro e w1 ⟨rfl, d1⟩)
    go_ret2
    exact ⟨rfl, d1⟩
theorem stk_last (fs : List Fr) (n : Int) : (stk fs).getLast? ≠ some (.nd n) := by
 cases fs with
 | nil => simp [stk]
 | cons f fs => rcases f with ⟨k, l, c⟩ | (_ | _) <;> simp [stk]
theorem num_zeroY {W w : World} (hb : Below W.heap.size W w) (k a b x : Int) (y : ByteArray) : NumW W w (rawOf ⟨k, a, b, x, y, (false, 0, 0)⟩, .slice none 0 0, .slice none 0 0) := num_zero hb k a b x y
theorem q_settled {fs : List Fr} (h : Tq W w R ta tc i l o L p all (stk fs)) (c : Bool) (a : Int) (hl : all.length + (stk fs).length ≤ 50000) {E : List Fr × Int × Rd} (hE : setF c fs a ⟨p, false, all⟩ = E) :
  Calls Tryz.prog 164 #[.pointer (some ⟨R, 0, none⟩), .int .i64 a, .int .i64 (binds c)] w fun e w' => e = .returned (.int .i64 E.2.1) ∧ Tq W w' R ta tc i l o L p E.2.2.all (stk E.1) ∧ Keep TY w w' := by
 have HH : Hid (Tq W w R ta tc i l o L p all (stk fs) ∧ all.length + (stk fs).length ≤ 50000 ∧ setF c fs a ⟨p, false, all⟩ = E) := ⟨h, hl, hE⟩
 clear h hl hE
 have BD : binds c = 0 ∨ binds c = 1 := by unfold binds; split <;> simp
 generalize hbd : binds c = bd at *
 have HB : Hid (binds c = bd) := hbd
 clear hbd
 go_enter Tryz.func164, Tryz.ntmps164
 go_wp2
 go_loopg [1] fs.length (fun g s1 v => ∃ (gs : List Fr) (b : Int) (al : List Nd), s1 = .int .i64 b ∧ Tq W v R ta tc i l o L p al (stk gs) ∧ Keep TY w v ∧ setF c gs b ⟨p, false, al⟩ = E ∧ gs.length ≤ g ∧ al.length + (stk gs).length ≤ 50000)
 case atStart => exact ⟨fs, a, all, rfl, HH.out.1, Keep.refl TY w, HH.out.2.2, Nat.le_refl _, HH.out.2.1⟩
 case round =>
  obtain ⟨gs, b, al, rfl, T, K, hE, hg, hl⟩ := hrel
  cases gs with
  | nil =>
   obtain rfl : ([], b, (⟨p, false, al⟩ : Rd)) = E := hE
   have TP := q_top_nil T
   have HT : Hid (Tq W wr R ta tc i l o L p al (stk []) ∧ Keep TY w wr) := ⟨T, K⟩
   have TA := ta_wt_nil
   clear T K hg hl HH
   go_wp2_with (go_at_call 186; (with_reducible refine Calls.mono TP ?_); rintro e w1 ⟨rfl, d1⟩)
   go_ret
   have d2 := d1.alloc d1.size (.cells #[.int .i64 0, .int .i64 0] 186)
   exact ⟨rfl, HT.out.1.more d2, HT.out.2.more d2⟩
  | cons f gs =>
   cases f with
   | inl y =>
    obtain ⟨k, x, c1⟩ := y
    have hn : (stk (.inl (k, x, c1) :: gs)).length = (stk gs).length + 2 := by simp [stk]
    have TP := q_top_some (S0 := stk gs ++ [.nd x]) (x := .wt k (binds c1)) T (by simp; omega)
    unfold itV at TP
    dsimp only at TP
    by_cases hs : (c && !c1) = true
    ·have kb : binds c1 < bd := by
      rw [← HB.out]
      cases c <;> cases c1 <;> simp [binds] at hs ⊢
     obtain rfl : (.inl (k, x, c1) :: gs, b, (⟨p, false, al⟩ : Rd)) = E := by
      rw [← hE]; unfold setF; rw [if_pos hs]
     have HT : Hid (Tq W wr R ta tc i l o L p al (stk (.inl (k, x, c1) :: gs)) ∧ Keep TY w wr) := ⟨T, K⟩
     have TA := ta_wt k (binds c1)
     generalize hb1 : binds c1 = b1 at *
     clear T K hg hl HH hn hs hb1 HB hE BD
     go_wp2_with (go_at_call 186; (with_reducible refine Calls.mono TP ?_); rintro e w1 ⟨rfl, d1⟩)
     go_ret
     have d2 := d1.alloc d1.size (.cells #[.int .i64 k, .int .i64 b1] 186)
     exact ⟨rfl, HT.out.1.more d2, HT.out.2.more d2⟩
    ·have kb : ¬ binds c1 < bd := by
      rw [← HB.out]
      cases c <;> cases c1 <;> simp [binds] at hs ⊢
     have hE' : setF c gs al.length ⟨p, false, al ++ [nd2 k x b]⟩ = E := by
      rw [← hE]; conv => rhs; unfold setF
      rw [if_neg hs]; rfl
     have DR := fun (w1 : World) (z : Obj) (d : Below wr.heap.size wr w1) => q_drop (S0 := stk gs ++ [.nd x]) (x := .wt k (binds c1)) (T.more (d.alloc d.size z)) (by simp; omega)
     have TK := fun (w2 : World) (T2 : Tq W w2 R ta tc i l o L p al (stk gs ++ [.nd x])) => q_take_nd T2 (by omega)
     have AD := fun (w3 : World) (T3 : Tq W w3 R ta tc i l o L p al (stk gs)) => q_add T3 ⟨k, x, b, 0, ⟨#[]⟩, (false, 0, 0)⟩ none 0 0 none 0 0 (num_zeroY T3.below k x b 0 _) (by omega)
     dsimp only at AD
     have TA := ta_wt k (binds c1)
     have HT : Hid (Keep TY w wr ∧ setF c gs al.length ⟨p, false, al ++ [nd2 k x b]⟩ = E ∧ gs.length + 1 ≤ gk ∧ al.length + (stk gs).length + 2 ≤ 50000) := ⟨K, hE', hg, by omega⟩
     generalize binds c1 = b1 at *
     clear T K hE hE' hg hl HH hn hs HB BD
     go_wp2_with (first
      | (go_at_call 186; (with_reducible refine Calls.mono TP ?_); rintro e w1 ⟨rfl, d1⟩)
      | (go_at_call 187; (with_reducible refine Calls.mono (DR _ _ d1) ?_); rintro e w2 ⟨rfl, T2, K2⟩)
      | (go_at_call 160; (with_reducible refine Calls.mono (TK _ T2) ?_); rintro e w3 ⟨rfl, T3, K3⟩; have b3 := (((BoxC.new w1 #[.int .i64 k, .int .i64 b1] 186).keep K2 (by unfold TY; decide)).keep K3 (by unfold TY; decide)).cells2; obtain ⟨c30, c31, -, -⟩ := b3)
      | (go_at_call 190; (with_reducible refine Calls.mono (AD _ T3) ?_); rintro e w4 ⟨rfl, T4, K4⟩))
     obtain ⟨K, hE, hg, hl⟩ := HT.out
     go_roundg gs.length
     case measure => omega
     case rel =>
      refine ⟨gs, al.length, al ++ [nd2 k x b], rfl, T4, (((K.trans (Keep.of TY (d1.alloc d1.size (.cells #[.int .i64 k, .int .i64 b1] 186)))).trans K2).trans K3).trans K4, hE, Nat.le_refl _, ?_⟩
      rw [List.length_append]; show al.length + 1 + _ ≤ _; omega
   | inr y => cases y with
    | false =>
     have hn : (stk (.inr false :: gs)).length = (stk gs).length + 1 := by simp [stk]
     have TP := q_top_some (S0 := stk gs) (x := .wt 6 2) T (by omega)
     unfold itV at TP
     dsimp only at TP
     have DR := fun (w1 : World) (z : Obj) (d : Below wr.heap.size wr w1) => q_drop (S0 := stk gs) (x := .wt 6 2) (T.more (d.alloc d.size z)) (by omega)
     have TK := fun (w2 : World) (T2 : Tq W w2 R ta tc i l o L p al (stk gs)) => q_take_no T2 (by omega) (stk_last gs)
     have AD := fun (w3 : World) (T3 : Tq W w3 R ta tc i l o L p al (stk gs)) => q_add T3 ⟨6, b, 0, 0, ⟨#[]⟩, (false, 0, 0)⟩ none 0 0 none 0 0 (num_zeroY T3.below 6 b 0 0 _) (by omega)
     dsimp only at AD
     have TA := ta_wt 6 2
     have kb : ¬ (2 : Int) < bd := by omega
     have HT : Hid (Keep TY w wr ∧ setF c (.inr false :: gs) b ⟨p, false, al⟩ = E ∧ gs.length + 1 ≤ gk ∧ al.length + (stk gs).length + 1 ≤ 50000) := ⟨K, hE, hg, by omega⟩
     have LB := stk_last gs
     clear T K hE hg hl HH hn
     go_wp2_with (first
      | (go_at_call 186; (with_reducible refine Calls.mono TP ?_); rintro e w1 ⟨rfl, d1⟩)
      | (go_at_call 187; (with_reducible refine Calls.mono (DR _ _ d1) ?_); rintro e w2 ⟨rfl, T2, K2⟩)
      | (go_at_call 160; (with_reducible refine Calls.mono (TK _ T2) ?_); rintro e w3 ⟨rfl, d3⟩; have b3 := (((BoxC.new w1 #[.int .i64 6, .int .i64 2] 186).keep K2 (by unfold TY; decide)).more d3).cells2; obtain ⟨c30, c31, -, -⟩ := b3)
      | (go_at_call 190; (with_reducible refine Calls.mono (AD _ (T2.more d3)) ?_); rintro e w4 ⟨rfl, T4, K4⟩))
     obtain ⟨K, hE, hg, hl⟩ := HT.out
     go_roundg gs.length
     case measure => omega
     case rel =>
      refine ⟨gs, al.length, al ++ [nd1 b], rfl, T4, (((K.trans (Keep.of TY (d1.alloc d1.size (.cells #[.int .i64 6, .int .i64 2] 186)))).trans K2).trans (Keep.of TY d3)).trans K4, hE, Nat.le_refl _, ?_⟩
      rw [List.length_append]; show al.length + 1 + _ ≤ _; omega
    | true =>
     obtain rfl : (.inr true :: gs, b, (⟨p, false, al⟩ : Rd)) = E := hE
     have hn : (stk (.inr true :: gs)).length = (stk gs).length + 1 := by simp [stk]
     have TP := q_top_some (S0 := stk gs) (x := .br) T (by omega)
     unfold itV at TP
     dsimp only at TP
     have HT : Hid (Tq W wr R ta tc i l o L p al (stk (.inr true :: gs)) ∧ Keep TY w wr) := ⟨T, K⟩
     have TA := ta_wt_br
     clear T K hg hl HH hn
     go_wp2_with (go_at_call 186; (with_reducible refine Calls.mono TP ?_); rintro e w1 ⟨rfl, d1⟩)
     go_ret
     have d2 := d1.alloc d1.size (.cells #[.int .i64 0, .int .i64 0] 186)
     exact ⟨rfl, HT.out.1.more d2, HT.out.2.more d2⟩
end
end
section
open Go.Lib
theorem lexI_right (s : ByteArray) : ∀ t ∈ (lexI s).1, RightT t.1 t.2.1 ∧ t.2.1.size ≤ s.size := by
 unfold lexI
 split
 ·intro t ht; exact absurd ht (by simp)
 ·exact lexF_right s _ _ _ (fun t ht => absurd ht (by simp))
end
section
open Go.Lib
def spanF (K : List Int) (s : ByteArray) : Nat → Nat → Nat
 | 0, i => i
 | f + 1, i => if i < s.size ∧ kindAt s i ∈ K then spanF K s f (i + stepAt s i) else i
def spanE (K : List Int) (s : ByteArray) (i : Nat) : Nat := spanF K s (s.size + 1) i
theorem spanF_more (K : List Int) (s : ByteArray) : ∀ f i, s.size < i + f → ∀ g, s.size < i + g → spanF K s f i = spanF K s g i := by
 intro f
 induction f with
 | zero =>
  intro i hf g hg
  cases g with
  | zero => rfl
  | succ g => unfold spanF; rw [if_neg (fun e => by omega)]
 | succ f ih =>
  intro i hf g hg
  cases g with
  | zero => unfold spanF; rw [if_neg (fun e => by omega)]
  | succ g =>
   unfold spanF
   by_cases h : i < s.size ∧ kindAt s i ∈ K
   ·have := stepAt_size h.1
    rw [if_pos h, if_pos h, ih _ (by omega) g (by omega)]
   ·rw [if_neg h, if_neg h]
theorem spanE_step {K : List Int} {s : ByteArray} {i : Nat} (hi : i < s.size) (h : kindAt s i ∈ K) : spanE K s i = spanE K s (i + stepAt s i) := by
 unfold spanE
 have hz := stepAt_size hi
 show (if i < s.size ∧ kindAt s i ∈ K then _ else _) = _
 rw [if_pos ⟨hi, h⟩]
 exact spanF_more K s _ _ (by omega) _ (by omega)
theorem spanE_here {K : List Int} {s : ByteArray} {i : Nat} (h : ¬ (i < s.size ∧ kindAt s i ∈ K)) : spanE K s i = i := by
 unfold spanE
 show (if i < s.size ∧ kindAt s i ∈ K then _ else _) = _
 rw [if_neg h]
theorem spanF_range (K : List Int) (s : ByteArray) : ∀ f i, i ≤ spanF K s f i ∧ (i ≤ s.size → spanF K s f i ≤ s.size) := by
 intro f
 induction f with
 | zero => intro i; exact ⟨Nat.le_refl _, id⟩
 | succ f ih =>
  intro i
  unfold spanF
  split
  ·rename_i h
   have h1 := stepAt_size h.1
   have := ih (i + stepAt s i)
   exact ⟨by omega, fun _ => this.2 (by omega)⟩
  ·exact ⟨Nat.le_refl _, id⟩
theorem spanE_range (K : List Int) (s : ByteArray) (i : Nat) : i ≤ spanE K s i ∧ (i ≤ s.size → spanE K s i ≤ s.size) := spanF_range K s _ i
theorem spanE_word (s : ByteArray) (i : Nat) : spanE [1, 2] s i = wordEnd s i := by
 have h : ∀ f i, spanF [1, 2] s f i = wordF s f i := by
  intro f
  induction f with
  | zero => intro i; rfl
  | succ f ih =>
   intro i
   unfold spanF wordF
   rw [ih]
   by_cases h2 : kindAt s i = 1 ∨ kindAt s i = 2
   ·rw [if_pos h2, if_pos ⟨kindAt_in (by omega), by simpa using h2⟩]
   ·rw [if_neg h2, if_neg (fun e => h2 (by simpa using e.2))]
 exact h _ _
theorem spanE_digits (s : ByteArray) (i : Nat) : spanE [2] s i = digEnd s i := by
 have h : ∀ f i, spanF [2] s f i = digF s f i := by
  intro f
  induction f with
  | zero => intro i; rfl
  | succ f ih =>
   intro i
   unfold spanF digF
   rw [ih]
   by_cases h2 : kindAt s i = 2
   ·rw [if_pos h2, if_pos ⟨(kindAt_digit.1 h2).1, by simpa using h2⟩, stepAt_digit h2]
   ·rw [if_neg h2, if_neg (fun e => h2 (by simpa using e.2))]
 exact h _ _
theorem blanks_end (s : ByteArray) : ∀ k i, s.size - i ≤ k → kindAt s (spanE [3] s i) ≠ 3 := by
 intro k
 induction k with
 | zero =>
  intro i hk
  rw [spanE_here (fun e => by omega)]
  intro e
  have := kindAt_in (s := s) (i := i) (by omega)
  omega
 | succ k ih =>
  intro i hk
  by_cases h : i < s.size ∧ kindAt s i ∈ ([3] : List Int)
  ·have := stepAt_size h.1
   rw [spanE_step h.1 h.2]
   exact ih _ (by omega)
  ·rw [spanE_here h]
   intro e
   exact h ⟨kindAt_in (by omega), by simpa using e⟩
theorem lexF_blanks (s : ByteArray) (out : List Tok) : ∀ k i, s.size - i ≤ k → lexF s (s.size + 1) i out = lexF s (s.size + 1) (spanE [3] s i) out := by
 intro k
 induction k with
 | zero =>
  intro i hk
  rw [spanE_here (fun e => by omega)]
 | succ k ih =>
  intro i hk
  by_cases h : i < s.size ∧ kindAt s i ∈ ([3] : List Int)
  ·have h3 : kindAt s i = 3 := by simpa using h.2
   rw [spanE_step h.1 h.2, lexF_step h.1, if_pos h3, stepAt_blank h3]
   exact ih _ (by omega)
  ·rw [spanE_here h]
theorem Reach.span {K : List Int} {s : ByteArray} (hK : ∀ k ∈ K, 1 ≤ k) : ∀ k i l c, s.size - i ≤ k → Reach s i l c → ∃ l' c', Reach s (spanE K s i) l' c' := by
 intro k
 induction k with
 | zero =>
  intro i l c hk h
  rw [spanE_here (fun e => by omega)]
  exact ⟨_, _, h⟩
 | succ k ih =>
  intro i l c hk h
  by_cases h2 : i < s.size ∧ kindAt s i ∈ K
  ·have hz := stepAt_size h2.1
   obtain ⟨l', c', h'⟩ := h.step (hK _ h2.2)
   rw [spanE_step h2.1 h2.2]
   exact ih _ _ _ (by omega) h'
  ·rw [spanE_here h2]; exact ⟨_, _, h⟩
theorem Reach.range {s : ByteArray} {i : Nat} {l c : Int} (h : Reach s i l c) : i ≤ s.size ∧ 1 ≤ l ∧ l ≤ i + 1 ∧ 1 ≤ c ∧ c ≤ i + 1 := by
 refine h (fun i l c => i ≤ s.size ∧ 1 ≤ l ∧ l ≤ i + 1 ∧ 1 ≤ c ∧ c ≤ i + 1) ⟨Nat.zero_le _, by omega, by omega, by omega, by omega⟩ ?_
 rintro i l c ⟨h0, h1, h2, h3, h4⟩ hi -
 have hz := next_size hi
 by_cases h10 : nextR s i = 10
 ·rw [if_pos h10, if_pos h10]; omega
 ·rw [if_neg h10, if_neg h10]; omega
theorem Reach.on {u t : ByteArray} {k : Nat} (h : Shifted u t k) {L C : Int} (hk : Reach u k L C) {n : Nat} {l c : Int} (hn : Reach t n l c) : Reach u (k + n) (L + (l - 1)) (if l = 1 then C + (c - 1) else c) := by
 have hz := h.size
 refine (hn (fun n l c => 1 ≤ l ∧ Reach u (k + n) (L + (l - 1)) (if l = 1 then C + (c - 1) else c)) ⟨by omega, ?_⟩ ?_).2
 ·rw [if_pos rfl, show L + ((1 : Int) - 1) = L by omega, show C + ((1 : Int) - 1) = C by omega]; exact hk
 ·rintro n l c ⟨h1, ih⟩ hi hr
  have e1 : nextR u (k + n) = nextR t n := by unfold nextR; rw [h.decode]
  have e2 : nextN u (k + n) = nextN t n := by unfold nextN; rw [h.decode]
  have hx := ih.next (by omega) (by rw [e1]; exact hr)
  rw [e1, e2] at hx
  by_cases h10 : nextR t n = 10
  ·rw [if_pos h10, if_pos h10] at hx
   rw [if_pos h10, if_pos h10, if_neg (by omega), show L + (l + 1 - 1) = L + (l - 1) + 1 by omega, ← Nat.add_assoc]
   exact ⟨by omega, hx⟩
  ·rw [if_neg h10, if_neg h10] at hx
   rw [if_neg h10, if_neg h10, ← Nat.add_assoc]
   refine ⟨h1, ?_⟩
   by_cases hl : l = 1
   ·rw [if_pos hl] at hx ⊢
    rw [show C + (c + 1 - 1) = C + (c - 1) + 1 by omega]; exact hx
   ·rw [if_neg hl] at hx ⊢; exact hx
theorem reach_alone {t : ByteArray} {n : Nat} {l c : Int} (h : Reach t n l c) : placeI (t.extract 0 n) ((n : Nat) : Int) = (l, c) := by
 have hn := h.range.1
 have hz : (t.extract 0 n).size = n := by rw [ByteArray.size_extract]; omega
 have hf := front t hn
 generalize t.extract 0 n = v at hz hf
 subst hz
 exact ((h.front hf (Nat.le_refl _)).at).last (Int.le_refl _)
theorem extract_more {s : ByteArray} (i n : Nat) : (s.extract i s.size).extract n (s.extract i s.size).size = s.extract (i + n) s.size := by
 refine ByteArray.ext ?_
 simp only [ByteArray.data_extract, ByteArray.size_extract, Array.extract_extract]
 have e : s.size = s.data.size := rfl
 rw [e]
 congr 1
 omega
end
section
open Go.Lib
def above (t : ByteArray) : ByteArray := t.extract 0 (digEnd t 0)
def below (t : ByteArray) : ByteArray := if digEnd t 0 < t.size ∧ bt t (digEnd t 0) = 124 then t.extract (digEnd t 0 + 1) (digEnd t (digEnd t 0 + 1)) else ⟨#[]⟩
def plainB (x : ByteArray) : Bool := x.toList == [48] || (decide (x.size ≠ 0) && decide (bt x 0 ≠ 48))
def longB (a b : ByteArray) : Bool := decide (40 < a.size) || decide (40 < b.size)
def mayB (a b : ByteArray) : Bool := !longB a b && plainB a && (decide (b.size = 0) || (plainB b && !(b.toList == [48])))
theorem size_zero {x : ByteArray} (h : x.size = 0) : x = ⟨#[]⟩ := by
 apply ByteArray.ext
 exact Array.eq_empty_of_size_eq_zero h
theorem extract_none (x : ByteArray) {i j : Nat} (h : j ≤ i) : x.extract i j = ⟨#[]⟩ := size_zero (by rw [ByteArray.size_extract]; omega)
theorem toList_one {x : ByteArray} (h : (x.toList == [48]) = true) : x.size = 1 ∧ bt x 0 = 48 := by
 rw [ByteArray.toList_eq, beq_iff_eq] at h
 have hz : x.size = 1 := by
  show x.data.size = 1
  rw [← Array.length_toList, h]; rfl
 refine ⟨hz, ?_⟩
 obtain ⟨⟨l⟩⟩ := x
 have h : l = [48] := h
 subst h
 rfl
theorem one_toList {x : ByteArray} (h : x.size = 1) (h0 : bt x 0 = 48) : (x.toList == [48]) = true := by
 rw [ByteArray.toList_eq, beq_iff_eq]
 obtain ⟨⟨l⟩⟩ := x
 have hl : l.length = 1 := h
 obtain ⟨b, rfl⟩ := List.length_eq_one_iff.1 hl
 have h1 : b.toNat = 48 := h0
 have h2 : b = 48 := UInt8.toNat_inj.1 h1
 rw [h2]
theorem plain_part {x : ByteArray} (h : digEnd x 0 = x.size) : partB x = (decide (x.size ≤ 40) && plainB x) := by
 unfold partB plainB
 rw [decide_eq_true h, Bool.and_true]
 by_cases h0 : x.size = 0
 ·rw [decide_eq_false (show ¬ (1 ≤ x.size ∧ x.size ≤ 40) by omega), decide_eq_false (show ¬ x.size ≠ 0 by omega)]
  have : (x.toList == [48]) = false := by
   rw [Bool.eq_false_iff]
   intro e
   have := (toList_one e).1
   omega
  rw [this]; simp
 ·by_cases h4 : x.size ≤ 40
  ·rw [decide_eq_true (show 1 ≤ x.size ∧ x.size ≤ 40 by omega), decide_eq_true h4, decide_eq_true (show x.size ≠ 0 from h0)]
   simp only [Bool.true_and]
   by_cases h8 : bt x 0 = 48
   ·rw [decide_eq_false (show ¬ bt x 0 ≠ 48 from fun e => e h8), Bool.or_false, Bool.or_false]
    by_cases h1 : x.size = 1
    ·rw [decide_eq_true h1, one_toList h1 h8]
    ·rw [decide_eq_false h1]
     symm
     rw [Bool.eq_false_iff]
     exact fun e => h1 (toList_one e).1
   ·rw [decide_eq_true (show bt x 0 ≠ 48 from h8), Bool.or_true, Bool.or_true]
  ·rw [decide_eq_false (show ¬ (1 ≤ x.size ∧ x.size ≤ 40) by omega), decide_eq_false h4]; rfl
theorem part_no {x : ByteArray} (h : digEnd x 0 ≠ x.size) : partB x = false := by
 unfold partB; rw [decide_eq_false h, Bool.and_false, Bool.false_and]
theorem digEnd_all (s : ByteArray) : ∀ k i, s.size - i ≤ k → ∀ j, i ≤ j → j < digEnd s i → kindAt s j = 2 := by
 intro k
 induction k with
 | zero =>
  intro i hk j h0 h1
  rw [digEnd_here (fun e => by have := (kindAt_digit.1 e).1; omega)] at h1
  omega
 | succ k ih =>
  intro i hk j h0 h1
  by_cases h : kindAt s i = 2
  ·have hi := (kindAt_digit.1 h).1
   rcases Nat.eq_or_lt_of_le h0 with rfl | h2
   ·exact h
   ·rw [digEnd_step h] at h1
    exact ih (i + 1) (by omega) j h2 h1
  ·rw [digEnd_here h] at h1; omega
theorem digEnd_stop (s : ByteArray) : ∀ k i, s.size - i ≤ k → kindAt s (digEnd s i) ≠ 2 := by
 intro k
 induction k with
 | zero =>
  intro i hk
  rw [digEnd_here (fun e => by have := (kindAt_digit.1 e).1; omega)]
  exact fun e => by have := (kindAt_digit.1 e).1; omega
 | succ k ih =>
  intro i hk
  by_cases h : kindAt s i = 2
  ·have hi := (kindAt_digit.1 h).1
   rw [digEnd_step h]
   exact ih _ (by omega)
  ·rw [digEnd_here h]; exact h
theorem cutF_at {s : ByteArray} {A : Nat} (hA : A ≤ s.size) (h0 : ∀ j, j < A → bt s j ≠ 124) (h1 : A = s.size ∨ bt s A = 124) : ∀ f i, i ≤ A → s.size < i + f → cutF s f i = A := by
 intro f
 induction f with
 | zero => intro i hi hf; omega
 | succ f ih =>
  intro i hi hf
  unfold cutF
  rcases Nat.eq_or_lt_of_le hi with rfl | hi
  ·rcases h1 with h1 | h1
   ·rw [if_neg (by omega)]
   ·split
    ·rfl
    ·rfl
  ·rw [if_pos (by omega), if_neg (h0 i hi)]
   exact ih _ (by omega) (by omega)
theorem cutI_at {s : ByteArray} {A : Nat} (hA : A ≤ s.size) (h0 : ∀ j, j < A → bt s j ≠ 124) (h1 : A = s.size ∨ bt s A = 124) : cutI s = A := cutF_at hA h0 h1 _ 0 (Nat.zero_le _) (by omega)
theorem cutF_told (s : ByteArray) : ∀ f i, s.size < i + f → (∀ j, i ≤ j → j < cutF s f i → bt s j ≠ 124) ∧ (cutF s f i < s.size → bt s (cutF s f i) = 124) := by
 intro f
 induction f with
 | zero => intro i hf; exact ⟨fun j h0 h1 => absurd h1 (by unfold cutF; omega), fun h => absurd h (by unfold cutF; omega)⟩
 | succ f ih =>
  intro i hf
  unfold cutF
  by_cases hi : i < s.size
  ·rw [if_pos hi]
   by_cases hb : bt s i = 124
   ·rw [if_pos hb]
    exact ⟨fun j h0 h1 => by omega, fun _ => hb⟩
   ·rw [if_neg hb]
    obtain ⟨h1, h2⟩ := ih (i + 1) (by omega)
    refine ⟨fun j h3 h4 => ?_, h2⟩
    rcases Nat.eq_or_lt_of_le h3 with rfl | h3
    ·exact hb
    ·exact h1 j h3 h4
  ·rw [if_neg hi]
   exact ⟨fun j h0 h1 => by omega, fun h => absurd h hi⟩
theorem cutI_told (s : ByteArray) : (∀ j, j < cutI s → bt s j ≠ 124) ∧ (cutI s < s.size → bt s (cutI s) = 124) := by
 obtain ⟨h1, h2⟩ := cutF_told s (s.size + 1) 0 (by omega)
 exact ⟨fun j h => h1 j (Nat.zero_le _) h, h2⟩
theorem digit_stroke {s : ByteArray} {j : Nat} (h : kindAt s j = 2) : bt s j ≠ 124 := by
 have := kindAt_digit.1 h
 omega
theorem above_size (t : ByteArray) : (above t).size = digEnd t 0 := by
 have := (digEnd_range t 0).2 (Nat.zero_le _)
 unfold above; rw [ByteArray.size_extract]; omega
theorem below_size (t : ByteArray) : (below t).size = if digEnd t 0 < t.size ∧ bt t (digEnd t 0) = 124 then digEnd t (digEnd t 0 + 1) - (digEnd t 0 + 1) else 0 := by
 have h1 := digEnd_range t (digEnd t 0 + 1)
 unfold below
 by_cases h : digEnd t 0 < t.size ∧ bt t (digEnd t 0) = 124
 ·have := h1.2 (by omega)
  rw [if_pos h, if_pos h, ByteArray.size_extract]; omega
 ·rw [if_neg h, if_neg h]; rfl
theorem numEnd_size (t : ByteArray) : numEnd t 0 = if (below t).size = 0 then (above t).size else (above t).size + 1 + (below t).size := by
 rw [below_size, above_size]
 have h1 := digEnd_range t (digEnd t 0 + 1)
 unfold numEnd
 by_cases h : digEnd t 0 < t.size ∧ bt t (digEnd t 0) = 124
 ·rw [if_pos h]
  by_cases h2 : digEnd t 0 + 1 < digEnd t (digEnd t 0 + 1)
  ·rw [if_pos ⟨h.1, h.2, h2⟩, if_neg (by omega)]; omega
  ·rw [if_neg (fun e => h2 e.2.2), if_pos (by omega)]
 ·rw [if_neg h, if_neg (fun e => h ⟨e.1, e.2.1⟩), if_pos rfl]
theorem extract_all (x : ByteArray) : x.extract 0 x.size = x := by simp
theorem numB_may (s : ByteArray) : numB s = (mayB (above s) (below s) && decide (numEnd s 0 = s.size)) := by
 have hd := (digEnd_range s 0).2 (Nat.zero_le _)
 have hall := digEnd_all s _ 0 (Nat.le_refl _)
 have hstop := digEnd_stop s _ 0 (Nat.le_refl _)
 obtain ⟨c1, c2⟩ := cutI_told s
 have c3 := cutI_le s
 have hza := above_size s
 have hzb := below_size s
 have hze := numEnd_size s
 unfold numB
 by_cases hc : cutI s = s.size
 ·rw [if_pos hc]
  have hnb : ¬ (digEnd s 0 < s.size ∧ bt s (digEnd s 0) = 124) := fun e => c1 _ (by omega) e.2
  rw [if_neg hnb] at hzb
  rw [if_pos hzb, hza] at hze
  rw [hze]
  by_cases h : digEnd s 0 = s.size
  ·have ha : above s = s := by unfold above; rw [h]; exact extract_all s
   rw [decide_eq_true h, Bool.and_true, plain_part h]
   unfold mayB longB
   rw [ha, hzb, decide_eq_false (show ¬ 40 < 0 by omega), decide_eq_true (show (0 : Nat) = 0 from rfl), Bool.or_false, Bool.true_or, Bool.and_true]
   by_cases h4 : s.size ≤ 40
   ·rw [decide_eq_true h4, decide_eq_false (by omega)]; rfl
   ·rw [decide_eq_false h4, decide_eq_true (by omega)]; rfl
  ·rw [decide_eq_false h, Bool.and_false]; exact part_no h
 ·rw [if_neg hc]
  have hlt : cutI s < s.size := by omega
  have hb := c2 hlt
  have hdA : digEnd s 0 ≤ cutI s := by
   rcases Nat.lt_or_ge (cutI s) (digEnd s 0) with h | h
   ·exact absurd hb (digit_stroke (hall _ (Nat.zero_le _) h))
   ·exact h
  rcases Nat.eq_or_lt_of_le hdA with h | h
  ·-- the digits end at the stroke
   have hcond : digEnd s 0 < s.size ∧ bt s (digEnd s 0) = 124 := ⟨by omega, by rw [h]; exact hb⟩
   rw [if_pos hcond] at hzb
   have hE := digEnd_range s (digEnd s 0 + 1)
   have hE2 := hE.2 (by omega)
   have hA1 : above s = s.extract 0 (cutI s) := by unfold above; rw [h]
   have hB1 : below s = s.extract (cutI s + 1) (digEnd s (cutI s + 1)) := by unfold below; rw [if_pos hcond, h]
   have hpa : partB (s.extract 0 (cutI s)) = (decide ((above s).size ≤ 40) && plainB (above s)) := by
    rw [← hA1]
    refine plain_part ?_
    have hf := front s hd
    rw [show s.extract 0 (digEnd s 0) = above s from rfl] at hf
    rw [hf.digits _ 0 (Nat.zero_le _) (Nat.le_refl _) (by omega)]; omega
   have hsh := shifted_rest s (i := cutI s + 1) (by omega)
   have hdy := hsh.digits _ 0 (Nat.le_refl _)
   rw [Nat.add_zero] at hdy
   have hzy : (s.extract (cutI s + 1) s.size).size = s.size - (cutI s + 1) := by rw [ByteArray.size_extract]; omega
   rw [h] at hzb hE hE2
   by_cases he : digEnd s (cutI s + 1) = s.size
   ·rw [he] at hB1 hzb
    rw [← hB1] at hdy hzy ⊢
    have hpb : partB (below s) = (decide ((below s).size ≤ 40) && plainB (below s)) := plain_part (by omega)
    rw [hpa, hpb]
    by_cases h0 : (below s).size = 0
    ·have hpl : plainB (below s) = false := by rw [size_zero h0]; unfold plainB; rw [ByteArray.toList_eq]; rfl
     rw [if_pos h0] at hze
     rw [hpl, decide_eq_false (show ¬ numEnd s 0 = s.size by omega)]; simp
    ·rw [if_neg h0] at hze
     rw [decide_eq_true (show numEnd s 0 = s.size by omega), Bool.and_true]
     unfold mayB longB
     rw [decide_eq_false h0, Bool.false_or]
     generalize plainB (above s) = p
     generalize plainB (below s) = q
     generalize ((below s).toList == [48]) = r
     by_cases g1 : (above s).size ≤ 40
     ·rw [decide_eq_true g1, decide_eq_false (show ¬ 40 < (above s).size by omega)]
      by_cases g2 : (below s).size ≤ 40
      ·rw [decide_eq_true g2, decide_eq_false (show ¬ 40 < (below s).size by omega)]
       cases p <;> cases q <;> cases r <;> rfl
      ·rw [decide_eq_false g2, decide_eq_true (show 40 < (below s).size by omega)]
       cases p <;> cases q <;> cases r <;> rfl
     ·rw [decide_eq_false g1, decide_eq_true (show 40 < (above s).size by omega)]; rfl
   ·have hpb : partB (s.extract (cutI s + 1) s.size) = false := part_no (by omega)
    rw [hpb, Bool.and_false, Bool.false_and]
    have hne : ¬ numEnd s 0 = s.size := by
     rw [hze]
     split <;> omega
    rw [decide_eq_false hne, Bool.and_false]
  ·have hnb : ¬ (digEnd s 0 < s.size ∧ bt s (digEnd s 0) = 124) := fun e => c1 _ h e.2
   rw [if_neg hnb] at hzb
   rw [if_pos hzb, hza] at hze
   have hf := front s c3
   have hz0 : (s.extract 0 (cutI s)).size = cutI s := by rw [ByteArray.size_extract]; omega
   have hpa : partB (s.extract 0 (cutI s)) = false := by
    refine part_no ?_
    rw [hf.digits _ 0 (Nat.zero_le _) (Nat.le_refl _) (by omega)]; omega
   rw [hpa, Bool.false_and, Bool.false_and, decide_eq_false (show ¬ numEnd s 0 = s.size by omega), Bool.and_false]
theorem num_front (t : ByteArray) : above (t.extract 0 (numEnd t 0)) = above t ∧ below (t.extract 0 (numEnd t 0)) = below t ∧ numEnd (t.extract 0 (numEnd t 0)) 0 = (t.extract 0 (numEnd t 0)).size ∧ cutI (t.extract 0 (numEnd t 0)) = (above t).size := by
 have hn := numEnd_range (s := t) (i := 0) (Nat.zero_le _)
 have hf := front t hn.2
 have hz : (t.extract 0 (numEnd t 0)).size = numEnd t 0 := by rw [ByteArray.size_extract]; omega
 have hd := digEnd_range t (digEnd t 0 + 1)
 have hd0 := (digEnd_range t 0).2 (Nat.zero_le _)
 have hle : digEnd t 0 ≤ numEnd t 0 := by unfold numEnd; split <;> omega
 have hD : digEnd (t.extract 0 (numEnd t 0)) 0 = digEnd t 0 := hf.digits _ 0 (Nat.zero_le _) (Nat.le_refl _) (by omega)
 have hN : numEnd (t.extract 0 (numEnd t 0)) 0 = (t.extract 0 (numEnd t 0)).size := (hf.number (Nat.zero_le _) (by omega)).trans hz.symm
 have hA : above (t.extract 0 (numEnd t 0)) = above t := by
  unfold above
  rw [hD]
  exact (front_extract hf (by omega)).symm
 refine ⟨hA, ?_, hN, ?_⟩
 ·unfold below
  rw [hD, hz]
  by_cases hc : digEnd t 0 < t.size ∧ bt t (digEnd t 0) = 124
  ·rw [if_pos hc]
   by_cases h2 : digEnd t 0 + 1 < digEnd t (digEnd t 0 + 1)
   ·have he : numEnd t 0 = digEnd t (digEnd t 0 + 1) := by unfold numEnd; rw [if_pos ⟨hc.1, hc.2, h2⟩]
    rw [if_pos ⟨by omega, by rw [hf.same _ (by omega)]; exact hc.2⟩]
    rw [hf.digits _ (digEnd t 0 + 1) (by omega) (Nat.le_refl _) (by omega)]
    exact (front_extract hf (by omega)).symm
   ·have he : numEnd t 0 = digEnd t 0 := by unfold numEnd; rw [if_neg (fun e => h2 e.2.2)]
    rw [if_neg (fun e => by omega), extract_none _ (by omega)]
  ·have he : numEnd t 0 = digEnd t 0 := by unfold numEnd; rw [if_neg (fun e => hc ⟨e.1, e.2.1⟩)]
   rw [if_neg hc, if_neg (fun e => by omega)]
 ·rw [above_size]
  refine cutI_at (by omega) (fun j hj => ?_) ?_
  ·rw [hf.same j (by omega)]
   exact digit_stroke (digEnd_all t _ 0 (Nat.le_refl _) j (Nat.zero_le _) hj)
  ·by_cases hc : digEnd t 0 < t.size ∧ bt t (digEnd t 0) = 124 ∧ digEnd t 0 + 1 < digEnd t (digEnd t 0 + 1)
   ·right
    have he : numEnd t 0 = digEnd t (digEnd t 0 + 1) := by unfold numEnd; rw [if_pos hc]
    rw [hf.same _ (by omega)]; exact hc.2.1
   ·left
    have he : numEnd t 0 = digEnd t 0 := by unfold numEnd; rw [if_neg hc]
    omega
theorem token_number {t : ByteArray} (hk : kindAt t 0 = 2) : tokenI t 0 = if longB (above t) (below t) = true then (0, ⟨#[]⟩, numEnd t 0, 4) else if mayB (above t) (below t) = true then (1, t.extract 0 (numEnd t 0), numEnd t 0, 0) else (0, ⟨#[]⟩, numEnd t 0, 5) := by
 obtain ⟨h1, h2, h3, h4⟩ := num_front t
 have hs := numEnd_size t
 have hn := numEnd_range (s := t) (i := 0) (Nat.zero_le _)
 have hz : (t.extract 0 (numEnd t 0)).size = numEnd t 0 := by rw [ByteArray.size_extract]; omega
 unfold tokenI
 rw [if_neg (by omega), if_pos hk, numB_may (t.extract 0 (numEnd t 0)), h1, h2, h3, h4, decide_eq_true rfl, Bool.and_true]
 by_cases hl : longB (above t) (below t) = true
 ·rw [if_pos hl, if_pos]
  unfold longB at hl
  simp only [Bool.or_eq_true, decide_eq_true_eq] at hl
  rw [hz, hs]
  split <;> omega
 ·rw [if_neg hl, if_neg]
  unfold longB at hl
  simp only [Bool.or_eq_true, decide_eq_true_eq] at hl
  rw [hz, hs]
  split <;> omega
end
end Go.Proofs.YtaeladkcmpdkhaaGreatDoor
