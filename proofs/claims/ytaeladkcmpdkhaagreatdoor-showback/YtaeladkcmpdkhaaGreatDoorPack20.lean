/-
  Texts of mine in build order. No conditions of their own.
-/
import Derived.Test.YtaeladkcmpdkhaaGreatDoorPack19
set_option maxHeartbeats 40000000
namespace Go.Proofs.YtaeladkcmpdkhaaGreatDoor
section
open Go.RowKit Go.Lib
theorem name_yes {L : List Tok} (hL : Toks L) {p : Nat} {all : List Nd} (h : nameB (nextT L p).2.1 = true) : (⟨p, false, all⟩ : Rd).nameT L = ((nextT L p).2.1, ⟨p + 1, false, all⟩) ∧ ∃ t, L[p]? = some t ∧ t.1 = 0 := by
 cases e : L[p]? with
 | none =>
  rw [nextT_none e] at h
  exact absurd h (by unfold nameB; rw [decide_eq_false (show ¬ (1 ≤ noText.size ∧ noText.size ≤ 40) from fun q => absurd q.1 (by show ¬ 1 ≤ 0; omega))]; simp)
 | some t =>
  rw [nextT_some e] at h ⊢
  have hk := name_kind (hL.right t (List.mem_of_getElem? e)).1 h
  refine ⟨?_, t, rfl, hk⟩
  unfold Rd.nameT
  rw [if_neg (by simp)]
  show (match L[p]? with | none => _ | some t => _) = _
  rw [e]
  dsimp only
  rw [if_pos ⟨hk, h⟩]
  rfl
theorem name_no {L : List Tok} {p : Nat} {all : List Nd} (h : nameB (nextT L p).2.1 = false) : (⟨p, false, all⟩ : Rd).nameT L = (noText, ⟨p, true, all⟩) := by
 unfold Rd.nameT
 rw [if_neg (by simp)]
 dsimp only
 cases e : L[p]? with
 | none => rfl
 | some t =>
  rw [nextT_some e] at h
  dsimp only
  rw [if_neg (fun q => by rw [q.2] at h; exact absurd h (by simp))]
  rfl
theorem next_kind {L : List Tok} {p : Nat} : (nextT L p).1 = 1 ↔ ∃ t, L[p]? = some t ∧ t.1 = 1 := by
 cases e : L[p]? with
 | none => rw [nextT_none e]; simp
 | some t => rw [nextT_some e]; simp
section
variable {W w : World} {R : Nat} {ta : Option Addr} {tc : Nat} {i l o : Value} {L : List Tok} {p : Nat} {all : List Nd} {S : List It}
theorem q_begin_num (h : Tq W w R ta tc i l o L p all S) (hL : Toks L) (he : ErrV W) (hl : all.length + S.length ≤ 40000) (hb0 : ((nextT L p).2.1.toList == [45]) = false) (hb1 : ((nextT L p).2.1.toList == [40]) = false) (hk : (nextT L p).1 = 1) :
  Calls Tryz.prog 161 #[.pointer (some ⟨R, 0, none⟩)] w (AftP W w R ta tc i l o L S (((⟨p, false, all⟩ : Rd).leaf numT L).2.powT L ((⟨p, false, all⟩ : Rd).leaf numT L).1)) := by
 obtain ⟨t, ht, ht1⟩ := next_kind.1 hk
 rw [leaf_num numT L ⟨p, false, all⟩ rfl ht ht1]
 have hp := (List.getElem?_eq_some_iff.1 ht).1
 have NX := q_next h
 have PS := fun (v : World) (T : Tq W v R ta tc i l o L p all S) => q_pass T ⟨#[45]⟩ (by rw [toList_byte]; simp) false (by rw [toList_byte]; exact hb0)
 have PS2 := fun (v : World) (T : Tq W v R ta tc i l o L p all S) => q_pass T ⟨#[40]⟩ (by rw [toList_byte]; simp) false (by rw [toList_byte]; exact hb1)
 simp only [Bool.false_eq_true, if_false] at PS PS2
 have e1 : ((nextT L p).1 == 1) = true := by rw [beq_iff_eq]; exact hk
 rw [nextT_some ht] at NX e1
 have PR := fun (v : World) => rat_parse t.2.1 v (by have := (hL.right t (List.mem_of_getElem? ht)).2; unfold maxLen; omega)
 rw [show parT t.2.1.data.toList = numT t.2.1 from rfl] at PR
 unfold AnsTE at PR
 have SK := fun (v : World) (T : Tq W v R ta tc i l o L p all S) => q_skip T hp
 have AD := fun (v : World) (T : Tq W v R ta tc i l o L (p + 1) all S) ua uc va vc hN => q_add T ⟨1, 0, 0, 0, ⟨#[]⟩, numT t.2.1⟩ ua (nl (numT t.2.1).2.1) uc va (nl (numT t.2.1).2.2) vc hN (by omega)
 dsimp only at AD
 have PW := fun (v : World) (T : Tq W v R ta tc i l o L (p + 1) (all ++ [⟨1, 0, 0, 0, ⟨#[]⟩, numT t.2.1⟩]) S) => q_power T hL he all.length (by rw [List.length_append]; show all.length + 1 + _ ≤ _; omega)
 show Calls Tryz.prog _ _ w (AftP W w R ta tc i l o L S ((⟨p + 1, false, all ++ [⟨1, 0, 0, 0, ⟨#[]⟩, numT t.2.1⟩]⟩ : Rd).powT L all.length))
 generalize (⟨p + 1, false, all ++ [⟨1, 0, 0, 0, ⟨#[]⟩, numT t.2.1⟩]⟩ : Rd).powT L all.length = Z at *
 generalize hN : all.length = N at *
 have HH : Hid (Tq W w R ta tc i l o L p all S) := h
 generalize parE t.2.1.data.toList = E at *
 generalize t.1 = y0 at *
 generalize numT t.2.1 = nm at *
 generalize t.2.1 = y1 at *
 generalize t.2.2.1 = y2 at *
 generalize t.2.2.2 = y3 at *
 clear h hb0 hb1 hL he hl hk ht ht1 hp
 go_enter Tryz.func161, Tryz.ntmps161
 go_wp2_with (first
  | (go_at_call 101; (with_reducible refine Calls.mono NX ?_); rintro e w1 ⟨rfl, d1⟩; have T1 := HH.out.more (d1.alloc d1.size (.cells #[.int .i64 y0, .string y1, .int .i64 y2, .int .i64 y3] 110)); have K1 := Keep.of TY (d1.alloc d1.size (.cells #[.int .i64 y0, .string y1, .int .i64 y2, .int .i64 y3] 110)); have B1 := BoxC.new w1 #[.int .i64 y0, .string y1, .int .i64 y2, .int .i64 y3] 110)
  | (go_at_call 67; (with_reducible refine Calls.mono (PS _ T1) ?_); rintro e w2 ⟨rfl, T2, K2⟩)
  | (go_at_call 67; (with_reducible refine Calls.mono (PS2 _ T2) ?_); rintro e w3 ⟨rfl, T3, K3⟩; have B3 := (B1.keep K2 ty_tok).keep K3 ty_tok; have c30 := (B3.cell 0).1; have c31 := (B3.cell 1).1)
  | (go_at_call 188; (with_reducible refine Calls.mono (PR _) ?_); rintro e w4 ⟨ra, rc, rb, rd, rfl, o1, o2⟩; have T4 := T3.more (o1.below.alloc o1.below.size (.cells #[.bool nm.1, .slice ra (nl nm.2.1) rc, .slice rb (nl nm.2.2) rd] 45)); have B4 := BoxC.new w4 #[.bool nm.1, .slice ra (nl nm.2.1) rc, .slice rb (nl nm.2.2) rd] 45; have p1 := (o1.outer T3.below).alloc (.cells #[.bool nm.1, .slice ra (nl nm.2.1) rc, .slice rb (nl nm.2.2) rd] 45); have p2 := (o2.outer T3.below).alloc (.cells #[.bool nm.1, .slice ra (nl nm.2.1) rc, .slice rb (nl nm.2.2) rd] 45))
  | (go_at_call 102; (with_reducible refine Calls.mono (SK _ T4) ?_); rintro e w5 ⟨rfl, T5, K5⟩; obtain ⟨n0, n1, n2, -, -, -⟩ := (B4.keep K5 (by unfold TY; decide)).cells3; have NW : NumW W w5 (rawOf ⟨1, 0, 0, 0, ⟨#[]⟩, nm⟩, .slice ra (nl nm.2.1) rc, .slice rb (nl nm.2.2) rd) := ⟨OwnC.keep p1 K5 ty_u32 T5.below, OwnC.keep p2 K5 ty_u32 T5.below⟩)
  | (go_at_call 190; (with_reducible refine Calls.mono (AD _ T5 ra rc rb rd NW) ?_); rintro e w6 ⟨rfl, T6, K6⟩)
  | (go_at_call 189; (with_reducible refine Calls.mono (PW _ T6) ?_); rintro e w7 ⟨rfl, T7, K7⟩))
 go_ret
 exact AftP.from (((((K1.trans K2).trans K3).trans (Keep.of TY (o1.below.alloc o1.below.size (.cells #[.bool nm.1, .slice ra (nl nm.2.1) rc, .slice rb (nl nm.2.2) rd] 45)))).trans K5).trans K6) ⟨rfl, T7, K7⟩
theorem q_begin_name (h : Tq W w R ta tc i l o L p all S) (hL : Toks L) (he : ErrV W) (hl : all.length + S.length ≤ 40000) (hb0 : ((nextT L p).2.1.toList == [45]) = false) (hb1 : ((nextT L p).2.1.toList == [40]) = false) (hk : (nextT L p).1 ≠ 1) :
  Calls Tryz.prog 161 #[.pointer (some ⟨R, 0, none⟩)] w (AftP W w R ta tc i l o L S (((⟨p, false, all⟩ : Rd).leaf numT L).2.powT L ((⟨p, false, all⟩ : Rd).leaf numT L).1)) := by
 have hkk : (⟨p, false, all⟩ : Rd).bad = true ∨ L[(⟨p, false, all⟩ : Rd).pos]? = none ∨ ∃ t, L[(⟨p, false, all⟩ : Rd).pos]? = some t ∧ t.1 ≠ 1 := by
  dsimp only
  cases e : L[p]? with
  | none => exact .inr (.inl rfl)
  | some t => exact .inr (.inr ⟨t, rfl, fun q => hk (next_kind.2 ⟨t, e, q⟩)⟩)
 rw [leaf_name numT L ⟨p, false, all⟩ hkk]
 clear hkk
 have NX := q_next h
 have PS := fun (v : World) (T : Tq W v R ta tc i l o L p all S) => q_pass T ⟨#[45]⟩ (by rw [toList_byte]; simp) false (by rw [toList_byte]; exact hb0)
 have PS2 := fun (v : World) (T : Tq W v R ta tc i l o L p all S) => q_pass T ⟨#[40]⟩ (by rw [toList_byte]; simp) false (by rw [toList_byte]; exact hb1)
 simp only [Bool.false_eq_true, if_false] at PS PS2
 have e1 : ((nextT L p).1 == 1) = false := by rw [beq_eq_false_iff_ne]; exact hk
 cases hn : nameB (nextT L p).2.1 with
 | false =>
  rw [name_no hn]
  show Calls Tryz.prog _ _ w (AftP W w R ta tc i l o L S ((⟨p, true, all ++ [⟨0, 0, 0, 0, noText, (false, 0, 0)⟩]⟩ : Rd).powT L all.length))
  rw [bad_pow]
  unfold AftP
  have NM := fun (v : World) (T : Tq W v R ta tc i l o L p all S) => q_name T hL false hn
  simp only [Bool.false_eq_true, if_false] at NM
  have HH : Hid (Tq W w R ta tc i l o L p all S) := h
  generalize (nextT L p).1 = y0 at *
  generalize (nextT L p).2.1 = y1 at *
  generalize (nextT L p).2.2.1 = y2 at *
  generalize (nextT L p).2.2.2 = y3 at *
  clear h hb0 hb1 hL he hl hk hn
  go_enter Tryz.func161, Tryz.ntmps161
  go_wp2_with (first
   | (go_at_call 101; (with_reducible refine Calls.mono NX ?_); rintro e w1 ⟨rfl, d1⟩; have T1 := HH.out.more (d1.alloc d1.size (.cells #[.int .i64 y0, .string y1, .int .i64 y2, .int .i64 y3] 110)); have K1 := Keep.of TY (d1.alloc d1.size (.cells #[.int .i64 y0, .string y1, .int .i64 y2, .int .i64 y3] 110)); have B1 := BoxC.new w1 #[.int .i64 y0, .string y1, .int .i64 y2, .int .i64 y3] 110)
   | (go_at_call 67; (with_reducible refine Calls.mono (PS _ T1) ?_); rintro e w2 ⟨rfl, T2, K2⟩)
   | (go_at_call 67; (with_reducible refine Calls.mono (PS2 _ T2) ?_); rintro e w3 ⟨rfl, T3, K3⟩; have B3 := (B1.keep K2 ty_tok).keep K3 ty_tok; have c30 := (B3.cell 0).1; have c31 := (B3.cell 1).1)
   | (go_at_call 103; (with_reducible refine Calls.mono (NM _ T3) ?_); rintro e w4 ⟨rfl, T4, K4⟩))
  go_ret
  exact ⟨rfl, ⟨_, _, T4, fun q => absurd q (by simp)⟩, ((K1.trans K2).trans K3).trans K4⟩
 | true =>
  rw [(name_yes hL hn).1]
  show Calls Tryz.prog _ _ w (AftP W w R ta tc i l o L S ((⟨p + 1, false, all ++ [⟨0, 0, 0, 0, (nextT L p).2.1, (false, 0, 0)⟩]⟩ : Rd).powT L all.length))
  have NM := fun (v : World) (T : Tq W v R ta tc i l o L p all S) => q_name T hL true hn
  simp only [if_true] at NM
  have AD := fun (v : World) (T : Tq W v R ta tc i l o L (p + 1) all S) => q_add T ⟨0, 0, 0, 0, (nextT L p).2.1, (false, 0, 0)⟩ none 0 0 none 0 0 (num_zeroY T.below 0 0 0 0 _) (by omega)
  dsimp only at AD
  have PW := fun (v : World) (T : Tq W v R ta tc i l o L (p + 1) (all ++ [⟨0, 0, 0, 0, (nextT L p).2.1, (false, 0, 0)⟩]) S) => q_power T hL he all.length (by rw [List.length_append]; show all.length + 1 + _ ≤ _; omega)
  generalize (⟨p + 1, false, all ++ [⟨0, 0, 0, 0, (nextT L p).2.1, (false, 0, 0)⟩]⟩ : Rd).powT L all.length = Z at *
  generalize hN : all.length = N at *
  have HH : Hid (Tq W w R ta tc i l o L p all S) := h
  generalize (nextT L p).1 = y0 at *
  generalize (nextT L p).2.1 = y1 at *
  generalize (nextT L p).2.2.1 = y2 at *
  generalize (nextT L p).2.2.2 = y3 at *
  clear h hb0 hb1 hL he hl hk hn
  go_enter Tryz.func161, Tryz.ntmps161
  go_wp2_with (first
   | (go_at_call 101; (with_reducible refine Calls.mono NX ?_); rintro e w1 ⟨rfl, d1⟩; have T1 := HH.out.more (d1.alloc d1.size (.cells #[.int .i64 y0, .string y1, .int .i64 y2, .int .i64 y3] 110)); have K1 := Keep.of TY (d1.alloc d1.size (.cells #[.int .i64 y0, .string y1, .int .i64 y2, .int .i64 y3] 110)); have B1 := BoxC.new w1 #[.int .i64 y0, .string y1, .int .i64 y2, .int .i64 y3] 110)
   | (go_at_call 67; (with_reducible refine Calls.mono (PS _ T1) ?_); rintro e w2 ⟨rfl, T2, K2⟩)
   | (go_at_call 67; (with_reducible refine Calls.mono (PS2 _ T2) ?_); rintro e w3 ⟨rfl, T3, K3⟩; have B3 := (B1.keep K2 ty_tok).keep K3 ty_tok; have c30 := (B3.cell 0).1; have c31 := (B3.cell 1).1)
   | (go_at_call 103; (with_reducible refine Calls.mono (NM _ T3) ?_); rintro e w4 ⟨rfl, T4, K4⟩)
   | (go_at_call 190; (with_reducible refine Calls.mono (AD _ T4) ?_); rintro e w5 ⟨rfl, T5, K5⟩)
   | (go_at_call 189; (with_reducible refine Calls.mono (PW _ T5) ?_); rintro e w6 ⟨rfl, T6, K6⟩))
  go_ret
  exact AftP.from ((((K1.trans K2).trans K3).trans K4).trans K5) ⟨rfl, T6, K6⟩
theorem q_begin_leaf (h : Tq W w R ta tc i l o L p all S) (hL : Toks L) (he : ErrV W) (hl : all.length + S.length ≤ 40000) (hb0 : ((nextT L p).2.1.toList == [45]) = false) (hb1 : ((nextT L p).2.1.toList == [40]) = false) :
  Calls Tryz.prog 161 #[.pointer (some ⟨R, 0, none⟩)] w (AftP W w R ta tc i l o L S (((⟨p, false, all⟩ : Rd).leaf numT L).2.powT L ((⟨p, false, all⟩ : Rd).leaf numT L).1)) := by
 by_cases hk : (nextT L p).1 = 1
 ·exact q_begin_num h hL he hl hb0 hb1 hk
 ·exact q_begin_name h hL he hl hb0 hb1 hk
end
end
section
open Go.RowKit Go.Lib
theorem setF_at (c : Bool) (p q : Nat) : ∀ (fs : List Fr) (a : Int) (al : List Nd), setF c fs a ⟨q, false, al⟩ = ((setF c fs a ⟨p, false, al⟩).1, (setF c fs a ⟨p, false, al⟩).2.1, ⟨q, false, (setF c fs a ⟨p, false, al⟩).2.2.all⟩) := by
 intro fs
 induction fs with
 | nil => intro a al; rfl
 | cons f fs ih =>
  intro a al
  cases f with
  | inl y =>
   obtain ⟨k, l, c1⟩ := y
   by_cases h : (c && !c1) = true
   ·unfold setF; rw [if_pos h, if_pos h]
   ·have e : ∀ u : Nat, setF c (.inl (k, l, c1) :: fs) a ⟨u, false, al⟩ = setF c fs al.length ⟨u, false, al ++ [nd2 k l a]⟩ := by
     intro u; conv => lhs; unfold setF
     rw [if_neg h]; rfl
    rw [e, e]
    exact ih al.length (al ++ [nd2 k l a])
  | inr y => cases y with
   | false =>
    exact ih al.length (al ++ [nd1 a])
   | true =>
    rfl
theorem setF_cnt (c : Bool) (p : Nat) : ∀ (fs : List Fr) (a : Int) (al : List Nd), (setF c fs a ⟨p, false, al⟩).2.2.all.length + (stk (setF c fs a ⟨p, false, al⟩).1).length ≤ al.length + (stk fs).length := by
 intro fs
 induction fs with
 | nil => intro a al; exact Nat.le_refl _
 | cons f fs ih =>
  intro a al
  cases f with
  | inl y =>
   obtain ⟨k, l, c1⟩ := y
   by_cases h : (c && !c1) = true
   ·unfold setF; rw [if_pos h]; exact Nat.le_refl _
   ·have e : setF c (.inl (k, l, c1) :: fs) a ⟨p, false, al⟩ = setF c fs al.length ⟨p, false, al ++ [nd2 k l a]⟩ := by
     conv => lhs; unfold setF
     rw [if_neg h]; rfl
    rw [e]
    have := ih al.length (al ++ [nd2 k l a])
    rw [List.length_append] at this
    have e : (stk (.inl (k, l, c1) :: fs)).length = (stk fs).length + 2 := by simp [stk]
    rw [e]
    refine Nat.le_trans this ?_
    show al.length + 1 + _ ≤ _
    omega
  | inr y => cases y with
   | false =>
    have := ih al.length (al ++ [nd1 a])
    rw [List.length_append] at this
    have e : (stk (.inr false :: fs)).length = (stk fs).length + 1 := by simp [stk]
    rw [e]
    refine Nat.le_trans this ?_
    show al.length + 1 + _ ≤ _
    omega
   | true =>
    exact Nat.le_refl _
theorem pow_cnt {L : List Tok} (hL : Toks L) (p : Nat) (all : List Nd) (a : Int) {Z : Int × Rd} (hZ : (⟨p, false, all⟩ : Rd).powT L a = Z) (hb : Z.2.bad = false) : Z.2.all.length + 2 * (L.length - Z.2.pos) ≤ all.length + 2 * (L.length - p) ∧ p ≤ Z.2.pos := by
 cases h : ((nextT L p).2.1.toList == [94]) with
 | false => rw [pow_no hL h] at hZ; subst hZ; exact ⟨Nat.le_refl _, Nat.le_refl _⟩
 | true =>
  have hp := next_lt (x := ⟨#[94]⟩) (by rw [toList_byte]; exact h) (by rw [toList_byte]; simp)
  rw [pow_yes hL h rfl rfl] at hZ
  generalize hp1 : (if ((nextT L (p + 1)).2.1.toList == [45]) = true then p + 1 + 1 else p + 1) = p1 at hZ
  have h1 : p + 1 ≤ p1 := by subst hp1; split <;> omega
  cases hx : expA (nextT L p1).2.1 with
  | none => rw [powE_none hL hx] at hZ; subst hZ; exact absurd hb (by simp)
  | some n =>
   rw [powE_some hL hx] at hZ
   subst hZ
   refine ⟨?_, by show p ≤ p1 + 1; omega⟩
   show (all ++ [_]).length + 2 * (L.length - (p1 + 1)) ≤ _
   rw [List.length_append]
   show all.length + 1 + _ ≤ _
   omega
theorem leaf_cnt {L : List Tok} (hL : Toks L) (p : Nat) (all : List Nd) {Z : Int × Rd} (hZ : ((⟨p, false, all⟩ : Rd).leaf numT L).2.powT L ((⟨p, false, all⟩ : Rd).leaf numT L).1 = Z) (hb : Z.2.bad = false) : Z.2.all.length + 1 + 2 * (L.length - Z.2.pos) ≤ all.length + 2 * (L.length - p) ∧ p + 1 ≤ Z.2.pos ∧ p < L.length := by
 have key : ∀ (t : Tok) (nd : Nd), L[p]? = some t → (⟨p + 1, false, all ++ [nd]⟩ : Rd).powT L all.length = Z → Z.2.all.length + 1 + 2 * (L.length - Z.2.pos) ≤ all.length + 2 * (L.length - p) ∧ p + 1 ≤ Z.2.pos ∧ p < L.length := by
  intro t nd ht he
  have hp := (List.getElem?_eq_some_iff.1 ht).1
  obtain ⟨h1, h2⟩ := pow_cnt hL (p + 1) (all ++ [nd]) all.length he hb
  rw [List.length_append] at h1
  have : all.length + [nd].length = all.length + 1 := rfl
  omega
 by_cases hk : (nextT L p).1 = 1
 ·obtain ⟨t, ht, ht1⟩ := next_kind.1 hk
  rw [leaf_num numT L ⟨p, false, all⟩ rfl ht ht1] at hZ
  exact key t _ ht hZ
 ·have hkk : (⟨p, false, all⟩ : Rd).bad = true ∨ L[(⟨p, false, all⟩ : Rd).pos]? = none ∨ ∃ t, L[(⟨p, false, all⟩ : Rd).pos]? = some t ∧ t.1 ≠ 1 := by
   dsimp only
   cases e : L[p]? with
   | none => exact .inr (.inl rfl)
   | some t => exact .inr (.inr ⟨t, rfl, fun q => hk (next_kind.2 ⟨t, e, q⟩)⟩)
  rw [leaf_name numT L ⟨p, false, all⟩ hkk] at hZ
  cases hn : nameB (nextT L p).2.1 with
  | false =>
   rw [name_no hn] at hZ
   rw [show (⟨p, true, all⟩ : Rd).node ⟨0, 0, 0, 0, noText, (false, 0, 0)⟩ = ((all.length : Int), ⟨p, true, all ++ [⟨0, 0, 0, 0, noText, (false, 0, 0)⟩]⟩) from rfl] at hZ
   dsimp only at hZ
   rw [bad_pow] at hZ
   subst hZ
   exact absurd hb (by simp)
  | true =>
   obtain ⟨h1, t, ht, -⟩ := name_yes hL (all := all) hn
   rw [h1] at hZ
   exact key t _ ht hZ
theorem btw_some {x : List UInt8} {k : Int} {c : Bool} (h : btw x = some (k, c)) : (c = true ∧ k = (if (x == [47]) = true then 5 else 4) ∧ ((x == [42]) || (x == [47])) = true) ∨ (c = false ∧ k = (if (x == [45]) = true then 3 else 2) ∧ ((x == [42]) || (x == [47])) = false ∧ ((x == [43]) || (x == [45])) = true) := by
 unfold btw at h
 by_cases e1 : x = [43]
 ·subst e1; rw [if_pos rfl] at h; cases h; exact .inr ⟨rfl, by decide, by decide, by decide⟩
 rw [if_neg e1] at h
 by_cases e2 : x = [45]
 ·subst e2; rw [if_pos rfl] at h; cases h; exact .inr ⟨rfl, by decide, by decide, by decide⟩
 rw [if_neg e2] at h
 by_cases e3 : x = [42]
 ·subst e3; rw [if_pos rfl] at h; cases h; exact .inl ⟨rfl, by decide, by decide⟩
 rw [if_neg e3] at h
 by_cases e4 : x = [47]
 ·subst e4; rw [if_pos rfl] at h; cases h; exact .inl ⟨rfl, by decide, by decide⟩
 rw [if_neg e4] at h
 cases h
theorem btw_none {x : List UInt8} (h : btw x = none) : ((x == [42]) || (x == [47])) = false ∧ ((x == [43]) || (x == [45])) = false := by
 unfold btw at h
 by_cases e1 : x = [43]
 ·rw [if_pos e1] at h; cases h
 rw [if_neg e1] at h
 by_cases e2 : x = [45]
 ·rw [if_pos e2] at h; cases h
 rw [if_neg e2] at h
 by_cases e3 : x = [42]
 ·rw [if_pos e3] at h; cases h
 rw [if_neg e3] at h
 by_cases e4 : x = [47]
 ·rw [if_pos e4] at h; cases h
 constructor
 ·rw [Bool.or_eq_false_iff]; exact ⟨by rw [beq_eq_false_iff_ne]; exact e3, by rw [beq_eq_false_iff_ne]; exact e4⟩
 ·rw [Bool.or_eq_false_iff]; exact ⟨by rw [beq_eq_false_iff_ne]; exact e1, by rw [beq_eq_false_iff_ne]; exact e2⟩
theorem aft_sign {L : List Tok} (hL : Toks L) {p : Nat} {fs : List Fr} {a : Int} {al : List Nd} {k : Int} {c : Bool} (hk : FrOk fs) (h : btw (nextT L p).2.1.toList = some (k, c)) :
  aft numT L fs 0 a ⟨p, false, al⟩ = ahd numT L (.bin k (setF c fs a ⟨p + 1, false, al⟩).2.1 c :: (setF c fs a ⟨p + 1, false, al⟩).1) ⟨p + 1, false, (setF c fs a ⟨p + 1, false, al⟩).2.2.all⟩ ∧ FrOk (.bin k (setF c fs a ⟨p + 1, false, al⟩).2.1 c :: (setF c fs a ⟨p + 1, false, al⟩).1) := by
 have m1 : ∀ x : UInt8, kindI x.toNat = 4 → (⟨p, false, al⟩ : Rd).is L 2 [x] = ((nextT L p).2.1.toList == [x]) := fun x hx => hL.mark rfl hx
 obtain ⟨f1, f2, f3, f4⟩ := setF_rd c fs a ⟨p, false, al⟩
 rw [setF_at c p (p + 1)]
 dsimp only
 have er : (setF c fs a ⟨p, false, al⟩).2.2.skip = ⟨p + 1, false, (setF c fs a ⟨p, false, al⟩).2.2.all⟩ := by unfold Rd.skip; rw [f1, f2]
 rcases btw_some h with ⟨rfl, rfl, h3⟩ | ⟨rfl, rfl, h3, h4⟩
 ·obtain ⟨g1, g2⟩ := aft_mul numT L a (r := ⟨p, false, al⟩) hk (by rw [m1 42 (by decide), m1 47 (by decide)]; exact h3)
  rw [m1 47 (by decide), er] at g1
  exact ⟨g1, g2, f4 hk⟩
 ·obtain ⟨g1, g2⟩ := aft_add numT L a (r := ⟨p, false, al⟩) hk (by rw [m1 42 (by decide), m1 47 (by decide), h3]; simp) (by rw [m1 43 (by decide), m1 45 (by decide)]; exact h4)
  rw [m1 45 (by decide), er] at g1
  exact ⟨g1, g2, f4 hk⟩
theorem aft_none {L : List Tok} (hL : Toks L) {p : Nat} {fs : List Fr} {a : Int} {al : List Nd} (hk : FrOk fs) (h : btw (nextT L p).2.1.toList = none) :
  ((setF false fs a ⟨p, false, al⟩).1 = [] ∧ aft numT L fs 0 a ⟨p, false, al⟩ = (setF false fs a ⟨p, false, al⟩).2) ∨ (∃ gs, (setF false fs a ⟨p, false, al⟩).1 = .brk :: gs ∧ FrOk gs ∧ aft numT L fs 0 a ⟨p, false, al⟩ = aft numT L gs 0 (shutE L (setF false fs a ⟨p, false, al⟩).2).1 (shutE L (setF false fs a ⟨p, false, al⟩).2).2) := by
 have m1 : ∀ x : UInt8, kindI x.toNat = 4 → (⟨p, false, al⟩ : Rd).is L 2 [x] = ((nextT L p).2.1.toList == [x]) := fun x hx => hL.mark rfl hx
 obtain ⟨h1, h2⟩ := btw_none h
 exact aft_end numT L a (r := ⟨p, false, al⟩) hk (by rw [m1 42 (by decide), m1 47 (by decide), h1]; simp) (by rw [m1 43 (by decide), m1 45 (by decide), h2]; simp)
theorem shut_cnt {L : List Tok} (hL : Toks L) (p : Nat) (all : List Nd) (a : Int) {Z : Int × Rd} (hZ : shutE L (a, ⟨p, false, all⟩) = Z) (hb : Z.2.bad = false) : Z.2.all.length + 2 * (L.length - Z.2.pos) + 2 ≤ all.length + 2 * (L.length - p) ∧ p + 1 ≤ Z.2.pos ∧ p < L.length := by
 unfold shutE at hZ
 dsimp only at hZ
 cases h : ((nextT L p).2.1.toList == [41]) with
 | false =>
  have e : (⟨p, false, all⟩ : Rd).want L 2 [41] = ⟨p, true, all⟩ := by
   unfold Rd.want
   rw [hL.mark rfl (c := 41) (by decide), if_neg (by rw [h]; simp)]; rfl
  rw [e, bad_pow] at hZ
  subst hZ
  exact absurd hb (by simp)
 | true =>
  have hp := next_lt (x := ⟨#[41]⟩) (by rw [toList_byte]; exact h) (by rw [toList_byte]; simp)
  have e : (⟨p, false, all⟩ : Rd).want L 2 [41] = ⟨p + 1, false, all⟩ := by
   unfold Rd.want
   rw [hL.mark rfl (c := 41) (by decide), if_pos h]; rfl
  rw [e] at hZ
  obtain ⟨h1, h2⟩ := pow_cnt hL (p + 1) all a hZ hb
  exact ⟨by omega, by omega, hp⟩
theorem rd_eta {r : Rd} (h : r.bad = false) : (⟨r.pos, false, r.all⟩ : Rd) = r := by cases r; simp at h; subst h; rfl
end
section
open Go.RowKit Go.Lib
def topL : Option Int → List It
 | some a => [.nd a]
 | none => []
def goal (L : List Tok) (top : Option Int) (fs : List Fr) (r : Rd) : Int × Rd := match top with
 | some a => aft numT L fs 0 a r
 | none => ahd numT L fs r
section
variable {W w : World} {R : Nat} {ta : Option Addr} {tc : Nat} {i l o : Value} {L : List Tok} {p : Nat} {all : List Nd}
def AnsS (W w : World) (R : Nat) (ta : Option Addr) (tc : Nat) (i l o : Value) (L : List Tok) (Z : Int × Rd) (e : Ending) (w' : World) : Prop :=
 e = .returned (.tuple #[.int .i64 (if Z.2.bad = true then 0 else Z.1), .bool (!Z.2.bad)]) ∧ (∃ al S', Tq W w' R ta tc i l o L Z.2.pos al S' ∧ (Z.2.bad = false → al = Z.2.all ∧ S' = [])) ∧ Keep TY w w'
theorem ansS_bad {W w w' : World} {R : Nat} {ta : Option Addr} {tc : Nat} {i l o : Value} {L : List Tok} {Z : Int × Rd} {al : List Nd} {S : List It} {q : Nat} (hb : Z.2.bad = true) (hp : Z.2.pos = q) (T : Tq W w' R ta tc i l o L q al S) (K : Keep TY w w') : AnsS W w R ta tc i l o L Z (.returned (.tuple #[.int .i64 0, .bool false])) w' := by
 unfold AnsS
 rw [hb, hp]
 exact ⟨rfl, ⟨al, S, T, fun q => absurd q (by simp)⟩, K⟩
theorem ansS_good {W w w' : World} {R : Nat} {ta : Option Addr} {tc : Nat} {i l o : Value} {L : List Tok} {a : Int} {al : List Nd} {q : Nat} (T : Tq W w' R ta tc i l o L q al []) (K : Keep TY w w') : AnsS W w R ta tc i l o L (a, ⟨q, false, al⟩) (.returned (.tuple #[.int .i64 a, .bool true])) w' := ⟨rfl, ⟨al, [], T, fun _ => ⟨rfl, rfl⟩⟩, K⟩
theorem Tq.stk {S : List It} (h : Tq W w R ta tc i l o L p all S) : ∃ sa sc, w.cell? ⟨R, 5, none⟩ = some (.slice sa S.length sc) := by
 obtain ⟨la, lc, a, c, sa, sc, hW, B, hN, hS, hT⟩ := h
 exact ⟨sa, sc, (B.cell 5).1⟩
theorem q_sum (h : Tq W w R ta tc i l o L p all []) (hL : Toks L) (he : ErrV W) (hc : all.length + 2 * (L.length - p) ≤ 20000) {Z : Int × Rd} (hZ : exprI numT L 0 0 ⟨p, false, all⟩ = Z) :
  Calls Tryz.prog 131 #[.pointer (some ⟨R, 0, none⟩)] w (AnsS W w R ta tc i l o L Z) := by
 rw [← ahd_nil] at hZ
 have HH : Hid (Tq W w R ta tc i l o L p all [] ∧ Toks L ∧ ErrV W ∧ all.length + 2 * (L.length - p) ≤ 20000 ∧ ahd numT L [] ⟨p, false, all⟩ = Z) := ⟨h, hL, he, hc, hZ⟩
 clear h hL he hc hZ
 go_enter Tryz.func131, Tryz.ntmps131
 go_wp2
 go_loopg [4] (L.length - p + 1) (fun g s4 v => ∃ (fs : List Fr) (top : Option Int) (q : Nat) (al : List Nd), s4 = s4 ∧ Tq W v R ta tc i l o L q al (stk fs ++ topL top) ∧ Keep TY w v ∧ FrOk fs ∧ goal L top fs ⟨q, false, al⟩ = Z ∧ L.length - q + 1 ≤ g ∧ al.length + (stk fs ++ topL top).length + 2 * (L.length - q) ≤ 20000)
 case atStart => exact ⟨[], none, p, all, rfl, HH.out.1, Keep.refl TY w, trivial, HH.out.2.2.2.2, Nat.le_refl _, HH.out.2.2.2.1⟩
 case round =>
  obtain ⟨fs, top, q, al, -, T, K, hk, hG, hg, hn⟩ := hrel
  have hL := HH.out.2.1
  have he := HH.out.2.2.1
  have hn4 := hL.len
  cases top with
  | none =>
   rw [show stk fs ++ topL none = stk fs from List.append_nil _] at T hn
   have TK := q_take_no T (by omega) (stk_last fs)
   cases hb0 : ((nextT L q).2.1.toList == [45]) with
   | true =>
    have hp := next_lt (x := ⟨#[45]⟩) (by rw [toList_byte]; exact hb0) (by rw [toList_byte]; simp)
    have BG := fun (v : World) (d : Below wr.heap.size wr v) => q_begin_neg (T.more d) (by omega) hb0
    have hG' : goal L none (.neg :: fs) ⟨q + 1, false, al⟩ = Z := (ahd_neg numT L fs (r := ⟨q, false, al⟩) (by rw [hL.mark rfl (by decide)]; exact hb0)).symm.trans hG
    have HR : Hid (Keep TY w wr ∧ FrOk (.neg :: fs) ∧ goal L none (.neg :: fs) ⟨q + 1, false, al⟩ = Z ∧ L.length - q + 1 ≤ gk ∧ q < L.length ∧ al.length + (stk fs).length + 2 * (L.length - q) ≤ 20000) := ⟨K, hk, hG', hg, hp, hn⟩
    clear T K hk hG hG' hg hn hL he hn4 HH hp hb0
    go_wp2_with (first
     | (go_at_call 160; (with_reducible refine Calls.mono TK ?_); rintro e w1 ⟨rfl, d1⟩)
     | (go_at_call 161; (with_reducible refine Calls.mono (BG _ d1) ?_); rintro e w2 ⟨rfl, T2, K2⟩))
    obtain ⟨K, hk, hG, hg, hp, hn⟩ := HR.out
    go_roundg (L.length - (q + 1) + 1)
    case measure => omega
    case rel =>
     refine ⟨.neg :: fs, none, q + 1, al, trivial, ?_, (K.more d1).trans K2, hk, hG, Nat.le_refl _, ?_⟩
     ·rw [show stk (.neg :: fs) ++ topL none = stk fs ++ [.wt 6 2] from List.append_nil _]; exact T2
     ·rw [show stk (.neg :: fs) ++ topL none = stk fs ++ [.wt 6 2] from List.append_nil _, List.length_append]
      show al.length + ((stk fs).length + 1) + _ ≤ _
      omega
   | false =>
    cases hb1 : ((nextT L q).2.1.toList == [40]) with
    | true =>
     have hp := next_lt (x := ⟨#[40]⟩) (by rw [toList_byte]; exact hb1) (by rw [toList_byte]; simp)
     have BG := fun (v : World) (d : Below wr.heap.size wr v) => q_begin_brk (T.more d) (by omega) hb0 hb1
     have hG' : goal L none (.brk :: fs) ⟨q + 1, false, al⟩ = Z := (ahd_brk numT L fs (r := ⟨q, false, al⟩) (by rw [hL.mark rfl (by decide), hb0]; simp) (by rw [hL.mark rfl (by decide)]; exact hb1)).symm.trans hG
     have HR : Hid (Keep TY w wr ∧ FrOk (.brk :: fs) ∧ goal L none (.brk :: fs) ⟨q + 1, false, al⟩ = Z ∧ L.length - q + 1 ≤ gk ∧ q < L.length ∧ al.length + (stk fs).length + 2 * (L.length - q) ≤ 20000) := ⟨K, hk, hG', hg, hp, hn⟩
     clear T K hk hG hG' hg hn hL he hn4 HH hp hb0 hb1
     go_wp2_with (first
      | (go_at_call 160; (with_reducible refine Calls.mono TK ?_); rintro e w1 ⟨rfl, d1⟩)
      | (go_at_call 161; (with_reducible refine Calls.mono (BG _ d1) ?_); rintro e w2 ⟨rfl, T2, K2⟩))
     obtain ⟨K, hk, hG, hg, hp, hn⟩ := HR.out
     go_roundg (L.length - (q + 1) + 1)
     case measure => omega
     case rel =>
      refine ⟨.brk :: fs, none, q + 1, al, trivial, ?_, (K.more d1).trans K2, hk, hG, Nat.le_refl _, ?_⟩
      ·rw [show stk (.brk :: fs) ++ topL none = stk fs ++ [.br] from List.append_nil _]; exact T2
      ·rw [show stk (.brk :: fs) ++ topL none = stk fs ++ [.br] from List.append_nil _, List.length_append]
       show al.length + ((stk fs).length + 1) + _ ≤ _
       omega
    | false =>
     obtain ⟨Y, hY⟩ : ∃ Y, ((⟨q, false, al⟩ : Rd).leaf numT L).2.powT L ((⟨q, false, al⟩ : Rd).leaf numT L).1 = Y := ⟨_, rfl⟩
     have BG := fun (v : World) (d : Below wr.heap.size wr v) => q_begin_leaf (T.more d) hL he (by omega) hb0 hb1
     rw [hY] at BG
     have hG' : aft numT L fs 0 Y.1 Y.2 = Z := by
      have := ahd_leaf numT L fs (r := ⟨q, false, al⟩) (by rw [hL.mark rfl (by decide), hb0]; simp) (by rw [hL.mark rfl (by decide), hb1]; simp)
      rw [hY] at this
      exact this.symm.trans hG
     unfold AftP at BG
     cases hYb : Y.2.bad with
     | true =>
      rw [hYb] at BG
      have on := (on_aft numT L fs 0 Y.1 Y.2).bad hYb
      rw [hG'] at on
      have HR : Hid (Keep TY w wr ∧ Z.2.bad = true ∧ Z.2.pos = Y.2.pos) := ⟨K, on⟩
      clear T K hk hG hG' hg hn hL he hn4 HH hb0 hb1 hY on
      go_wp2_with (first
       | (go_at_call 160; (with_reducible refine Calls.mono TK ?_); rintro e w1 ⟨rfl, d1⟩)
       | (go_at_call 161; (with_reducible refine Calls.mono (BG _ d1) ?_); rintro e w2 ⟨rfl, ⟨al2, S2, T2, -⟩, K2⟩))
      obtain ⟨K, z1, z2⟩ := HR.out
      go_ret2
      exact ansS_bad z1 z2 T2 ((K.more d1).trans K2)
     | false =>
      rw [hYb] at BG
      obtain ⟨c1, c2, c3⟩ := leaf_cnt hL q al hY hYb
      rw [← rd_eta hYb] at hG'
      have HR : Hid (Keep TY w wr ∧ FrOk fs ∧ goal L (some Y.1) fs ⟨Y.2.pos, false, Y.2.all⟩ = Z ∧ L.length - q + 1 ≤ gk ∧ q + 1 ≤ Y.2.pos ∧ Y.2.all.length + 1 + (stk fs).length + 2 * (L.length - Y.2.pos) ≤ 20000 ∧ q < L.length) := ⟨K, hk, hG', hg, c2, by omega, c3⟩
      clear T K hk hG hG' hg hn hL he hn4 HH hb0 hb1 hY c1 c2 c3
      go_wp2_with (first
       | (go_at_call 160; (with_reducible refine Calls.mono TK ?_); rintro e w1 ⟨rfl, d1⟩)
       | (go_at_call 161; (with_reducible refine Calls.mono (BG _ d1) ?_); rintro e w2 ⟨rfl, ⟨al2, S2, T2, h2⟩, K2⟩; obtain ⟨rfl, rfl⟩ := h2 trivial))
      obtain ⟨K, hk, hG, hg, hp, hn, hq⟩ := HR.out
      go_roundg (L.length - Y.2.pos + 1)
      case measure => omega
      case rel =>
       refine ⟨fs, some Y.1, Y.2.pos, Y.2.all, trivial, T2, (K.more d1).trans K2, hk, hG, Nat.le_refl _, ?_⟩
       rw [List.length_append]
       show Y.2.all.length + ((stk fs).length + 1) + _ ≤ _
       omega
  | some a =>
   have hlen : (stk fs ++ topL (some a)).length = (stk fs).length + 1 := by rw [List.length_append]; rfl
   rw [hlen] at hn
   have TK := q_take_nd (S := stk fs) T (by omega)
   have NX := fun (v : World) (T' : Tq W v R ta tc i l o L q al (stk fs)) => q_next T'
   have FD := fld_text
   have BT := fun (v : World) => q_between (nextT L q).2.1 v
   cases hbt : btw (nextT L q).2.1.toList with
   | some kc =>
    obtain ⟨k, c⟩ := kc
    rw [hbt] at BT
    unfold btwV at BT
    dsimp only at BT
    have hp : q < L.length := by
     rcases Nat.lt_or_ge q L.length with g | g
     ·exact g
     ·rw [nextT_none (List.getElem?_eq_none g), noText_list] at hbt
      rw [show btw [] = none from rfl] at hbt
      exact absurd hbt (by simp)
    obtain ⟨hA, hkA⟩ := aft_sign hL (a := a) (al := al) hk hbt
    have hA' : ahd numT L (.bin k (setF c fs a ⟨q + 1, false, al⟩).2.1 c :: (setF c fs a ⟨q + 1, false, al⟩).1) ⟨q + 1, false, (setF c fs a ⟨q + 1, false, al⟩).2.2.all⟩ = Z := hA.symm.trans hG
    have hcn := setF_cnt c (q + 1) fs a al
    have SK := fun (v : World) (T' : Tq W v R ta tc i l o L q al (stk fs)) => q_skip T' hp
    have SE := fun (v : World) (T' : Tq W v R ta tc i l o L (q + 1) al (stk fs)) => q_settled T' c a (by omega) rfl
    generalize setF c fs a ⟨q + 1, false, al⟩ = E at *
    obtain ⟨gs, b, r'⟩ := E
    dsimp only at SE hA' hkA hcn
    have PU1 := fun (v : World) (T' : Tq W v R ta tc i l o L (q + 1) r'.all (stk gs)) => q_push T' (.nd b) (by omega)
    have PU2 := fun (v : World) (T' : Tq W v R ta tc i l o L (q + 1) r'.all (stk gs ++ [.nd b])) => q_push T' (.wt k (binds c)) (by simp; omega)
    unfold itV at PU1 PU2
    dsimp only at PU1 PU2
    have HR : Hid (Keep TY w wr ∧ FrOk (.bin k b c :: gs) ∧ ahd numT L (.bin k b c :: gs) ⟨q + 1, false, r'.all⟩ = Z ∧ L.length - q + 1 ≤ gk ∧ q < L.length ∧ r'.all.length + (stk gs).length + 1 + 2 * (L.length - q) ≤ 20000) := ⟨K, hkA, hA', hg, hp, by omega⟩
    generalize (nextT L q).1 = y0 at *
    generalize (nextT L q).2.1 = y1 at *
    generalize (nextT L q).2.2.1 = y2 at *
    generalize (nextT L q).2.2.2 = y3 at *
    clear T K hk hG hA hA' hkA hg hn hL he hn4 HH hlen hp hbt hcn
    go_wp2_with (first
     | (go_at_call 160; (with_reducible refine Calls.mono TK ?_); rintro e w1 ⟨rfl, T1, K1⟩)
     | (go_at_call 101; (with_reducible refine Calls.mono (NX _ T1) ?_); rintro e w2 ⟨rfl, d2⟩)
     | (go_at_call 162; (with_reducible refine Calls.mono (BT _) ?_); rintro e w3 ⟨rfl, d3⟩; have T3 := (T1.more d2).more (d3.alloc d3.size (.cells #[.int .i64 k, .int .i64 (binds c)] 186)); have K3 := (K1.more d2).more (d3.alloc d3.size (.cells #[.int .i64 k, .int .i64 (binds c)] 186)))
     | (go_at_call 102; (with_reducible refine Calls.mono (SK _ T3) ?_); rintro e w4 ⟨rfl, T4, K4⟩; have B4 := (BoxC.new w3 #[.int .i64 k, .int .i64 (binds c)] 186).keep K4 (by unfold TY; decide); obtain ⟨c40, c41, -, -⟩ := B4.cells2)
     | (go_at_call 164; (with_reducible refine Calls.mono (SE _ T4) ?_); rintro e w5 ⟨rfl, T5, K5⟩)
     | (go_at_call 163; (with_reducible refine Calls.mono (PU1 _ T5) ?_); rintro e w6 ⟨rfl, T6, K6⟩; obtain ⟨c60, c61, -, -⟩ := ((B4.keep K5 (by unfold TY; decide)).keep K6 (by unfold TY; decide)).cells2)
     | (go_at_call 163; (with_reducible refine Calls.mono (PU2 _ T6) ?_); rintro e w7 ⟨rfl, T7, K7⟩))
    obtain ⟨K, hk, hG, hg, hp, hn⟩ := HR.out
    go_roundg (L.length - (q + 1) + 1)
    case measure => omega
    case rel =>
     refine ⟨.bin k b c :: gs, none, q + 1, r'.all, trivial, ?_, ((((K.trans K3).trans K4).trans K5).trans K6).trans K7, hk, hG, Nat.le_refl _, ?_⟩
     ·rw [show stk (.bin k b c :: gs) ++ topL none = stk gs ++ [.nd b] ++ [.wt k (binds c)] from List.append_nil _]; exact T7
     ·rw [show stk (.bin k b c :: gs) ++ topL none = stk gs ++ [.nd b] ++ [.wt k (binds c)] from List.append_nil _, List.length_append, List.length_append]
      show r'.all.length + ((stk gs).length + 1 + 1) + _ ≤ _
      omega
   | none =>
    rw [hbt] at BT
    unfold btwV at BT
    dsimp only at BT
    have hA := aft_none hL (a := a) (al := al) hk hbt
    rw [show aft numT L fs 0 a ⟨q, false, al⟩ = Z from hG] at hA
    have hcn := setF_cnt false q fs a al
    have SE := fun (v : World) (T' : Tq W v R ta tc i l o L q al (stk fs)) => q_settled T' false a (by omega) rfl
    obtain ⟨f1, f2, -, -⟩ := setF_rd false fs a ⟨q, false, al⟩
    generalize setF false fs a ⟨q, false, al⟩ = E at *
    obtain ⟨gs, b, r'⟩ := E
    dsimp only at SE hA hcn f1 f2
    rw [show binds false = 0 from rfl] at SE
    rcases hA with ⟨rfl, hA⟩ | ⟨gs', rfl, hkA, hA⟩
    ·have hZ : ((b, ⟨q, false, r'.all⟩) : Int × Rd) = Z := by rw [hA, ← rd_eta f2, f1]
     subst hZ
     have HR : Hid (Keep TY w wr) := K
     have hz : ((stk []).length : Int) = 0 := rfl
     rw [show stk [] = [] from rfl] at SE
     have hz : ((([] : List It).length : Nat) : Int) = 0 := rfl
     generalize (nextT L q).1 = y0 at *
     generalize (nextT L q).2.1 = y1 at *
     generalize (nextT L q).2.2.1 = y2 at *
     generalize (nextT L q).2.2.2 = y3 at *
     clear T K hk hG hA hg hn hL he hn4 HH hlen hbt hcn f1 f2
     go_wp2_with (first
      | (go_at_call 160; (with_reducible refine Calls.mono TK ?_); rintro e w1 ⟨rfl, T1, K1⟩)
      | (go_at_call 101; (with_reducible refine Calls.mono (NX _ T1) ?_); rintro e w2 ⟨rfl, d2⟩)
      | (go_at_call 162; (with_reducible refine Calls.mono (BT _) ?_); rintro e w3 ⟨rfl, d3⟩; have T3 := (T1.more d2).more (d3.alloc d3.size (.cells #[.int .i64 0, .int .i64 0] 186)); have K3 := (K1.more d2).more (d3.alloc d3.size (.cells #[.int .i64 0, .int .i64 0] 186)))
      | (go_at_call 164; (with_reducible refine Calls.mono (SE _ T3) ?_); rintro e w4 ⟨rfl, T4, K4⟩; obtain ⟨sa, sc, x5⟩ := T4.stk))
     go_ret2
     exact ansS_good T4 ((HR.out.trans K3).trans K4)
    ·have hbl : (stk (.brk :: gs')).length = (stk gs').length + 1 := by simp [stk]
     have hs : ((stk (.brk :: gs')).length : Int) ≠ 0 := by rw [hbl]; omega
     have hs' : (((stk (.brk :: gs')).length : Int) == 0) = false := by rw [beq_eq_false_iff_ne]; exact hs
     rw [show ((b, r') : Int × Rd) = (b, ⟨q, false, r'.all⟩) from by rw [← f1, rd_eta f2]] at hA
     have SH := fun (v : World) (T' : Tq W v R ta tc i l o L q r'.all (stk (.brk :: gs'))) => q_shut (S0 := stk gs') T' hL he b (by omega)
     obtain ⟨Y, hY⟩ : ∃ Y, shutE L (b, ⟨q, false, r'.all⟩) = Y := ⟨_, rfl⟩
     rw [hY] at SH hA
     unfold AftP at SH
     cases hYb : Y.2.bad with
     | true =>
      rw [hYb] at SH
      have on := (on_aft numT L gs' 0 Y.1 Y.2).bad hYb
      rw [← hA] at on
      have HR : Hid (Keep TY w wr ∧ Z.2.bad = true ∧ Z.2.pos = Y.2.pos) := ⟨K, on⟩
      generalize hSS : stk (.brk :: gs') = SS at *
      generalize (nextT L q).1 = y0 at *
      generalize (nextT L q).2.1 = y1 at *
      generalize (nextT L q).2.2.1 = y2 at *
      generalize (nextT L q).2.2.2 = y3 at *
      clear T K hk hG hA hg hn hL he hn4 HH hlen hbt hcn f1 f2 on hY hbl hkA hSS
      go_wp2_with (first
       | (go_at_call 160; (with_reducible refine Calls.mono TK ?_); rintro e w1 ⟨rfl, T1, K1⟩)
       | (go_at_call 101; (with_reducible refine Calls.mono (NX _ T1) ?_); rintro e w2 ⟨rfl, d2⟩)
       | (go_at_call 162; (with_reducible refine Calls.mono (BT _) ?_); rintro e w3 ⟨rfl, d3⟩; have T3 := (T1.more d2).more (d3.alloc d3.size (.cells #[.int .i64 0, .int .i64 0] 186)); have K3 := (K1.more d2).more (d3.alloc d3.size (.cells #[.int .i64 0, .int .i64 0] 186)))
       | (go_at_call 164; (with_reducible refine Calls.mono (SE _ T3) ?_); rintro e w4 ⟨rfl, T4, K4⟩; obtain ⟨sa, sc, x5⟩ := T4.stk)
       | (go_at_call 165; (with_reducible refine Calls.mono (SH _ T4) ?_); rintro e w5 ⟨rfl, ⟨al2, S2, T5, h2⟩, K5⟩))
      obtain ⟨K, z1, z2⟩ := HR.out
      go_ret2
      exact ansS_bad z1 z2 T5 (((K.trans K3).trans K4).trans K5)
     | false =>
      rw [hYb] at SH
      obtain ⟨c1, c2, c3⟩ := shut_cnt hL q r'.all b hY hYb
      have hA' := hA.symm
      rw [← rd_eta hYb] at hA'
      have HR : Hid (Keep TY w wr ∧ FrOk gs' ∧ goal L (some Y.1) gs' ⟨Y.2.pos, false, Y.2.all⟩ = Z ∧ L.length - q + 1 ≤ gk ∧ q + 1 ≤ Y.2.pos ∧ Y.2.all.length + 1 + (stk gs').length + 2 * (L.length - Y.2.pos) ≤ 20000 ∧ q < L.length) := ⟨K, hkA, hA', hg, c2, by omega, c3⟩
      generalize hSS : stk (.brk :: gs') = SS at *
      generalize (nextT L q).1 = y0 at *
      generalize (nextT L q).2.1 = y1 at *
      generalize (nextT L q).2.2.1 = y2 at *
      generalize (nextT L q).2.2.2 = y3 at *
      clear T K hk hG hA hA' hg hn hL he hn4 HH hlen hbt hcn f1 f2 hY hbl hkA hSS c1 c2 c3
      go_wp2_with (first
       | (go_at_call 160; (with_reducible refine Calls.mono TK ?_); rintro e w1 ⟨rfl, T1, K1⟩)
       | (go_at_call 101; (with_reducible refine Calls.mono (NX _ T1) ?_); rintro e w2 ⟨rfl, d2⟩)
       | (go_at_call 162; (with_reducible refine Calls.mono (BT _) ?_); rintro e w3 ⟨rfl, d3⟩; have T3 := (T1.more d2).more (d3.alloc d3.size (.cells #[.int .i64 0, .int .i64 0] 186)); have K3 := (K1.more d2).more (d3.alloc d3.size (.cells #[.int .i64 0, .int .i64 0] 186)))
       | (go_at_call 164; (with_reducible refine Calls.mono (SE _ T3) ?_); rintro e w4 ⟨rfl, T4, K4⟩; obtain ⟨sa, sc, x5⟩ := T4.stk)
       | (go_at_call 165; (with_reducible refine Calls.mono (SH _ T4) ?_); rintro e w5 ⟨rfl, ⟨al2, S2, T5, h2⟩, K5⟩; obtain ⟨rfl, rfl⟩ := h2 trivial))
      obtain ⟨K, hk, hG, hg, hp, hn, hq⟩ := HR.out
      go_roundg (L.length - Y.2.pos + 1)
      case measure => omega
      case rel =>
       refine ⟨gs', some Y.1, Y.2.pos, Y.2.all, trivial, T5, ((K.trans K3).trans K4).trans K5, hk, hG, Nat.le_refl _, ?_⟩
       rw [List.length_append]
       show Y.2.all.length + ((stk gs').length + 1) + _ ≤ _
       omega
end
end
end Go.Proofs.YtaeladkcmpdkhaaGreatDoor
