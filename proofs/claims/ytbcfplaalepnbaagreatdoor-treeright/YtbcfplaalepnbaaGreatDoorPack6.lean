/-
  Texts of mine put together in build order, as far as TreeParses, TreeRight need them: TreeQG, TreeQH, TreeQI, TreeQJ, TreeQK, TreeQL, TreeQM, SignWalksD, SignC, TreeFields, TreePg, TreeQP. No conditions of their own.
-/
import Derived.WalkKit
import Derived.ProofKit
import Derived.Lib.AppendZerosOnto
import Derived.Laws.AppendOwn
import Derived.Laws.AppendOwnNone
import Derived.Test.YtbcfplaalepnbaaGreatDoorRows
import Derived.WalkLawsBesides
import Derived.Deep.QuietTactic
import Derived.BigQuiet
import Derived.Outline
import Derived.Lib.BitFns
import Derived.OpenShut
import Derived.Laws.CopyOwn
import Derived.Lib.DecodeN
import Derived.Deep.LoopGhost
import Derived.Deep.RegionLaw
import Derived.Deep.DrawnRows
import Derived.Deep.RegionWith
import Derived.Deep.RegionHeld3
import Derived.Laws.IdiomStrings
import Derived.Laws.Bits64b
import Derived.RangeFuncNested
import Derived.RangeFuncBound
import Derived.RangeFuncCalls
import Derived.RangeFuncLeaves
import Derived.Shelf.Abstract
import Derived.Shelf.RegionOpen
import Derived.OwnWalkIn
import Derived.TacticsInMore
import Derived.LoopNIn
import Derived.LoopIn
import Derived.Sort.LoopGhostIn
import Derived.Lib.AtoiAll
import Derived.Lib.OthersKept
import Derived.Shelf.Strconv.AtoiAll
import Derived.Test.YtbcfplaalepnbaaGreatDoorProg
import Derived.Laws.EntriesVeiled
import Derived.Deep.DeepCutAuto
import Derived.Lib.Bytealg
import Derived.Test.YtbcfplaalepnbaaGreatDoorPack5
namespace Go.Proofs.YtbcfplaalepnbaaGreatDoor
open Go.RowKit Go.Lib
theorem name_yes {L : List Tok} (hL : Toks L) {p : Nat} {all : List Nd} (h : nameB (nextT L p).2.1 = true) : (⟨p, false, all⟩ : Rd).nameT L = ((nextT L p).2.1, ⟨p + 1, false, all⟩) ∧ ∃ t, L[p]? = some t ∧ t.1 = 0 := by
  cases e : L[p]? with
  | none =>
    rw [nextT_none e] at h
    exact absurd h (by unfold nameB; rw [decide_eq_false (show ¬ (1 ≤ noText.size ∧ noText.size ≤ 40) from fun q => absurd q.1 (by show ¬ 1 ≤ 0; omega))]; simp)
  | some t =>
    rw [nextT_some e] at h ⊢
    have hk := name_kind (hL.right t (List.mem_of_getElem? e)).1 h
    refine ⟨?_, t, rfl, hk⟩
    unfold Rd.nameT
    rw [if_neg (by simp)]
    show (match L[p]? with | none => _ | some t => _) = _
    rw [e]
    dsimp only
    rw [if_pos ⟨hk, h⟩]
    rfl
theorem name_no {L : List Tok} {p : Nat} {all : List Nd} (h : nameB (nextT L p).2.1 = false) : (⟨p, false, all⟩ : Rd).nameT L = (noText, ⟨p, true, all⟩) := by
  unfold Rd.nameT
  rw [if_neg (by simp)]
  dsimp only
  cases e : L[p]? with
  | none => rfl
  | some t =>
    rw [nextT_some e] at h
    dsimp only
    rw [if_neg (fun q => by rw [q.2] at h; exact absurd h (by simp))]
    rfl
theorem next_kind {L : List Tok} {p : Nat} : (nextT L p).1 = 1 ↔ ∃ t, L[p]? = some t ∧ t.1 = 1 := by
  cases e : L[p]? with
  | none => rw [nextT_none e]; simp
  | some t => rw [nextT_some e]; simp
section
variable {W w : World} {R : Nat} {ta : Option Addr} {tc : Nat} {i l o : Value} {L : List Tok} {p : Nat} {all : List Nd} {S : List It}
set_option maxHeartbeats 16000000 in
theorem q_begin_num (h : Tq W w R ta tc i l o L p all S) (hL : Toks L) (he : ErrV W) (hl : all.length + S.length ≤ 40000) (hb0 : ((nextT L p).2.1.toList == [45]) = false) (hb1 : ((nextT L p).2.1.toList == [40]) = false) (hk : (nextT L p).1 = 1) :
    Calls Tryz.prog 134 #[.pointer (some ⟨R, 0, none⟩)] w (AftP W w R ta tc i l o L S (((⟨p, false, all⟩ : Rd).leaf numT L).2.powT L ((⟨p, false, all⟩ : Rd).leaf numT L).1)) := by
  obtain ⟨t, ht, ht1⟩ := next_kind.1 hk
  rw [leaf_num numT L ⟨p, false, all⟩ rfl ht ht1]
  have hp := (List.getElem?_eq_some_iff.1 ht).1
  have NX := q_next h
  have PS := fun (v : World) (T : Tq W v R ta tc i l o L p all S) => q_pass T ⟨#[45]⟩ (by rw [toList_byte]; simp) false (by rw [toList_byte]; exact hb0)
  have PS2 := fun (v : World) (T : Tq W v R ta tc i l o L p all S) => q_pass T ⟨#[40]⟩ (by rw [toList_byte]; simp) false (by rw [toList_byte]; exact hb1)
  simp only [Bool.false_eq_true, if_false] at PS PS2
  have e1 : ((nextT L p).1 == 1) = true := by rw [beq_iff_eq]; exact hk
  rw [nextT_some ht] at NX e1
  have PR := fun (v : World) => rat_parse t.2.1 v (by have := (hL.right t (List.mem_of_getElem? ht)).2; unfold maxLen; omega)
  rw [show parT t.2.1.data.toList = numT t.2.1 from rfl] at PR
  unfold AnsTE at PR
  have SK := fun (v : World) (T : Tq W v R ta tc i l o L p all S) => q_skip T hp
  have AD := fun (v : World) (T : Tq W v R ta tc i l o L (p + 1) all S) ua uc va vc hN => q_add T ⟨1, 0, 0, 0, ⟨#[]⟩, numT t.2.1⟩ ua (nl (numT t.2.1).2.1) uc va (nl (numT t.2.1).2.2) vc hN (by omega)
  dsimp only at AD
  have PW := fun (v : World) (T : Tq W v R ta tc i l o L (p + 1) (all ++ [⟨1, 0, 0, 0, ⟨#[]⟩, numT t.2.1⟩]) S) => q_power T hL he all.length (by rw [List.length_append]; show all.length + 1 + _ ≤ _; omega)
  show Calls Tryz.prog _ _ w (AftP W w R ta tc i l o L S ((⟨p + 1, false, all ++ [⟨1, 0, 0, 0, ⟨#[]⟩, numT t.2.1⟩]⟩ : Rd).powT L all.length))
  generalize (⟨p + 1, false, all ++ [⟨1, 0, 0, 0, ⟨#[]⟩, numT t.2.1⟩]⟩ : Rd).powT L all.length = Z at *
  generalize hN : all.length = N at *
  have HH : Hid (Tq W w R ta tc i l o L p all S) := h
  generalize parE t.2.1.data.toList = E at *
  generalize t.1 = y0 at *
  generalize numT t.2.1 = nm at *
  generalize t.2.1 = y1 at *
  generalize t.2.2.1 = y2 at *
  generalize t.2.2.2 = y3 at *
  clear h hb0 hb1 hL he hl hk ht ht1 hp
  go_enter Tryz.func134, Tryz.ntmps134
  go_wp2_with (first
    | (go_at_call 83; (with_reducible refine Calls.mono NX ?_); rintro e w1 ⟨rfl, d1⟩; have T1 := HH.out.more (d1.alloc d1.size (.cells #[.int .i64 y0, .string y1, .int .i64 y2, .int .i64 y3] 66)); have K1 := Keep.of TY (d1.alloc d1.size (.cells #[.int .i64 y0, .string y1, .int .i64 y2, .int .i64 y3] 66)); have B1 := BoxC.new w1 #[.int .i64 y0, .string y1, .int .i64 y2, .int .i64 y3] 66)
    | (go_at_call 53; (with_reducible refine Calls.mono (PS _ T1) ?_); rintro e w2 ⟨rfl, T2, K2⟩)
    | (go_at_call 53; (with_reducible refine Calls.mono (PS2 _ T2) ?_); rintro e w3 ⟨rfl, T3, K3⟩; have B3 := (B1.keep K2 ty_tok).keep K3 ty_tok; have c30 := (B3.cell 0).1; have c31 := (B3.cell 1).1)
    | (go_at_call 148; (with_reducible refine Calls.mono (PR _) ?_); rintro e w4 ⟨ra, rc, rb, rd, rfl, o1, o2⟩; have T4 := T3.more (o1.below.alloc o1.below.size (.cells #[.bool nm.1, .slice ra (nl nm.2.1) rc, .slice rb (nl nm.2.2) rd] 42)); have B4 := BoxC.new w4 #[.bool nm.1, .slice ra (nl nm.2.1) rc, .slice rb (nl nm.2.2) rd] 42; have p1 := (o1.outer T3.below).alloc (.cells #[.bool nm.1, .slice ra (nl nm.2.1) rc, .slice rb (nl nm.2.2) rd] 42); have p2 := (o2.outer T3.below).alloc (.cells #[.bool nm.1, .slice ra (nl nm.2.1) rc, .slice rb (nl nm.2.2) rd] 42))
    | (go_at_call 84; (with_reducible refine Calls.mono (SK _ T4) ?_); rintro e w5 ⟨rfl, T5, K5⟩; obtain ⟨n0, n1, n2, -, -, -⟩ := (B4.keep K5 (by unfold TY; decide)).cells3; have NW : NumW W w5 (rawOf ⟨1, 0, 0, 0, ⟨#[]⟩, nm⟩, .slice ra (nl nm.2.1) rc, .slice rb (nl nm.2.2) rd) := ⟨OwnC.keep p1 K5 ty_u32 T5.below, OwnC.keep p2 K5 ty_u32 T5.below⟩)
    | (go_at_call 150; (with_reducible refine Calls.mono (AD _ T5 ra rc rb rd NW) ?_); rintro e w6 ⟨rfl, T6, K6⟩)
    | (go_at_call 149; (with_reducible refine Calls.mono (PW _ T6) ?_); rintro e w7 ⟨rfl, T7, K7⟩))
  go_ret
  exact AftP.from (((((K1.trans K2).trans K3).trans (Keep.of TY (o1.below.alloc o1.below.size (.cells #[.bool nm.1, .slice ra (nl nm.2.1) rc, .slice rb (nl nm.2.2) rd] 42)))).trans K5).trans K6) ⟨rfl, T7, K7⟩
set_option maxHeartbeats 16000000 in
theorem q_begin_name (h : Tq W w R ta tc i l o L p all S) (hL : Toks L) (he : ErrV W) (hl : all.length + S.length ≤ 40000) (hb0 : ((nextT L p).2.1.toList == [45]) = false) (hb1 : ((nextT L p).2.1.toList == [40]) = false) (hk : (nextT L p).1 ≠ 1) :
    Calls Tryz.prog 134 #[.pointer (some ⟨R, 0, none⟩)] w (AftP W w R ta tc i l o L S (((⟨p, false, all⟩ : Rd).leaf numT L).2.powT L ((⟨p, false, all⟩ : Rd).leaf numT L).1)) := by
  have hkk : (⟨p, false, all⟩ : Rd).bad = true ∨ L[(⟨p, false, all⟩ : Rd).pos]? = none ∨ ∃ t, L[(⟨p, false, all⟩ : Rd).pos]? = some t ∧ t.1 ≠ 1 := by
    dsimp only
    cases e : L[p]? with
    | none => exact .inr (.inl rfl)
    | some t => exact .inr (.inr ⟨t, rfl, fun q => hk (next_kind.2 ⟨t, e, q⟩)⟩)
  rw [leaf_name numT L ⟨p, false, all⟩ hkk]
  clear hkk
  have NX := q_next h
  have PS := fun (v : World) (T : Tq W v R ta tc i l o L p all S) => q_pass T ⟨#[45]⟩ (by rw [toList_byte]; simp) false (by rw [toList_byte]; exact hb0)
  have PS2 := fun (v : World) (T : Tq W v R ta tc i l o L p all S) => q_pass T ⟨#[40]⟩ (by rw [toList_byte]; simp) false (by rw [toList_byte]; exact hb1)
  simp only [Bool.false_eq_true, if_false] at PS PS2
  have e1 : ((nextT L p).1 == 1) = false := by rw [beq_eq_false_iff_ne]; exact hk
  cases hn : nameB (nextT L p).2.1 with
  | false =>
    rw [name_no hn]
    show Calls Tryz.prog _ _ w (AftP W w R ta tc i l o L S ((⟨p, true, all ++ [⟨0, 0, 0, 0, noText, (false, 0, 0)⟩]⟩ : Rd).powT L all.length))
    rw [bad_pow]
    unfold AftP
    have NM := fun (v : World) (T : Tq W v R ta tc i l o L p all S) => q_name T hL false hn
    simp only [Bool.false_eq_true, if_false] at NM
    have HH : Hid (Tq W w R ta tc i l o L p all S) := h
    generalize (nextT L p).1 = y0 at *
    generalize (nextT L p).2.1 = y1 at *
    generalize (nextT L p).2.2.1 = y2 at *
    generalize (nextT L p).2.2.2 = y3 at *
    clear h hb0 hb1 hL he hl hk hn
    go_enter Tryz.func134, Tryz.ntmps134
    go_wp2_with (first
      | (go_at_call 83; (with_reducible refine Calls.mono NX ?_); rintro e w1 ⟨rfl, d1⟩; have T1 := HH.out.more (d1.alloc d1.size (.cells #[.int .i64 y0, .string y1, .int .i64 y2, .int .i64 y3] 66)); have K1 := Keep.of TY (d1.alloc d1.size (.cells #[.int .i64 y0, .string y1, .int .i64 y2, .int .i64 y3] 66)); have B1 := BoxC.new w1 #[.int .i64 y0, .string y1, .int .i64 y2, .int .i64 y3] 66)
      | (go_at_call 53; (with_reducible refine Calls.mono (PS _ T1) ?_); rintro e w2 ⟨rfl, T2, K2⟩)
      | (go_at_call 53; (with_reducible refine Calls.mono (PS2 _ T2) ?_); rintro e w3 ⟨rfl, T3, K3⟩; have B3 := (B1.keep K2 ty_tok).keep K3 ty_tok; have c30 := (B3.cell 0).1; have c31 := (B3.cell 1).1)
      | (go_at_call 85; (with_reducible refine Calls.mono (NM _ T3) ?_); rintro e w4 ⟨rfl, T4, K4⟩))
    go_ret
    exact ⟨rfl, ⟨_, _, T4, fun q => absurd q (by simp)⟩, ((K1.trans K2).trans K3).trans K4⟩
  | true =>
    rw [(name_yes hL hn).1]
    show Calls Tryz.prog _ _ w (AftP W w R ta tc i l o L S ((⟨p + 1, false, all ++ [⟨0, 0, 0, 0, (nextT L p).2.1, (false, 0, 0)⟩]⟩ : Rd).powT L all.length))
    have NM := fun (v : World) (T : Tq W v R ta tc i l o L p all S) => q_name T hL true hn
    simp only [if_true] at NM
    have AD := fun (v : World) (T : Tq W v R ta tc i l o L (p + 1) all S) => q_add T ⟨0, 0, 0, 0, (nextT L p).2.1, (false, 0, 0)⟩ none 0 0 none 0 0 (num_zeroY T.below 0 0 0 0 _) (by omega)
    dsimp only at AD
    have PW := fun (v : World) (T : Tq W v R ta tc i l o L (p + 1) (all ++ [⟨0, 0, 0, 0, (nextT L p).2.1, (false, 0, 0)⟩]) S) => q_power T hL he all.length (by rw [List.length_append]; show all.length + 1 + _ ≤ _; omega)
    generalize (⟨p + 1, false, all ++ [⟨0, 0, 0, 0, (nextT L p).2.1, (false, 0, 0)⟩]⟩ : Rd).powT L all.length = Z at *
    generalize hN : all.length = N at *
    have HH : Hid (Tq W w R ta tc i l o L p all S) := h
    generalize (nextT L p).1 = y0 at *
    generalize (nextT L p).2.1 = y1 at *
    generalize (nextT L p).2.2.1 = y2 at *
    generalize (nextT L p).2.2.2 = y3 at *
    clear h hb0 hb1 hL he hl hk hn
    go_enter Tryz.func134, Tryz.ntmps134
    go_wp2_with (first
      | (go_at_call 83; (with_reducible refine Calls.mono NX ?_); rintro e w1 ⟨rfl, d1⟩; have T1 := HH.out.more (d1.alloc d1.size (.cells #[.int .i64 y0, .string y1, .int .i64 y2, .int .i64 y3] 66)); have K1 := Keep.of TY (d1.alloc d1.size (.cells #[.int .i64 y0, .string y1, .int .i64 y2, .int .i64 y3] 66)); have B1 := BoxC.new w1 #[.int .i64 y0, .string y1, .int .i64 y2, .int .i64 y3] 66)
      | (go_at_call 53; (with_reducible refine Calls.mono (PS _ T1) ?_); rintro e w2 ⟨rfl, T2, K2⟩)
      | (go_at_call 53; (with_reducible refine Calls.mono (PS2 _ T2) ?_); rintro e w3 ⟨rfl, T3, K3⟩; have B3 := (B1.keep K2 ty_tok).keep K3 ty_tok; have c30 := (B3.cell 0).1; have c31 := (B3.cell 1).1)
      | (go_at_call 85; (with_reducible refine Calls.mono (NM _ T3) ?_); rintro e w4 ⟨rfl, T4, K4⟩)
      | (go_at_call 150; (with_reducible refine Calls.mono (AD _ T4) ?_); rintro e w5 ⟨rfl, T5, K5⟩)
      | (go_at_call 149; (with_reducible refine Calls.mono (PW _ T5) ?_); rintro e w6 ⟨rfl, T6, K6⟩))
    go_ret
    exact AftP.from ((((K1.trans K2).trans K3).trans K4).trans K5) ⟨rfl, T6, K6⟩
theorem q_begin_leaf (h : Tq W w R ta tc i l o L p all S) (hL : Toks L) (he : ErrV W) (hl : all.length + S.length ≤ 40000) (hb0 : ((nextT L p).2.1.toList == [45]) = false) (hb1 : ((nextT L p).2.1.toList == [40]) = false) :
    Calls Tryz.prog 134 #[.pointer (some ⟨R, 0, none⟩)] w (AftP W w R ta tc i l o L S (((⟨p, false, all⟩ : Rd).leaf numT L).2.powT L ((⟨p, false, all⟩ : Rd).leaf numT L).1)) := by
  by_cases hk : (nextT L p).1 = 1
  · exact q_begin_num h hL he hl hb0 hb1 hk
  · exact q_begin_name h hL he hl hb0 hb1 hk
end
end Go.Proofs.YtbcfplaalepnbaaGreatDoor
namespace Go.Proofs.YtbcfplaalepnbaaGreatDoor
open Go.RowKit Go.Lib
theorem setF_at (c : Bool) (p q : Nat) : ∀ (fs : List Fr) (a : Int) (al : List Nd), setF c fs a ⟨q, false, al⟩ = ((setF c fs a ⟨p, false, al⟩).1, (setF c fs a ⟨p, false, al⟩).2.1, ⟨q, false, (setF c fs a ⟨p, false, al⟩).2.2.all⟩) := by
  intro fs
  induction fs with
  | nil => intro a al; rfl
  | cons f fs ih =>
    intro a al
    cases f with
    | neg => exact ih al.length (al ++ [nd1 a])
    | brk => rfl
    | bin k l c1 =>
      by_cases h : (c && !c1) = true
      · unfold setF; rw [if_pos h, if_pos h]
      · have e : ∀ u : Nat, setF c (.bin k l c1 :: fs) a ⟨u, false, al⟩ = setF c fs al.length ⟨u, false, al ++ [nd2 k l a]⟩ := by
          intro u; conv => lhs; unfold setF
          rw [if_neg h]; rfl
        rw [e, e]
        exact ih al.length (al ++ [nd2 k l a])
theorem setF_cnt (c : Bool) (p : Nat) : ∀ (fs : List Fr) (a : Int) (al : List Nd), (setF c fs a ⟨p, false, al⟩).2.2.all.length + (stk (setF c fs a ⟨p, false, al⟩).1).length ≤ al.length + (stk fs).length := by
  intro fs
  induction fs with
  | nil => intro a al; exact Nat.le_refl _
  | cons f fs ih =>
    intro a al
    cases f with
    | neg =>
      have := ih al.length (al ++ [nd1 a])
      rw [List.length_append] at this
      have e : (stk (.neg :: fs)).length = (stk fs).length + 1 := by simp [stk]
      rw [e]
      refine Nat.le_trans this ?_
      show al.length + 1 + _ ≤ _
      omega
    | brk => exact Nat.le_refl _
    | bin k l c1 =>
      by_cases h : (c && !c1) = true
      · unfold setF; rw [if_pos h]; exact Nat.le_refl _
      · have e : setF c (.bin k l c1 :: fs) a ⟨p, false, al⟩ = setF c fs al.length ⟨p, false, al ++ [nd2 k l a]⟩ := by
          conv => lhs; unfold setF
          rw [if_neg h]; rfl
        rw [e]
        have := ih al.length (al ++ [nd2 k l a])
        rw [List.length_append] at this
        have e : (stk (.bin k l c1 :: fs)).length = (stk fs).length + 2 := by simp [stk]
        rw [e]
        refine Nat.le_trans this ?_
        show al.length + 1 + _ ≤ _
        omega
theorem pow_cnt {L : List Tok} (hL : Toks L) (p : Nat) (all : List Nd) (a : Int) {Z : Int × Rd} (hZ : (⟨p, false, all⟩ : Rd).powT L a = Z) (hb : Z.2.bad = false) : Z.2.all.length + 2 * (L.length - Z.2.pos) ≤ all.length + 2 * (L.length - p) ∧ p ≤ Z.2.pos := by
  cases h : ((nextT L p).2.1.toList == [94]) with
  | false => rw [pow_no hL h] at hZ; subst hZ; exact ⟨Nat.le_refl _, Nat.le_refl _⟩
  | true =>
    have hp := next_lt (x := ⟨#[94]⟩) (by rw [toList_byte]; exact h) (by rw [toList_byte]; simp)
    rw [pow_yes hL h rfl rfl] at hZ
    generalize hp1 : (if ((nextT L (p + 1)).2.1.toList == [45]) = true then p + 1 + 1 else p + 1) = p1 at hZ
    have h1 : p + 1 ≤ p1 := by subst hp1; split <;> omega
    cases hx : expA (nextT L p1).2.1 with
    | none => rw [powE_none hL hx] at hZ; subst hZ; exact absurd hb (by simp)
    | some n =>
      rw [powE_some hL hx] at hZ
      subst hZ
      refine ⟨?_, by show p ≤ p1 + 1; omega⟩
      show (all ++ [_]).length + 2 * (L.length - (p1 + 1)) ≤ _
      rw [List.length_append]
      show all.length + 1 + _ ≤ _
      omega
theorem leaf_cnt {L : List Tok} (hL : Toks L) (p : Nat) (all : List Nd) {Z : Int × Rd} (hZ : ((⟨p, false, all⟩ : Rd).leaf numT L).2.powT L ((⟨p, false, all⟩ : Rd).leaf numT L).1 = Z) (hb : Z.2.bad = false) : Z.2.all.length + 1 + 2 * (L.length - Z.2.pos) ≤ all.length + 2 * (L.length - p) ∧ p + 1 ≤ Z.2.pos ∧ p < L.length := by
  have key : ∀ (t : Tok) (nd : Nd), L[p]? = some t → (⟨p + 1, false, all ++ [nd]⟩ : Rd).powT L all.length = Z → Z.2.all.length + 1 + 2 * (L.length - Z.2.pos) ≤ all.length + 2 * (L.length - p) ∧ p + 1 ≤ Z.2.pos ∧ p < L.length := by
    intro t nd ht he
    have hp := (List.getElem?_eq_some_iff.1 ht).1
    obtain ⟨h1, h2⟩ := pow_cnt hL (p + 1) (all ++ [nd]) all.length he hb
    rw [List.length_append] at h1
    have : all.length + [nd].length = all.length + 1 := rfl
    omega
  by_cases hk : (nextT L p).1 = 1
  · obtain ⟨t, ht, ht1⟩ := next_kind.1 hk
    rw [leaf_num numT L ⟨p, false, all⟩ rfl ht ht1] at hZ
    exact key t _ ht hZ
  · have hkk : (⟨p, false, all⟩ : Rd).bad = true ∨ L[(⟨p, false, all⟩ : Rd).pos]? = none ∨ ∃ t, L[(⟨p, false, all⟩ : Rd).pos]? = some t ∧ t.1 ≠ 1 := by
      dsimp only
      cases e : L[p]? with
      | none => exact .inr (.inl rfl)
      | some t => exact .inr (.inr ⟨t, rfl, fun q => hk (next_kind.2 ⟨t, e, q⟩)⟩)
    rw [leaf_name numT L ⟨p, false, all⟩ hkk] at hZ
    cases hn : nameB (nextT L p).2.1 with
    | false =>
      rw [name_no hn] at hZ
      rw [show (⟨p, true, all⟩ : Rd).node ⟨0, 0, 0, 0, noText, (false, 0, 0)⟩ = ((all.length : Int), ⟨p, true, all ++ [⟨0, 0, 0, 0, noText, (false, 0, 0)⟩]⟩) from rfl] at hZ
      dsimp only at hZ
      rw [bad_pow] at hZ
      subst hZ
      exact absurd hb (by simp)
    | true =>
      obtain ⟨h1, t, ht, -⟩ := name_yes hL (all := all) hn
      rw [h1] at hZ
      exact key t _ ht hZ
theorem btw_some {x : List UInt8} {k : Int} {c : Bool} (h : btw x = some (k, c)) : (c = true ∧ k = (if (x == [47]) = true then 5 else 4) ∧ ((x == [42]) || (x == [47])) = true) ∨ (c = false ∧ k = (if (x == [45]) = true then 3 else 2) ∧ ((x == [42]) || (x == [47])) = false ∧ ((x == [43]) || (x == [45])) = true) := by
  unfold btw at h
  by_cases e1 : x = [43]
  · subst e1; rw [if_pos rfl] at h; cases h; exact .inr ⟨rfl, by decide, by decide, by decide⟩
  rw [if_neg e1] at h
  by_cases e2 : x = [45]
  · subst e2; rw [if_pos rfl] at h; cases h; exact .inr ⟨rfl, by decide, by decide, by decide⟩
  rw [if_neg e2] at h
  by_cases e3 : x = [42]
  · subst e3; rw [if_pos rfl] at h; cases h; exact .inl ⟨rfl, by decide, by decide⟩
  rw [if_neg e3] at h
  by_cases e4 : x = [47]
  · subst e4; rw [if_pos rfl] at h; cases h; exact .inl ⟨rfl, by decide, by decide⟩
  rw [if_neg e4] at h
  cases h
theorem btw_none {x : List UInt8} (h : btw x = none) : ((x == [42]) || (x == [47])) = false ∧ ((x == [43]) || (x == [45])) = false := by
  unfold btw at h
  by_cases e1 : x = [43]
  · rw [if_pos e1] at h; cases h
  rw [if_neg e1] at h
  by_cases e2 : x = [45]
  · rw [if_pos e2] at h; cases h
  rw [if_neg e2] at h
  by_cases e3 : x = [42]
  · rw [if_pos e3] at h; cases h
  rw [if_neg e3] at h
  by_cases e4 : x = [47]
  · rw [if_pos e4] at h; cases h
  constructor
  · rw [Bool.or_eq_false_iff]; exact ⟨by rw [beq_eq_false_iff_ne]; exact e3, by rw [beq_eq_false_iff_ne]; exact e4⟩
  · rw [Bool.or_eq_false_iff]; exact ⟨by rw [beq_eq_false_iff_ne]; exact e1, by rw [beq_eq_false_iff_ne]; exact e2⟩
theorem aft_sign {L : List Tok} (hL : Toks L) {p : Nat} {fs : List Fr} {a : Int} {al : List Nd} {k : Int} {c : Bool} (hk : FrOk fs) (h : btw (nextT L p).2.1.toList = some (k, c)) :
    aft numT L fs 0 a ⟨p, false, al⟩ = ahd numT L (.bin k (setF c fs a ⟨p + 1, false, al⟩).2.1 c :: (setF c fs a ⟨p + 1, false, al⟩).1) ⟨p + 1, false, (setF c fs a ⟨p + 1, false, al⟩).2.2.all⟩ ∧ FrOk (.bin k (setF c fs a ⟨p + 1, false, al⟩).2.1 c :: (setF c fs a ⟨p + 1, false, al⟩).1) := by
  have m1 : ∀ x : UInt8, kindI x.toNat = 4 → (⟨p, false, al⟩ : Rd).is L 2 [x] = ((nextT L p).2.1.toList == [x]) := fun x hx => hL.mark rfl hx
  obtain ⟨f1, f2, f3, f4⟩ := setF_rd c fs a ⟨p, false, al⟩
  rw [setF_at c p (p + 1)]
  dsimp only
  have er : (setF c fs a ⟨p, false, al⟩).2.2.skip = ⟨p + 1, false, (setF c fs a ⟨p, false, al⟩).2.2.all⟩ := by unfold Rd.skip; rw [f1, f2]
  rcases btw_some h with ⟨rfl, rfl, h3⟩ | ⟨rfl, rfl, h3, h4⟩
  · obtain ⟨g1, g2⟩ := aft_mul numT L a (r := ⟨p, false, al⟩) hk (by rw [m1 42 (by decide), m1 47 (by decide)]; exact h3)
    rw [m1 47 (by decide), er] at g1
    exact ⟨g1, g2, f4 hk⟩
  · obtain ⟨g1, g2⟩ := aft_add numT L a (r := ⟨p, false, al⟩) hk (by rw [m1 42 (by decide), m1 47 (by decide), h3]; simp) (by rw [m1 43 (by decide), m1 45 (by decide)]; exact h4)
    rw [m1 45 (by decide), er] at g1
    exact ⟨g1, g2, f4 hk⟩
theorem aft_none {L : List Tok} (hL : Toks L) {p : Nat} {fs : List Fr} {a : Int} {al : List Nd} (hk : FrOk fs) (h : btw (nextT L p).2.1.toList = none) :
    ((setF false fs a ⟨p, false, al⟩).1 = [] ∧ aft numT L fs 0 a ⟨p, false, al⟩ = (setF false fs a ⟨p, false, al⟩).2) ∨ (∃ gs, (setF false fs a ⟨p, false, al⟩).1 = .brk :: gs ∧ FrOk gs ∧ aft numT L fs 0 a ⟨p, false, al⟩ = aft numT L gs 0 (shutE L (setF false fs a ⟨p, false, al⟩).2).1 (shutE L (setF false fs a ⟨p, false, al⟩).2).2) := by
  have m1 : ∀ x : UInt8, kindI x.toNat = 4 → (⟨p, false, al⟩ : Rd).is L 2 [x] = ((nextT L p).2.1.toList == [x]) := fun x hx => hL.mark rfl hx
  obtain ⟨h1, h2⟩ := btw_none h
  exact aft_end numT L a (r := ⟨p, false, al⟩) hk (by rw [m1 42 (by decide), m1 47 (by decide), h1]; simp) (by rw [m1 43 (by decide), m1 45 (by decide), h2]; simp)
theorem shut_cnt {L : List Tok} (hL : Toks L) (p : Nat) (all : List Nd) (a : Int) {Z : Int × Rd} (hZ : shutE L (a, ⟨p, false, all⟩) = Z) (hb : Z.2.bad = false) : Z.2.all.length + 2 * (L.length - Z.2.pos) + 2 ≤ all.length + 2 * (L.length - p) ∧ p + 1 ≤ Z.2.pos ∧ p < L.length := by
  unfold shutE at hZ
  dsimp only at hZ
  cases h : ((nextT L p).2.1.toList == [41]) with
  | false =>
    have e : (⟨p, false, all⟩ : Rd).want L 2 [41] = ⟨p, true, all⟩ := by
      unfold Rd.want
      rw [hL.mark rfl (c := 41) (by decide), if_neg (by rw [h]; simp)]; rfl
    rw [e, bad_pow] at hZ
    subst hZ
    exact absurd hb (by simp)
  | true =>
    have hp := next_lt (x := ⟨#[41]⟩) (by rw [toList_byte]; exact h) (by rw [toList_byte]; simp)
    have e : (⟨p, false, all⟩ : Rd).want L 2 [41] = ⟨p + 1, false, all⟩ := by
      unfold Rd.want
      rw [hL.mark rfl (c := 41) (by decide), if_pos h]; rfl
    rw [e] at hZ
    obtain ⟨h1, h2⟩ := pow_cnt hL (p + 1) all a hZ hb
    exact ⟨by omega, by omega, hp⟩
theorem rd_eta {r : Rd} (h : r.bad = false) : (⟨r.pos, false, r.all⟩ : Rd) = r := by cases r; simp at h; subst h; rfl
end Go.Proofs.YtbcfplaalepnbaaGreatDoor
namespace Go.Proofs.YtbcfplaalepnbaaGreatDoor
open Go.RowKit Go.Lib
def topL : Option Int → List It
  | some a => [.nd a]
  | none => []
def goal (L : List Tok) (top : Option Int) (fs : List Fr) (r : Rd) : Int × Rd := match top with
  | some a => aft numT L fs 0 a r
  | none => ahd numT L fs r
section
variable {W w : World} {R : Nat} {ta : Option Addr} {tc : Nat} {i l o : Value} {L : List Tok} {p : Nat} {all : List Nd}
def AnsS (W w : World) (R : Nat) (ta : Option Addr) (tc : Nat) (i l o : Value) (L : List Tok) (Z : Int × Rd) (e : Ending) (w' : World) : Prop :=
  e = .returned (.tuple #[.int .i64 (if Z.2.bad = true then 0 else Z.1), .bool (!Z.2.bad)]) ∧ (∃ al S', Tq W w' R ta tc i l o L Z.2.pos al S' ∧ (Z.2.bad = false → al = Z.2.all ∧ S' = [])) ∧ Keep TY w w'
theorem ansS_bad {W w w' : World} {R : Nat} {ta : Option Addr} {tc : Nat} {i l o : Value} {L : List Tok} {Z : Int × Rd} {al : List Nd} {S : List It} {q : Nat} (hb : Z.2.bad = true) (hp : Z.2.pos = q) (T : Tq W w' R ta tc i l o L q al S) (K : Keep TY w w') : AnsS W w R ta tc i l o L Z (.returned (.tuple #[.int .i64 0, .bool false])) w' := by
  unfold AnsS
  rw [hb, hp]
  exact ⟨rfl, ⟨al, S, T, fun q => absurd q (by simp)⟩, K⟩
theorem ansS_good {W w w' : World} {R : Nat} {ta : Option Addr} {tc : Nat} {i l o : Value} {L : List Tok} {a : Int} {al : List Nd} {q : Nat} (T : Tq W w' R ta tc i l o L q al []) (K : Keep TY w w') : AnsS W w R ta tc i l o L (a, ⟨q, false, al⟩) (.returned (.tuple #[.int .i64 a, .bool true])) w' := ⟨rfl, ⟨al, [], T, fun _ => ⟨rfl, rfl⟩⟩, K⟩
theorem Tq.stk {S : List It} (h : Tq W w R ta tc i l o L p all S) : ∃ sa sc, w.cell? ⟨R, 5, none⟩ = some (.slice sa S.length sc) := by
  obtain ⟨la, lc, a, c, sa, sc, hW, B, hN, hS, hT⟩ := h
  exact ⟨sa, sc, (B.cell 5).1⟩
set_option maxHeartbeats 40000000 in
theorem q_sum (h : Tq W w R ta tc i l o L p all []) (hL : Toks L) (he : ErrV W) (hc : all.length + 2 * (L.length - p) ≤ 20000) {Z : Int × Rd} (hZ : exprI numT L 0 0 ⟨p, false, all⟩ = Z) :
    Calls Tryz.prog 115 #[.pointer (some ⟨R, 0, none⟩)] w (AnsS W w R ta tc i l o L Z) := by
  rw [← ahd_nil] at hZ
  have HH : Hid (Tq W w R ta tc i l o L p all [] ∧ Toks L ∧ ErrV W ∧ all.length + 2 * (L.length - p) ≤ 20000 ∧ ahd numT L [] ⟨p, false, all⟩ = Z) := ⟨h, hL, he, hc, hZ⟩
  clear h hL he hc hZ
  go_enter Tryz.func115, Tryz.ntmps115
  go_wp2
  go_loopg [4] (L.length - p + 1) (fun g s4 v => ∃ (fs : List Fr) (top : Option Int) (q : Nat) (al : List Nd), s4 = s4 ∧ Tq W v R ta tc i l o L q al (stk fs ++ topL top) ∧ Keep TY w v ∧ FrOk fs ∧ goal L top fs ⟨q, false, al⟩ = Z ∧ L.length - q + 1 ≤ g ∧ al.length + (stk fs ++ topL top).length + 2 * (L.length - q) ≤ 20000)
  case atStart => exact ⟨[], none, p, all, rfl, HH.out.1, Keep.refl TY w, trivial, HH.out.2.2.2.2, Nat.le_refl _, HH.out.2.2.2.1⟩
  case round =>
    obtain ⟨fs, top, q, al, -, T, K, hk, hG, hg, hn⟩ := hrel
    have hL := HH.out.2.1
    have he := HH.out.2.2.1
    have hn4 := hL.len
    cases top with
    | none =>
      rw [show stk fs ++ topL none = stk fs from List.append_nil _] at T hn
      have TK := q_take_no T (by omega) (stk_last fs)
      cases hb0 : ((nextT L q).2.1.toList == [45]) with
      | true =>
        have hp := next_lt (x := ⟨#[45]⟩) (by rw [toList_byte]; exact hb0) (by rw [toList_byte]; simp)
        have BG := fun (v : World) (d : Below wr.heap.size wr v) => q_begin_neg (T.more d) (by omega) hb0
        have hG' : goal L none (.neg :: fs) ⟨q + 1, false, al⟩ = Z := (ahd_neg numT L fs (r := ⟨q, false, al⟩) (by rw [hL.mark rfl (by decide)]; exact hb0)).symm.trans hG
        have HR : Hid (Keep TY w wr ∧ FrOk (.neg :: fs) ∧ goal L none (.neg :: fs) ⟨q + 1, false, al⟩ = Z ∧ L.length - q + 1 ≤ gk ∧ q < L.length ∧ al.length + (stk fs).length + 2 * (L.length - q) ≤ 20000) := ⟨K, hk, hG', hg, hp, hn⟩
        clear T K hk hG hG' hg hn hL he hn4 HH hp hb0
        go_wp2_with (first
          | (go_at_call 133; (with_reducible refine Calls.mono TK ?_); rintro e w1 ⟨rfl, d1⟩)
          | (go_at_call 134; (with_reducible refine Calls.mono (BG _ d1) ?_); rintro e w2 ⟨rfl, T2, K2⟩))
        obtain ⟨K, hk, hG, hg, hp, hn⟩ := HR.out
        go_roundg (L.length - (q + 1) + 1)
        case measure => omega
        case rel =>
          refine ⟨.neg :: fs, none, q + 1, al, trivial, ?_, (K.more d1).trans K2, hk, hG, Nat.le_refl _, ?_⟩
          · rw [show stk (.neg :: fs) ++ topL none = stk fs ++ [.wt 6 2] from List.append_nil _]; exact T2
          · rw [show stk (.neg :: fs) ++ topL none = stk fs ++ [.wt 6 2] from List.append_nil _, List.length_append]
            show al.length + ((stk fs).length + 1) + _ ≤ _
            omega
      | false =>
        cases hb1 : ((nextT L q).2.1.toList == [40]) with
        | true =>
          have hp := next_lt (x := ⟨#[40]⟩) (by rw [toList_byte]; exact hb1) (by rw [toList_byte]; simp)
          have BG := fun (v : World) (d : Below wr.heap.size wr v) => q_begin_brk (T.more d) (by omega) hb0 hb1
          have hG' : goal L none (.brk :: fs) ⟨q + 1, false, al⟩ = Z := (ahd_brk numT L fs (r := ⟨q, false, al⟩) (by rw [hL.mark rfl (by decide), hb0]; simp) (by rw [hL.mark rfl (by decide)]; exact hb1)).symm.trans hG
          have HR : Hid (Keep TY w wr ∧ FrOk (.brk :: fs) ∧ goal L none (.brk :: fs) ⟨q + 1, false, al⟩ = Z ∧ L.length - q + 1 ≤ gk ∧ q < L.length ∧ al.length + (stk fs).length + 2 * (L.length - q) ≤ 20000) := ⟨K, hk, hG', hg, hp, hn⟩
          clear T K hk hG hG' hg hn hL he hn4 HH hp hb0 hb1
          go_wp2_with (first
            | (go_at_call 133; (with_reducible refine Calls.mono TK ?_); rintro e w1 ⟨rfl, d1⟩)
            | (go_at_call 134; (with_reducible refine Calls.mono (BG _ d1) ?_); rintro e w2 ⟨rfl, T2, K2⟩))
          obtain ⟨K, hk, hG, hg, hp, hn⟩ := HR.out
          go_roundg (L.length - (q + 1) + 1)
          case measure => omega
          case rel =>
            refine ⟨.brk :: fs, none, q + 1, al, trivial, ?_, (K.more d1).trans K2, hk, hG, Nat.le_refl _, ?_⟩
            · rw [show stk (.brk :: fs) ++ topL none = stk fs ++ [.br] from List.append_nil _]; exact T2
            · rw [show stk (.brk :: fs) ++ topL none = stk fs ++ [.br] from List.append_nil _, List.length_append]
              show al.length + ((stk fs).length + 1) + _ ≤ _
              omega
        | false =>
          obtain ⟨Y, hY⟩ : ∃ Y, ((⟨q, false, al⟩ : Rd).leaf numT L).2.powT L ((⟨q, false, al⟩ : Rd).leaf numT L).1 = Y := ⟨_, rfl⟩
          have BG := fun (v : World) (d : Below wr.heap.size wr v) => q_begin_leaf (T.more d) hL he (by omega) hb0 hb1
          rw [hY] at BG
          have hG' : aft numT L fs 0 Y.1 Y.2 = Z := by
            have := ahd_leaf numT L fs (r := ⟨q, false, al⟩) (by rw [hL.mark rfl (by decide), hb0]; simp) (by rw [hL.mark rfl (by decide), hb1]; simp)
            rw [hY] at this
            exact this.symm.trans hG
          unfold AftP at BG
          cases hYb : Y.2.bad with
          | true =>
            rw [hYb] at BG
            have on := (on_aft numT L fs 0 Y.1 Y.2).bad hYb
            rw [hG'] at on
            have HR : Hid (Keep TY w wr ∧ Z.2.bad = true ∧ Z.2.pos = Y.2.pos) := ⟨K, on⟩
            clear T K hk hG hG' hg hn hL he hn4 HH hb0 hb1 hY on
            go_wp2_with (first
              | (go_at_call 133; (with_reducible refine Calls.mono TK ?_); rintro e w1 ⟨rfl, d1⟩)
              | (go_at_call 134; (with_reducible refine Calls.mono (BG _ d1) ?_); rintro e w2 ⟨rfl, ⟨al2, S2, T2, -⟩, K2⟩))
            obtain ⟨K, z1, z2⟩ := HR.out
            go_ret2
            exact ansS_bad z1 z2 T2 ((K.more d1).trans K2)
          | false =>
            rw [hYb] at BG
            obtain ⟨c1, c2, c3⟩ := leaf_cnt hL q al hY hYb
            rw [← rd_eta hYb] at hG'
            have HR : Hid (Keep TY w wr ∧ FrOk fs ∧ goal L (some Y.1) fs ⟨Y.2.pos, false, Y.2.all⟩ = Z ∧ L.length - q + 1 ≤ gk ∧ q + 1 ≤ Y.2.pos ∧ Y.2.all.length + 1 + (stk fs).length + 2 * (L.length - Y.2.pos) ≤ 20000 ∧ q < L.length) := ⟨K, hk, hG', hg, c2, by omega, c3⟩
            clear T K hk hG hG' hg hn hL he hn4 HH hb0 hb1 hY c1 c2 c3
            go_wp2_with (first
              | (go_at_call 133; (with_reducible refine Calls.mono TK ?_); rintro e w1 ⟨rfl, d1⟩)
              | (go_at_call 134; (with_reducible refine Calls.mono (BG _ d1) ?_); rintro e w2 ⟨rfl, ⟨al2, S2, T2, h2⟩, K2⟩; obtain ⟨rfl, rfl⟩ := h2 trivial))
            obtain ⟨K, hk, hG, hg, hp, hn, hq⟩ := HR.out
            go_roundg (L.length - Y.2.pos + 1)
            case measure => omega
            case rel =>
              refine ⟨fs, some Y.1, Y.2.pos, Y.2.all, trivial, T2, (K.more d1).trans K2, hk, hG, Nat.le_refl _, ?_⟩
              rw [List.length_append]
              show Y.2.all.length + ((stk fs).length + 1) + _ ≤ _
              omega
    | some a =>
      have hlen : (stk fs ++ topL (some a)).length = (stk fs).length + 1 := by rw [List.length_append]; rfl
      rw [hlen] at hn
      have TK := q_take_nd (S := stk fs) T (by omega)
      have NX := fun (v : World) (T' : Tq W v R ta tc i l o L q al (stk fs)) => q_next T'
      have FD := fld_text
      have BT := fun (v : World) => q_between (nextT L q).2.1 v
      cases hbt : btw (nextT L q).2.1.toList with
      | some kc =>
        obtain ⟨k, c⟩ := kc
        rw [hbt] at BT
        unfold btwV at BT
        dsimp only at BT
        have hp : q < L.length := by
          rcases Nat.lt_or_ge q L.length with g | g
          · exact g
          · rw [nextT_none (List.getElem?_eq_none g), noText_list] at hbt
            rw [show btw [] = none from rfl] at hbt
            exact absurd hbt (by simp)
        obtain ⟨hA, hkA⟩ := aft_sign hL (a := a) (al := al) hk hbt
        have hA' : ahd numT L (.bin k (setF c fs a ⟨q + 1, false, al⟩).2.1 c :: (setF c fs a ⟨q + 1, false, al⟩).1) ⟨q + 1, false, (setF c fs a ⟨q + 1, false, al⟩).2.2.all⟩ = Z := hA.symm.trans hG
        have hcn := setF_cnt c (q + 1) fs a al
        have SK := fun (v : World) (T' : Tq W v R ta tc i l o L q al (stk fs)) => q_skip T' hp
        have SE := fun (v : World) (T' : Tq W v R ta tc i l o L (q + 1) al (stk fs)) => q_settled T' c a (by omega) rfl
        generalize setF c fs a ⟨q + 1, false, al⟩ = E at *
        obtain ⟨gs, b, r'⟩ := E
        dsimp only at SE hA' hkA hcn
        have PU1 := fun (v : World) (T' : Tq W v R ta tc i l o L (q + 1) r'.all (stk gs)) => q_push T' (.nd b) (by omega)
        have PU2 := fun (v : World) (T' : Tq W v R ta tc i l o L (q + 1) r'.all (stk gs ++ [.nd b])) => q_push T' (.wt k (binds c)) (by simp; omega)
        unfold itV at PU1 PU2
        dsimp only at PU1 PU2
        have HR : Hid (Keep TY w wr ∧ FrOk (.bin k b c :: gs) ∧ ahd numT L (.bin k b c :: gs) ⟨q + 1, false, r'.all⟩ = Z ∧ L.length - q + 1 ≤ gk ∧ q < L.length ∧ r'.all.length + (stk gs).length + 1 + 2 * (L.length - q) ≤ 20000) := ⟨K, hkA, hA', hg, hp, by omega⟩
        generalize (nextT L q).1 = y0 at *
        generalize (nextT L q).2.1 = y1 at *
        generalize (nextT L q).2.2.1 = y2 at *
        generalize (nextT L q).2.2.2 = y3 at *
        clear T K hk hG hA hA' hkA hg hn hL he hn4 HH hlen hp hbt hcn
        go_wp2_with (first
          | (go_at_call 133; (with_reducible refine Calls.mono TK ?_); rintro e w1 ⟨rfl, T1, K1⟩)
          | (go_at_call 83; (with_reducible refine Calls.mono (NX _ T1) ?_); rintro e w2 ⟨rfl, d2⟩)
          | (go_at_call 135; (with_reducible refine Calls.mono (BT _) ?_); rintro e w3 ⟨rfl, d3⟩; have T3 := (T1.more d2).more (d3.alloc d3.size (.cells #[.int .i64 k, .int .i64 (binds c)] 156)); have K3 := (K1.more d2).more (d3.alloc d3.size (.cells #[.int .i64 k, .int .i64 (binds c)] 156)))
          | (go_at_call 84; (with_reducible refine Calls.mono (SK _ T3) ?_); rintro e w4 ⟨rfl, T4, K4⟩; have B4 := (BoxC.new w3 #[.int .i64 k, .int .i64 (binds c)] 156).keep K4 (by unfold TY; decide); obtain ⟨c40, c41, -, -⟩ := B4.cells2)
          | (go_at_call 137; (with_reducible refine Calls.mono (SE _ T4) ?_); rintro e w5 ⟨rfl, T5, K5⟩)
          | (go_at_call 136; (with_reducible refine Calls.mono (PU1 _ T5) ?_); rintro e w6 ⟨rfl, T6, K6⟩; obtain ⟨c60, c61, -, -⟩ := ((B4.keep K5 (by unfold TY; decide)).keep K6 (by unfold TY; decide)).cells2)
          | (go_at_call 136; (with_reducible refine Calls.mono (PU2 _ T6) ?_); rintro e w7 ⟨rfl, T7, K7⟩))
        obtain ⟨K, hk, hG, hg, hp, hn⟩ := HR.out
        go_roundg (L.length - (q + 1) + 1)
        case measure => omega
        case rel =>
          refine ⟨.bin k b c :: gs, none, q + 1, r'.all, trivial, ?_, ((((K.trans K3).trans K4).trans K5).trans K6).trans K7, hk, hG, Nat.le_refl _, ?_⟩
          · rw [show stk (.bin k b c :: gs) ++ topL none = stk gs ++ [.nd b] ++ [.wt k (binds c)] from List.append_nil _]; exact T7
          · rw [show stk (.bin k b c :: gs) ++ topL none = stk gs ++ [.nd b] ++ [.wt k (binds c)] from List.append_nil _, List.length_append, List.length_append]
            show r'.all.length + ((stk gs).length + 1 + 1) + _ ≤ _
            omega
      | none =>
        rw [hbt] at BT
        unfold btwV at BT
        dsimp only at BT
        have hA := aft_none hL (a := a) (al := al) hk hbt
        rw [show aft numT L fs 0 a ⟨q, false, al⟩ = Z from hG] at hA
        have hcn := setF_cnt false q fs a al
        have SE := fun (v : World) (T' : Tq W v R ta tc i l o L q al (stk fs)) => q_settled T' false a (by omega) rfl
        obtain ⟨f1, f2, -, -⟩ := setF_rd false fs a ⟨q, false, al⟩
        generalize setF false fs a ⟨q, false, al⟩ = E at *
        obtain ⟨gs, b, r'⟩ := E
        dsimp only at SE hA hcn f1 f2
        rw [show binds false = 0 from rfl] at SE
        rcases hA with ⟨rfl, hA⟩ | ⟨gs', rfl, hkA, hA⟩
        · have hZ : ((b, ⟨q, false, r'.all⟩) : Int × Rd) = Z := by rw [hA, ← rd_eta f2, f1]
          subst hZ
          have HR : Hid (Keep TY w wr) := K
          have hz : ((stk []).length : Int) = 0 := rfl
          rw [show stk [] = [] from rfl] at SE
          have hz : ((([] : List It).length : Nat) : Int) = 0 := rfl
          generalize (nextT L q).1 = y0 at *
          generalize (nextT L q).2.1 = y1 at *
          generalize (nextT L q).2.2.1 = y2 at *
          generalize (nextT L q).2.2.2 = y3 at *
          clear T K hk hG hA hg hn hL he hn4 HH hlen hbt hcn f1 f2
          go_wp2_with (first
            | (go_at_call 133; (with_reducible refine Calls.mono TK ?_); rintro e w1 ⟨rfl, T1, K1⟩)
            | (go_at_call 83; (with_reducible refine Calls.mono (NX _ T1) ?_); rintro e w2 ⟨rfl, d2⟩)
            | (go_at_call 135; (with_reducible refine Calls.mono (BT _) ?_); rintro e w3 ⟨rfl, d3⟩; have T3 := (T1.more d2).more (d3.alloc d3.size (.cells #[.int .i64 0, .int .i64 0] 156)); have K3 := (K1.more d2).more (d3.alloc d3.size (.cells #[.int .i64 0, .int .i64 0] 156)))
            | (go_at_call 137; (with_reducible refine Calls.mono (SE _ T3) ?_); rintro e w4 ⟨rfl, T4, K4⟩; obtain ⟨sa, sc, x5⟩ := T4.stk))
          go_ret2
          exact ansS_good T4 ((HR.out.trans K3).trans K4)
        · have hbl : (stk (.brk :: gs')).length = (stk gs').length + 1 := by simp [stk]
          have hs : ((stk (.brk :: gs')).length : Int) ≠ 0 := by rw [hbl]; omega
          have hs' : (((stk (.brk :: gs')).length : Int) == 0) = false := by rw [beq_eq_false_iff_ne]; exact hs
          rw [show ((b, r') : Int × Rd) = (b, ⟨q, false, r'.all⟩) from by rw [← f1, rd_eta f2]] at hA
          have SH := fun (v : World) (T' : Tq W v R ta tc i l o L q r'.all (stk (.brk :: gs'))) => q_shut (S0 := stk gs') T' hL he b (by omega)
          obtain ⟨Y, hY⟩ : ∃ Y, shutE L (b, ⟨q, false, r'.all⟩) = Y := ⟨_, rfl⟩
          rw [hY] at SH hA
          unfold AftP at SH
          cases hYb : Y.2.bad with
          | true =>
            rw [hYb] at SH
            have on := (on_aft numT L gs' 0 Y.1 Y.2).bad hYb
            rw [← hA] at on
            have HR : Hid (Keep TY w wr ∧ Z.2.bad = true ∧ Z.2.pos = Y.2.pos) := ⟨K, on⟩
            generalize hSS : stk (.brk :: gs') = SS at *
            generalize (nextT L q).1 = y0 at *
            generalize (nextT L q).2.1 = y1 at *
            generalize (nextT L q).2.2.1 = y2 at *
            generalize (nextT L q).2.2.2 = y3 at *
            clear T K hk hG hA hg hn hL he hn4 HH hlen hbt hcn f1 f2 on hY hbl hkA hSS
            go_wp2_with (first
              | (go_at_call 133; (with_reducible refine Calls.mono TK ?_); rintro e w1 ⟨rfl, T1, K1⟩)
              | (go_at_call 83; (with_reducible refine Calls.mono (NX _ T1) ?_); rintro e w2 ⟨rfl, d2⟩)
              | (go_at_call 135; (with_reducible refine Calls.mono (BT _) ?_); rintro e w3 ⟨rfl, d3⟩; have T3 := (T1.more d2).more (d3.alloc d3.size (.cells #[.int .i64 0, .int .i64 0] 156)); have K3 := (K1.more d2).more (d3.alloc d3.size (.cells #[.int .i64 0, .int .i64 0] 156)))
              | (go_at_call 137; (with_reducible refine Calls.mono (SE _ T3) ?_); rintro e w4 ⟨rfl, T4, K4⟩; obtain ⟨sa, sc, x5⟩ := T4.stk)
              | (go_at_call 138; (with_reducible refine Calls.mono (SH _ T4) ?_); rintro e w5 ⟨rfl, ⟨al2, S2, T5, h2⟩, K5⟩))
            obtain ⟨K, z1, z2⟩ := HR.out
            go_ret2
            exact ansS_bad z1 z2 T5 (((K.trans K3).trans K4).trans K5)
          | false =>
            rw [hYb] at SH
            obtain ⟨c1, c2, c3⟩ := shut_cnt hL q r'.all b hY hYb
            have hA' := hA.symm
            rw [← rd_eta hYb] at hA'
            have HR : Hid (Keep TY w wr ∧ FrOk gs' ∧ goal L (some Y.1) gs' ⟨Y.2.pos, false, Y.2.all⟩ = Z ∧ L.length - q + 1 ≤ gk ∧ q + 1 ≤ Y.2.pos ∧ Y.2.all.length + 1 + (stk gs').length + 2 * (L.length - Y.2.pos) ≤ 20000 ∧ q < L.length) := ⟨K, hkA, hA', hg, c2, by omega, c3⟩
            generalize hSS : stk (.brk :: gs') = SS at *
            generalize (nextT L q).1 = y0 at *
            generalize (nextT L q).2.1 = y1 at *
            generalize (nextT L q).2.2.1 = y2 at *
            generalize (nextT L q).2.2.2 = y3 at *
            clear T K hk hG hA hA' hg hn hL he hn4 HH hlen hbt hcn f1 f2 hY hbl hkA hSS c1 c2 c3
            go_wp2_with (first
              | (go_at_call 133; (with_reducible refine Calls.mono TK ?_); rintro e w1 ⟨rfl, T1, K1⟩)
              | (go_at_call 83; (with_reducible refine Calls.mono (NX _ T1) ?_); rintro e w2 ⟨rfl, d2⟩)
              | (go_at_call 135; (with_reducible refine Calls.mono (BT _) ?_); rintro e w3 ⟨rfl, d3⟩; have T3 := (T1.more d2).more (d3.alloc d3.size (.cells #[.int .i64 0, .int .i64 0] 156)); have K3 := (K1.more d2).more (d3.alloc d3.size (.cells #[.int .i64 0, .int .i64 0] 156)))
              | (go_at_call 137; (with_reducible refine Calls.mono (SE _ T3) ?_); rintro e w4 ⟨rfl, T4, K4⟩; obtain ⟨sa, sc, x5⟩ := T4.stk)
              | (go_at_call 138; (with_reducible refine Calls.mono (SH _ T4) ?_); rintro e w5 ⟨rfl, ⟨al2, S2, T5, h2⟩, K5⟩; obtain ⟨rfl, rfl⟩ := h2 trivial))
            obtain ⟨K, hk, hG, hg, hp, hn, hq⟩ := HR.out
            go_roundg (L.length - Y.2.pos + 1)
            case measure => omega
            case rel =>
              refine ⟨gs', some Y.1, Y.2.pos, Y.2.all, trivial, T5, ((K.trans K3).trans K4).trans K5, hk, hG, Nat.le_refl _, ?_⟩
              rw [List.length_append]
              show Y.2.all.length + ((stk gs').length + 1) + _ ≤ _
              omega
end
end Go.Proofs.YtbcfplaalepnbaaGreatDoor
namespace Go.Proofs.YtbcfplaalepnbaaGreatDoor
open Go.RowKit Go.Lib
def nmG (L : List Tok) (f : Nat) (out : List ByteArray) (r : Rd) : List ByteArray × Rd := ((moreN L f (out ++ [(r.nameT L).1]) (r.nameT L).2).1, (moreN L f (out ++ [(r.nameT L).1]) (r.nameT L).2).2.want L 2 [59])
theorem names_nmG (L : List Tok) (r : Rd) : namesI L r = nmG L (L.length + 1) [] r := rfl
theorem bad_is (L : List Tok) (p : Nat) (al : List Nd) (k : Int) (x : List UInt8) : (⟨p, true, al⟩ : Rd).is L k x = false := by unfold Rd.is; simp
theorem bad_more (L : List Tok) (f : Nat) (out : List ByteArray) (p : Nat) (al : List Nd) : moreN L f out ⟨p, true, al⟩ = (out, ⟨p, true, al⟩) := by
  cases f with
  | zero => rfl
  | succ f => exact if_neg (by rw [bad_is]; simp)
theorem bad_want (L : List Tok) (p : Nat) (al : List Nd) (k : Int) (x : List UInt8) : (⟨p, true, al⟩ : Rd).want L k x = ⟨p, true, al⟩ := by
  unfold Rd.want
  rw [if_neg (by rw [bad_is]; simp)]; rfl
theorem nmG_no {L : List Tok} {f : Nat} {out : List ByteArray} {p : Nat} {al : List Nd} (h : nameB (nextT L p).2.1 = false) : (nmG L f out ⟨p, false, al⟩).2 = ⟨p, true, al⟩ := by
  unfold nmG
  rw [name_no h]
  dsimp only
  rw [bad_more]
  exact bad_want L p al 2 [59]
theorem nmG_more {L : List Tok} (hL : Toks L) {f : Nat} {out : List ByteArray} {p : Nat} {al : List Nd} (h : nameB (nextT L p).2.1 = true) (hc : ((nextT L (p + 1)).2.1.toList == [44]) = true) : nmG L (f + 1) out ⟨p, false, al⟩ = nmG L f (out ++ [(nextT L p).2.1]) ⟨p + 1 + 1, false, al⟩ := by
  have e : ∀ x : ByteArray, moreN L (f + 1) (out ++ [x]) ⟨p + 1, false, al⟩ = moreN L f (out ++ [x] ++ [((⟨p + 1, false, al⟩ : Rd).skip.nameT L).1]) ((⟨p + 1, false, al⟩ : Rd).skip.nameT L).2 := fun x => if_pos (by rw [hL.mark rfl (by decide)]; exact hc)
  unfold nmG
  rw [(name_yes hL h).1]
  dsimp only
  rw [e]
  rfl
theorem nmG_last {L : List Tok} (hL : Toks L) {f : Nat} {out : List ByteArray} {p : Nat} {al : List Nd} (h : nameB (nextT L p).2.1 = true) (hc : ((nextT L (p + 1)).2.1.toList == [44]) = false) : nmG L (f + 1) out ⟨p, false, al⟩ = (out ++ [(nextT L p).2.1], if ((nextT L (p + 1)).2.1.toList == [59]) = true then ⟨p + 1 + 1, false, al⟩ else ⟨p + 1, true, al⟩) := by
  have e : ∀ x : ByteArray, moreN L (f + 1) (out ++ [x]) ⟨p + 1, false, al⟩ = (out ++ [x], ⟨p + 1, false, al⟩) := fun x => if_neg (by rw [hL.mark rfl (by decide)]; show ¬ ((nextT L (p + 1)).2.1.toList == [44]) = true; rw [hc]; simp)
  unfold nmG
  rw [(name_yes hL h).1]
  dsimp only
  rw [e]
  dsimp only
  unfold Rd.want
  rw [hL.mark (r := ⟨p + 1, false, al⟩) rfl (c := 59) (by decide)]
  rfl
section
variable {W w w' : World} {R : Nat} {ta : Option Addr} {tc : Nat} {i l o : Value} {L : List Tok} {p : Nat} {al : List Nd} {S : List It}
theorem Tq.keepU (h : Tq W w R ta tc i l o L p al S) {Y : TypeId → Prop} (k : Keep Y w w') (hb : Below W.heap.size W w') (y1 : ¬ Y 59) (y2 : ¬ Y 44) (y3 : ¬ Y 66) (y4 : ¬ Y 84) (y5 : ¬ Y 20) : Tq W w' R ta tc i l o L p al S := by
  obtain ⟨la, lc, a, c, sa, sc, hW, B, ⟨ms, h1, h2, h3⟩, hS, h6, h7, h8⟩ := h
  exact ⟨la, lc, a, c, sa, sc, hW, B.keep k y1, ⟨ms, h1.keep k y2 hb, h2, fun m hm => ⟨OwnC.keep (h3 m hm).1 k y4 hb, OwnC.keep (h3 m hm).2 k y4 hb⟩⟩, hS.keep k y5 hb, h6, OwnC.keep h7 k y3 hb, h8⟩
theorem Tq.setI (h : Tq W w R ta tc i l o L p al S) (x : Value) : Tq W (w.setCell ⟨R, 1, none⟩ x) R ta tc x l o L p al S ∧ Keep TY w (w.setCell ⟨R, 1, none⟩ x) := by
  obtain ⟨la, lc, a, c, sa, sc, hW, B, hN, hS, hT⟩ := h
  exact ⟨⟨la, lc, a, c, sa, sc, hW, B.set 1 _, hN.box B (by decide) (by decide) hW _ _, hS.box B (by decide) hW _ _, hT.1, hT.2.1.box B (by decide) hW _ _, hT.2.2⟩, (Keep.refl TY w).set B ty_reader 1 _⟩
theorem Tq.setL (h : Tq W w R ta tc i l o L p al S) (x : Value) : Tq W (w.setCell ⟨R, 2, none⟩ x) R ta tc i x o L p al S ∧ Keep TY w (w.setCell ⟨R, 2, none⟩ x) := by
  obtain ⟨la, lc, a, c, sa, sc, hW, B, hN, hS, hT⟩ := h
  exact ⟨⟨la, lc, a, c, sa, sc, hW, B.set 2 _, hN.box B (by decide) (by decide) hW _ _, hS.box B (by decide) hW _ _, hT.1, hT.2.1.box B (by decide) hW _ _, hT.2.2⟩, (Keep.refl TY w).set B ty_reader 2 _⟩
theorem Tq.setO (h : Tq W w R ta tc i l o L p al S) (x : Value) : Tq W (w.setCell ⟨R, 3, none⟩ x) R ta tc i l x L p al S ∧ Keep TY w (w.setCell ⟨R, 3, none⟩ x) := by
  obtain ⟨la, lc, a, c, sa, sc, hW, B, hN, hS, hT⟩ := h
  exact ⟨⟨la, lc, a, c, sa, sc, hW, B.set 3 _, hN.box B (by decide) (by decide) hW _ _, hS.box B (by decide) hW _ _, hT.1, hT.2.1.box B (by decide) hW _ _, hT.2.2⟩, (Keep.refl TY w).set B ty_reader 3 _⟩
theorem Tq.cells (h : Tq W w R ta tc i l o L p al S) : w.cell? ⟨R, 1, none⟩ = some i ∧ w.cell? ⟨R, 2, none⟩ = some l ∧ w.cell? ⟨R, 3, none⟩ = some o ∧ w.frozen? ⟨R, 1, none⟩ = false ∧ w.frozen? ⟨R, 2, none⟩ = false ∧ w.frozen? ⟨R, 3, none⟩ = false ∧ R < w.heap.size := by
  obtain ⟨la, lc, a, c, sa, sc, hW, B, hN, hS, hT⟩ := h
  exact ⟨(B.cell 1).1, (B.cell 2).1, (B.cell 3).1, (B.cell 1).2, (B.cell 2).2, (B.cell 3).2, B.lt⟩
theorem ts_not : ¬ TS 59 ∧ ¬ TS 44 ∧ ¬ TS 66 ∧ ¬ TS 84 ∧ ¬ TS 20 := by unfold TS; decide
def AnsN1 (W w : World) (R : Nat) (ta : Option Addr) (tc : Nat) (l o : Value) (L : List Tok) (al : List Nd) (S : List It) (Z : List ByteArray × Rd) (e : Ending) (w' : World) : Prop :=
  e = .returned (.bool (!Z.2.bad)) ∧ (∃ a n c, Tq W w' R ta tc (.slice a n c) l o L Z.2.pos al S ∧ (Z.2.bad = false → n = Z.1.length ∧ w'.ownsRow w.heap.size 9 1 (.slice a n c) n (flat encS Z.1))) ∧ Keep TY w w'
set_option maxHeartbeats 16000000 in
theorem q_names1 (h : Tq W w R ta tc (.slice none 0 0) l o L p al S) (hL : Toks L) :
    Calls Tryz.prog 54 #[.pointer (some ⟨R, 0, none⟩), .pointer (some ⟨R, 1, none⟩)] w (AnsN1 W w R ta tc l o L al S (namesI L ⟨p, false, al⟩)) := by
  rw [names_nmG]
  obtain ⟨Z, hZ⟩ : ∃ Z, nmG L (L.length + 1) [] ⟨p, false, al⟩ = Z := ⟨_, rfl⟩
  rw [hZ]
  have HH : Hid (Tq W w R ta tc (.slice none 0 0) l o L p al S ∧ Toks L ∧ nmG L (L.length + 1) [] ⟨p, false, al⟩ = Z ∧ w.ownsRow w.heap.size 9 1 (.slice none 0 0) 0 []) := ⟨h, hL, hZ, World.ownsRow_nil _ _ _ _⟩
  have HW : Hid (W.heap.size ≤ w.heap.size) := h.below.size
  clear h hL hZ
  go_enter Tryz.func54, Tryz.ntmps54
  go_wp2
  go_loopg [5] (L.length - p + 1) (fun g s5 v => ∃ (a : Option Addr) (c f q : Nat) (out : List ByteArray), s5 = s5 ∧ Tq W v R ta tc (.slice a out.length c) l o L q al S ∧ v.ownsRow w.heap.size 9 1 (.slice a out.length c) out.length (flat encS out) ∧ Keep TY w v ∧ nmG L f out ⟨q, false, al⟩ = Z ∧ L.length - q < f ∧ L.length - q + 1 ≤ g ∧ out.length + (L.length - q) ≤ 5000)
  case atStart => exact ⟨none, 0, L.length + 1, p, [], rfl, HH.out.1, HH.out.2.2.2, Keep.refl TY w, HH.out.2.2.1, by omega, Nat.le_refl _, by have := HH.out.2.1.len; show 0 + _ ≤ _; omega⟩
  case round =>
    obtain ⟨a, c, f, q, out, -, T, O, K, hZ, hf, hg, hn⟩ := hrel
    have hL := HH.out.2.1
    cases f with
    | zero => omega
    | succ f =>
      cases hb : nameB (nextT L q).2.1 with
      | false =>
        have NM := q_name T hL false hb
        simp only [Bool.false_eq_true, if_false] at NM
        have hz := nmG_no (f := f + 1) (out := out) (al := al) hb
        rw [hZ] at hz
        obtain ⟨Z1, Z2⟩ := Z
        dsimp only at hz
        subst hz
        have HR : Hid (Keep TY w wr) := K
        generalize (nextT L q).2.1 = y1 at *
        clear T O K hZ hf hg hn hL HH hb
        go_wp2_with (go_at_call 85; (with_reducible refine Calls.mono NM ?_); rintro e w1 ⟨rfl, T1, K1⟩)
        go_ret
        exact ⟨rfl, ⟨a, out.length, c, T1, fun q => absurd q (by simp)⟩, HR.out.trans K1⟩
      | true =>
        have NM := q_name T hL true hb
        simp only [if_true] at NM
        have hq := (List.getElem?_eq_some_iff.1 (name_yes hL (all := al) hb).2.choose_spec.1).1
        have m1 : out.length + 1 ≤ maxLen := by unfold maxLen; omega
        have m2 : (out.length + 1) * 16 ≤ 140737488355328 := by omega
        cases hc : ((nextT L (q + 1)).2.1.toList == [44]) with
        | true =>
          have PS := fun (v : World) (x : Value) (T' : Tq W v R ta tc x l o L (q + 1) al S) => q_pass T' ⟨#[44]⟩ (by rw [toList_byte]; simp) true (by rw [toList_byte]; exact hc)
          simp only [if_true] at PS
          have hZ' := (nmG_more hL (f := f) (out := out) (al := al) hb hc).symm.trans hZ
          generalize (nextT L q).2.1 = y1 at *
          have HR : Hid (Keep TY w wr ∧ nmG L f (out ++ [y1]) ⟨q + 1 + 1, false, al⟩ = Z ∧ L.length - q < f + 1 ∧ L.length - q + 1 ≤ gk ∧ out.length + (L.length - q) ≤ 5000 ∧ q < L.length ∧ wr.ownsRow w.heap.size 9 1 (.slice a out.length c) out.length (flat encS out) ∧ Below W.heap.size W wr) := ⟨K, hZ', hf, hg, hn, hq, O, T.below⟩
          have hN' : (out ++ [y1]).length = out.length + 1 := by rw [List.length_append]; rfl
          generalize hN : out.length = N at *
          clear T O K hZ hZ' hf hg hn hL HH hb hc hq
          go_wp2_with (first
            | (go_at_call 85; (with_reducible refine Calls.mono NM ?_); rintro e v1 ⟨rfl, T1, K1⟩; obtain ⟨x1, x2, x3, g1, g2, g3, hR1⟩ := T1.cells; have O1 := fun ob => ownsRow_below (ownsRow_keep HR.out.2.2.2.2.2.2.1 K1 ty_str) ((Below.refl _ v1).alloc (Nat.le_refl _) ob); have hB1 := (HR.out.1.trans K1).1)
            | (at_builtin; refine wpl_append_b (t := 23) (e := 9) Tryz.underlying23 infoStr rfl (by decide) (.tmp 17) (.tmp 19) rfl rfl _ w.heap.size (by simp; omega) _ N (flat encS out) v1.heap.size (encS y1) rfl rfl (O1 _) (BoxC.new v1 #[.string y1] 9).isc (by simp [encS, Value.oneCell']) m1 m2 ?_; intro a6 c6 v6 o6 g6; have hWw : W.heap.size ≤ w.heap.size := HW.out; have b6 : Below W.heap.size W v6 := (T1.below.alloc T1.below.size (.cells #[.string y1] 9)).grown g6 (Nat.le_trans T1.below.size (by simp)) (fun k hk => Nat.le_trans hWw ((O1 (.cells #[.string y1] 9)).lt k hk).1); have T6 := (T1.more ((Below.refl _ v1).alloc (Nat.le_refl _) (.cells #[.string y1] 9))).keepU (Keep.grown_type (X := TS) (O1 (.cells #[.string y1] 9)) rfl g6) b6 ts_not.1 ts_not.2.1 ts_not.2.2.1 ts_not.2.2.2.1 ts_not.2.2.2.2; have K6 := ((HR.out.1.trans K1).alloc (.cells #[.string y1] 9)).grown_new (O1 (.cells #[.string y1] 9)) (Nat.le_refl _) g6; obtain ⟨x61, x62, x63, g61, g62, g63, hR6⟩ := T6.cells; have T7 := T6.setI (.slice a6 (N + 1) c6))
            | (go_at_call 53; (with_reducible refine Calls.mono (PS _ _ T7.1) ?_); rintro e v8 ⟨rfl, T8, K8⟩))
          obtain ⟨K, hZ, hf, hg, hn, hq, -, -⟩ := HR.out
          go_roundg (L.length - (q + 1 + 1) + 1)
          case measure => omega
          case rel => exact ⟨a6, c6, f, q + 1 + 1, out ++ [y1], trivial, by rw [hN']; exact T8, by rw [hN', flat_append, flat_one]; exact ownsRow_keep (ownsRow_keep o6 T7.2 ty_str) K8 ty_str, (K6.trans T7.2).trans K8, hZ, by omega, Nat.le_refl _, by rw [hN']; omega⟩
        | false =>
          have PS := fun (v : World) (x : Value) (T' : Tq W v R ta tc x l o L (q + 1) al S) => q_pass T' ⟨#[44]⟩ (by rw [toList_byte]; simp) false (by rw [toList_byte]; exact hc)
          simp only [Bool.false_eq_true, if_false] at PS
          obtain ⟨b, hsc⟩ : ∃ b, ((nextT L (q + 1)).2.1.toList == [59]) = b := ⟨_, rfl⟩
          have PE := fun (v : World) (x : Value) (T' : Tq W v R ta tc x l o L (q + 1) al S) => q_pass T' ⟨#[59]⟩ (by rw [toList_byte]; simp) b (by rw [toList_byte]; exact hsc)
          have hZ' := (nmG_last hL (f := f) (out := out) (al := al) hb hc).symm.trans hZ
          rw [hsc] at hZ'
          generalize (nextT L q).2.1 = y1 at *
          have HR : Hid (Keep TY w wr ∧ (out ++ [y1], if b = true then (⟨q + 1 + 1, false, al⟩ : Rd) else ⟨q + 1, true, al⟩) = Z ∧ wr.ownsRow w.heap.size 9 1 (.slice a out.length c) out.length (flat encS out) ∧ Below W.heap.size W wr) := ⟨K, hZ', O, T.below⟩
          have hN' : (out ++ [y1]).length = out.length + 1 := by rw [List.length_append]; rfl
          generalize hN : out.length = N at *
          clear T O K hZ hZ' hf hg hn hL HH hb hc hq hsc
          go_wp2_with (first
            | (go_at_call 85; (with_reducible refine Calls.mono NM ?_); rintro e v1 ⟨rfl, T1, K1⟩; obtain ⟨x1, x2, x3, g1, g2, g3, hR1⟩ := T1.cells; have O1 := fun ob => ownsRow_below (ownsRow_keep HR.out.2.2.1 K1 ty_str) ((Below.refl _ v1).alloc (Nat.le_refl _) ob); have hB1 := (HR.out.1.trans K1).1)
            | (at_builtin; refine wpl_append_b (t := 23) (e := 9) Tryz.underlying23 infoStr rfl (by decide) (.tmp 17) (.tmp 19) rfl rfl _ w.heap.size (by simp; omega) _ N (flat encS out) v1.heap.size (encS y1) rfl rfl (O1 _) (BoxC.new v1 #[.string y1] 9).isc (by simp [encS, Value.oneCell']) m1 m2 ?_; intro a6 c6 v6 o6 g6; have hWw : W.heap.size ≤ w.heap.size := HW.out; have b6 : Below W.heap.size W v6 := (T1.below.alloc T1.below.size (.cells #[.string y1] 9)).grown g6 (Nat.le_trans T1.below.size (by simp)) (fun k hk => Nat.le_trans hWw ((O1 (.cells #[.string y1] 9)).lt k hk).1); have T6 := (T1.more ((Below.refl _ v1).alloc (Nat.le_refl _) (.cells #[.string y1] 9))).keepU (Keep.grown_type (X := TS) (O1 (.cells #[.string y1] 9)) rfl g6) b6 ts_not.1 ts_not.2.1 ts_not.2.2.1 ts_not.2.2.2.1 ts_not.2.2.2.2; have K6 := ((HR.out.1.trans K1).alloc (.cells #[.string y1] 9)).grown_new (O1 (.cells #[.string y1] 9)) (Nat.le_refl _) g6; obtain ⟨x61, x62, x63, g61, g62, g63, hR6⟩ := T6.cells; have T7 := T6.setI (.slice a6 (N + 1) c6))
            | (go_at_call 53; (with_reducible refine Calls.mono (PS _ _ T7.1) ?_); rintro e v8 ⟨rfl, T8, K8⟩)
            | (go_at_call 53; (with_reducible refine Calls.mono (PE _ _ T8) ?_); rintro e v9 ⟨rfl, T9, K9⟩))
          go_ret
          obtain ⟨K, rfl, -, -⟩ := HR.out
          cases b with
          | true => exact ⟨rfl, ⟨a6, N + 1, c6, T9, fun _ => ⟨hN'.symm, by rw [flat_append, flat_one]; exact ownsRow_keep (ownsRow_keep (ownsRow_keep o6 T7.2 ty_str) K8 ty_str) K9 ty_str⟩⟩, ((K6.trans T7.2).trans K8).trans K9⟩
          | false => exact ⟨rfl, ⟨a6, N + 1, c6, T9, fun q => absurd q (by simp)⟩, ((K6.trans T7.2).trans K8).trans K9⟩
def AnsN3 (W w : World) (R : Nat) (ta : Option Addr) (tc : Nat) (i l : Value) (L : List Tok) (al : List Nd) (S : List It) (Z : List ByteArray × Rd) (e : Ending) (w' : World) : Prop :=
  e = .returned (.bool (!Z.2.bad)) ∧ (∃ a n c, Tq W w' R ta tc i l (.slice a n c) L Z.2.pos al S ∧ (Z.2.bad = false → n = Z.1.length ∧ w'.ownsRow w.heap.size 9 1 (.slice a n c) n (flat encS Z.1))) ∧ Keep TY w w'
set_option maxHeartbeats 16000000 in
theorem q_names3 (h : Tq W w R ta tc i l (.slice none 0 0) L p al S) (hL : Toks L) :
    Calls Tryz.prog 54 #[.pointer (some ⟨R, 0, none⟩), .pointer (some ⟨R, 3, none⟩)] w (AnsN3 W w R ta tc i l L al S (namesI L ⟨p, false, al⟩)) := by
  rw [names_nmG]
  obtain ⟨Z, hZ⟩ : ∃ Z, nmG L (L.length + 1) [] ⟨p, false, al⟩ = Z := ⟨_, rfl⟩
  rw [hZ]
  have HH : Hid (Tq W w R ta tc i l (.slice none 0 0) L p al S ∧ Toks L ∧ nmG L (L.length + 1) [] ⟨p, false, al⟩ = Z ∧ w.ownsRow w.heap.size 9 1 (.slice none 0 0) 0 []) := ⟨h, hL, hZ, World.ownsRow_nil _ _ _ _⟩
  have HW : Hid (W.heap.size ≤ w.heap.size) := h.below.size
  clear h hL hZ
  go_enter Tryz.func54, Tryz.ntmps54
  go_wp2
  go_loopg [5] (L.length - p + 1) (fun g s5 v => ∃ (a : Option Addr) (c f q : Nat) (out : List ByteArray), s5 = s5 ∧ Tq W v R ta tc i l (.slice a out.length c) L q al S ∧ v.ownsRow w.heap.size 9 1 (.slice a out.length c) out.length (flat encS out) ∧ Keep TY w v ∧ nmG L f out ⟨q, false, al⟩ = Z ∧ L.length - q < f ∧ L.length - q + 1 ≤ g ∧ out.length + (L.length - q) ≤ 5000)
  case atStart => exact ⟨none, 0, L.length + 1, p, [], rfl, HH.out.1, HH.out.2.2.2, Keep.refl TY w, HH.out.2.2.1, by omega, Nat.le_refl _, by have := HH.out.2.1.len; show 0 + _ ≤ _; omega⟩
  case round =>
    obtain ⟨a, c, f, q, out, -, T, O, K, hZ, hf, hg, hn⟩ := hrel
    have hL := HH.out.2.1
    cases f with
    | zero => omega
    | succ f =>
      cases hb : nameB (nextT L q).2.1 with
      | false =>
        have NM := q_name T hL false hb
        simp only [Bool.false_eq_true, if_false] at NM
        have hz := nmG_no (f := f + 1) (out := out) (al := al) hb
        rw [hZ] at hz
        obtain ⟨Z1, Z2⟩ := Z
        dsimp only at hz
        subst hz
        have HR : Hid (Keep TY w wr) := K
        generalize (nextT L q).2.1 = y1 at *
        clear T O K hZ hf hg hn hL HH hb
        go_wp2_with (go_at_call 85; (with_reducible refine Calls.mono NM ?_); rintro e w1 ⟨rfl, T1, K1⟩)
        go_ret
        exact ⟨rfl, ⟨a, out.length, c, T1, fun q => absurd q (by simp)⟩, HR.out.trans K1⟩
      | true =>
        have NM := q_name T hL true hb
        simp only [if_true] at NM
        have hq := (List.getElem?_eq_some_iff.1 (name_yes hL (all := al) hb).2.choose_spec.1).1
        have m1 : out.length + 1 ≤ maxLen := by unfold maxLen; omega
        have m2 : (out.length + 1) * 16 ≤ 140737488355328 := by omega
        cases hc : ((nextT L (q + 1)).2.1.toList == [44]) with
        | true =>
          have PS := fun (v : World) (x : Value) (T' : Tq W v R ta tc i l x L (q + 1) al S) => q_pass T' ⟨#[44]⟩ (by rw [toList_byte]; simp) true (by rw [toList_byte]; exact hc)
          simp only [if_true] at PS
          have hZ' := (nmG_more hL (f := f) (out := out) (al := al) hb hc).symm.trans hZ
          generalize (nextT L q).2.1 = y1 at *
          have HR : Hid (Keep TY w wr ∧ nmG L f (out ++ [y1]) ⟨q + 1 + 1, false, al⟩ = Z ∧ L.length - q < f + 1 ∧ L.length - q + 1 ≤ gk ∧ out.length + (L.length - q) ≤ 5000 ∧ q < L.length ∧ wr.ownsRow w.heap.size 9 1 (.slice a out.length c) out.length (flat encS out) ∧ Below W.heap.size W wr) := ⟨K, hZ', hf, hg, hn, hq, O, T.below⟩
          have hN' : (out ++ [y1]).length = out.length + 1 := by rw [List.length_append]; rfl
          generalize hN : out.length = N at *
          clear T O K hZ hZ' hf hg hn hL HH hb hc hq
          go_wp2_with (first
            | (go_at_call 85; (with_reducible refine Calls.mono NM ?_); rintro e v1 ⟨rfl, T1, K1⟩; obtain ⟨x1, x2, x3, g1, g2, g3, hR1⟩ := T1.cells; have O1 := fun ob => ownsRow_below (ownsRow_keep HR.out.2.2.2.2.2.2.1 K1 ty_str) ((Below.refl _ v1).alloc (Nat.le_refl _) ob); have hB1 := (HR.out.1.trans K1).1)
            | (at_builtin; refine wpl_append_b (t := 23) (e := 9) Tryz.underlying23 infoStr rfl (by decide) (.tmp 17) (.tmp 19) rfl rfl _ w.heap.size (by simp; omega) _ N (flat encS out) v1.heap.size (encS y1) rfl rfl (O1 _) (BoxC.new v1 #[.string y1] 9).isc (by simp [encS, Value.oneCell']) m1 m2 ?_; intro a6 c6 v6 o6 g6; have hWw : W.heap.size ≤ w.heap.size := HW.out; have b6 : Below W.heap.size W v6 := (T1.below.alloc T1.below.size (.cells #[.string y1] 9)).grown g6 (Nat.le_trans T1.below.size (by simp)) (fun k hk => Nat.le_trans hWw ((O1 (.cells #[.string y1] 9)).lt k hk).1); have T6 := (T1.more ((Below.refl _ v1).alloc (Nat.le_refl _) (.cells #[.string y1] 9))).keepU (Keep.grown_type (X := TS) (O1 (.cells #[.string y1] 9)) rfl g6) b6 ts_not.1 ts_not.2.1 ts_not.2.2.1 ts_not.2.2.2.1 ts_not.2.2.2.2; have K6 := ((HR.out.1.trans K1).alloc (.cells #[.string y1] 9)).grown_new (O1 (.cells #[.string y1] 9)) (Nat.le_refl _) g6; obtain ⟨x61, x62, x63, g61, g62, g63, hR6⟩ := T6.cells; have T7 := T6.setO (.slice a6 (N + 1) c6))
            | (go_at_call 53; (with_reducible refine Calls.mono (PS _ _ T7.1) ?_); rintro e v8 ⟨rfl, T8, K8⟩))
          obtain ⟨K, hZ, hf, hg, hn, hq, -, -⟩ := HR.out
          go_roundg (L.length - (q + 1 + 1) + 1)
          case measure => omega
          case rel => exact ⟨a6, c6, f, q + 1 + 1, out ++ [y1], trivial, by rw [hN']; exact T8, by rw [hN', flat_append, flat_one]; exact ownsRow_keep (ownsRow_keep o6 T7.2 ty_str) K8 ty_str, (K6.trans T7.2).trans K8, hZ, by omega, Nat.le_refl _, by rw [hN']; omega⟩
        | false =>
          have PS := fun (v : World) (x : Value) (T' : Tq W v R ta tc i l x L (q + 1) al S) => q_pass T' ⟨#[44]⟩ (by rw [toList_byte]; simp) false (by rw [toList_byte]; exact hc)
          simp only [Bool.false_eq_true, if_false] at PS
          obtain ⟨b, hsc⟩ : ∃ b, ((nextT L (q + 1)).2.1.toList == [59]) = b := ⟨_, rfl⟩
          have PE := fun (v : World) (x : Value) (T' : Tq W v R ta tc i l x L (q + 1) al S) => q_pass T' ⟨#[59]⟩ (by rw [toList_byte]; simp) b (by rw [toList_byte]; exact hsc)
          have hZ' := (nmG_last hL (f := f) (out := out) (al := al) hb hc).symm.trans hZ
          rw [hsc] at hZ'
          generalize (nextT L q).2.1 = y1 at *
          have HR : Hid (Keep TY w wr ∧ (out ++ [y1], if b = true then (⟨q + 1 + 1, false, al⟩ : Rd) else ⟨q + 1, true, al⟩) = Z ∧ wr.ownsRow w.heap.size 9 1 (.slice a out.length c) out.length (flat encS out) ∧ Below W.heap.size W wr) := ⟨K, hZ', O, T.below⟩
          have hN' : (out ++ [y1]).length = out.length + 1 := by rw [List.length_append]; rfl
          generalize hN : out.length = N at *
          clear T O K hZ hZ' hf hg hn hL HH hb hc hq hsc
          go_wp2_with (first
            | (go_at_call 85; (with_reducible refine Calls.mono NM ?_); rintro e v1 ⟨rfl, T1, K1⟩; obtain ⟨x1, x2, x3, g1, g2, g3, hR1⟩ := T1.cells; have O1 := fun ob => ownsRow_below (ownsRow_keep HR.out.2.2.1 K1 ty_str) ((Below.refl _ v1).alloc (Nat.le_refl _) ob); have hB1 := (HR.out.1.trans K1).1)
            | (at_builtin; refine wpl_append_b (t := 23) (e := 9) Tryz.underlying23 infoStr rfl (by decide) (.tmp 17) (.tmp 19) rfl rfl _ w.heap.size (by simp; omega) _ N (flat encS out) v1.heap.size (encS y1) rfl rfl (O1 _) (BoxC.new v1 #[.string y1] 9).isc (by simp [encS, Value.oneCell']) m1 m2 ?_; intro a6 c6 v6 o6 g6; have hWw : W.heap.size ≤ w.heap.size := HW.out; have b6 : Below W.heap.size W v6 := (T1.below.alloc T1.below.size (.cells #[.string y1] 9)).grown g6 (Nat.le_trans T1.below.size (by simp)) (fun k hk => Nat.le_trans hWw ((O1 (.cells #[.string y1] 9)).lt k hk).1); have T6 := (T1.more ((Below.refl _ v1).alloc (Nat.le_refl _) (.cells #[.string y1] 9))).keepU (Keep.grown_type (X := TS) (O1 (.cells #[.string y1] 9)) rfl g6) b6 ts_not.1 ts_not.2.1 ts_not.2.2.1 ts_not.2.2.2.1 ts_not.2.2.2.2; have K6 := ((HR.out.1.trans K1).alloc (.cells #[.string y1] 9)).grown_new (O1 (.cells #[.string y1] 9)) (Nat.le_refl _) g6; obtain ⟨x61, x62, x63, g61, g62, g63, hR6⟩ := T6.cells; have T7 := T6.setO (.slice a6 (N + 1) c6))
            | (go_at_call 53; (with_reducible refine Calls.mono (PS _ _ T7.1) ?_); rintro e v8 ⟨rfl, T8, K8⟩)
            | (go_at_call 53; (with_reducible refine Calls.mono (PE _ _ T8) ?_); rintro e v9 ⟨rfl, T9, K9⟩))
          go_ret
          obtain ⟨K, rfl, -, -⟩ := HR.out
          cases b with
          | true => exact ⟨rfl, ⟨a6, N + 1, c6, T9, fun _ => ⟨hN'.symm, by rw [flat_append, flat_one]; exact ownsRow_keep (ownsRow_keep (ownsRow_keep o6 T7.2 ty_str) K8 ty_str) K9 ty_str⟩⟩, ((K6.trans T7.2).trans K8).trans K9⟩
          | false => exact ⟨rfl, ⟨a6, N + 1, c6, T9, fun q => absurd q (by simp)⟩, ((K6.trans T7.2).trans K8).trans K9⟩
end
end Go.Proofs.YtbcfplaalepnbaaGreatDoor
namespace Go.Proofs.YtbcfplaalepnbaaGreatDoor
open Go.RowKit Go.Lib
def TYL (T : TypeId) : Prop := TY T ∨ T = 46
theorem tyl_str : ¬ TYL 9 := by unfold TYL TY; decide
theorem Keep.tyl {w w' : World} (h : Keep TY w w') : Keep TYL w w' := h.mono fun _ q => .inl q
theorem tl_not : ¬ TL 59 ∧ ¬ TL 44 ∧ ¬ TL 66 ∧ ¬ TL 84 ∧ ¬ TL 20 := by unfold TL; decide
theorem bad_oneLet (L : List Tok) {q : Rd} (r : Rd) (hb : ((r.nameT L).2.want L 2 [61]).bad = true) (hp : ((r.nameT L).2.want L 2 [61]).pos = q.pos) : (oneLet numT L r).2.bad = true ∧ (oneLet numT L r).2.pos = q.pos := by
  unfold oneLet
  dsimp only
  have on := (on_exprI numT L 0 0 ((r.nameT L).2.want L 2 [61])).bad hb
  have on2 := (Rd.on_want L (exprI numT L 0 0 ((r.nameT L).2.want L 2 [61])).2 2 [59]).bad on.1
  exact ⟨on2.1, by rw [on2.2, on.2, hp]⟩
theorem one_noname {L : List Tok} {p : Nat} {al : List Nd} (h : nameB (nextT L p).2.1 = false) : (oneLet numT L ⟨p, false, al⟩).2.bad = true ∧ (oneLet numT L ⟨p, false, al⟩).2.pos = p :=
  bad_oneLet L (q := ⟨p, true, al⟩) _ (by rw [name_no h]; dsimp only; rw [bad_want]) (by rw [name_no h]; dsimp only; rw [bad_want])
theorem want_no {L : List Tok} (hL : Toks L) {p : Nat} {al : List Nd} {c : UInt8} (hc : kindI c.toNat = 4) (h : ((nextT L p).2.1.toList == [c]) = false) : (⟨p, false, al⟩ : Rd).want L 2 [c] = ⟨p, true, al⟩ := by
  unfold Rd.want
  rw [hL.mark rfl hc, if_neg (by rw [h]; simp)]; rfl
theorem want_yes {L : List Tok} (hL : Toks L) {p : Nat} {al : List Nd} {c : UInt8} (hc : kindI c.toNat = 4) (h : ((nextT L p).2.1.toList == [c]) = true) : (⟨p, false, al⟩ : Rd).want L 2 [c] = ⟨p + 1, false, al⟩ := by
  unfold Rd.want
  rw [hL.mark rfl hc, if_pos h]; rfl
theorem one_noeq {L : List Tok} (hL : Toks L) {p : Nat} {al : List Nd} (h : nameB (nextT L p).2.1 = true) (he : ((nextT L (p + 1)).2.1.toList == [61]) = false) : (oneLet numT L ⟨p, false, al⟩).2.bad = true ∧ (oneLet numT L ⟨p, false, al⟩).2.pos = p + 1 :=
  bad_oneLet L (q := ⟨p + 1, true, al⟩) _ (by rw [(name_yes hL h).1]; dsimp only; rw [want_no hL (by decide) he]) (by rw [(name_yes hL h).1]; dsimp only; rw [want_no hL (by decide) he])
theorem one_sum {L : List Tok} (hL : Toks L) {p : Nat} {al : List Nd} (h : nameB (nextT L p).2.1 = true) (he : ((nextT L (p + 1)).2.1.toList == [61]) = true) : oneLet numT L ⟨p, false, al⟩ = (((nextT L p).2.1, (exprI numT L 0 0 ⟨p + 1 + 1, false, al⟩).1), (exprI numT L 0 0 ⟨p + 1 + 1, false, al⟩).2.want L 2 [59]) := by
  unfold oneLet
  rw [(name_yes hL h).1]
  dsimp only
  rw [want_yes hL (by decide) he]
section
variable {W w w' : World} {R : Nat} {ta : Option Addr} {tc : Nat} {i l o : Value} {L : List Tok} {p : Nat} {al : List Nd} {S : List It}
def AnsLet (B : Nat) (W w : World) (R : Nat) (ta : Option Addr) (tc : Nat) (i o : Value) (L : List Tok) (ls : List (ByteArray × Int)) (Z : (ByteArray × Int) × Rd) (e : Ending) (w' : World) : Prop :=
  e = .returned (.bool (!Z.2.bad)) ∧ (∃ a n c al' S', Tq W w' R ta tc i (.slice a n c) o L Z.2.pos al' S' ∧ (Z.2.bad = false → al' = Z.2.all ∧ S' = [] ∧ n = ls.length + 1 ∧ w'.ownsRow B 46 2 (.slice a n c) n (flat encL (ls ++ [Z.1])))) ∧ Keep TYL w w'
theorem ansLet_bad {B : Nat} {ls : List (ByteArray × Int)} {Z : (ByteArray × Int) × Rd} {q n c : Nat} {a : Option Addr} {al' : List Nd} (hb : Z.2.bad = true) (hp : Z.2.pos = q) (T : Tq W w' R ta tc i (.slice a n c) o L q al' S) (K : Keep TYL w w') : AnsLet B W w R ta tc i o L ls Z (.returned (.bool false)) w' := by
  unfold AnsLet
  rw [hb, hp]
  exact ⟨rfl, ⟨a, n, c, al', S, T, fun q => absurd q (by simp)⟩, K⟩
set_option maxHeartbeats 16000000 in
theorem q_let {B : Nat} {a : Option Addr} {c : Nat} {ls : List (ByteArray × Int)} (h : Tq W w R ta tc i (.slice a ls.length c) o L p al []) (hL : Toks L) (he : ErrV W) (hB : W.heap.size ≤ B) (hBw : B ≤ w.heap.size) (O : w.ownsRow B 46 2 (.slice a ls.length c) ls.length (flat encL ls)) (hc : al.length + 2 * (L.length - p) ≤ 20000) (hl : ls.length ≤ 5000) :
    Calls Tryz.prog 86 #[.pointer (some ⟨R, 0, none⟩)] w (AnsLet B W w R ta tc i o L ls (oneLet numT L ⟨p, false, al⟩)) := by
  have HH : Hid (Tq W w R ta tc i (.slice a ls.length c) o L p al [] ∧ w.ownsRow B 46 2 (.slice a ls.length c) ls.length (flat encL ls)) := ⟨h, O⟩
  cases hb : nameB (nextT L p).2.1 with
  | false =>
    have NM := q_name h hL false hb
    simp only [Bool.false_eq_true, if_false] at NM
    obtain ⟨z1, z2⟩ := one_noname (al := al) hb
    have HR : Hid _ := And.intro z1 z2
    generalize (nextT L p).2.1 = y1 at *
    clear h hL he hB O hc hl hb z1 z2
    go_enter Tryz.func86, Tryz.ntmps86
    go_wp2_with (go_at_call 85; (with_reducible refine Calls.mono NM ?_); rintro e w1 ⟨rfl, T1, K1⟩)
    go_ret
    exact ansLet_bad HR.out.1 HR.out.2 T1 K1.tyl
  | true =>
    have NM := q_name h hL true hb
    simp only [if_true] at NM
    cases hq : ((nextT L (p + 1)).2.1.toList == [61]) with
    | false =>
      have PS := fun (v : World) (T' : Tq W v R ta tc i (.slice a ls.length c) o L (p + 1) al []) => q_pass T' ⟨#[61]⟩ (by rw [toList_byte]; simp) false (by rw [toList_byte]; exact hq)
      simp only [Bool.false_eq_true, if_false] at PS
      obtain ⟨z1, z2⟩ := one_noeq hL (al := al) hb hq
      have HR : Hid _ := And.intro z1 z2
      generalize (nextT L p).2.1 = y1 at *
      clear h hL he hB O hc hl hb z1 z2 hq
      go_enter Tryz.func86, Tryz.ntmps86
      go_wp2_with (first
        | (go_at_call 85; (with_reducible refine Calls.mono NM ?_); rintro e w1 ⟨rfl, T1, K1⟩)
        | (go_at_call 53; (with_reducible refine Calls.mono (PS _ T1) ?_); rintro e w2 ⟨rfl, T2, K2⟩))
      go_ret
      exact ansLet_bad HR.out.1 HR.out.2 T2 (K1.trans K2).tyl
    | true =>
      have PS := fun (v : World) (T' : Tq W v R ta tc i (.slice a ls.length c) o L (p + 1) al []) => q_pass T' ⟨#[61]⟩ (by rw [toList_byte]; simp) true (by rw [toList_byte]; exact hq)
      simp only [if_true] at PS
      rw [one_sum hL hb hq]
      obtain ⟨Y, hY⟩ : ∃ Y, exprI numT L 0 0 ⟨p + 1 + 1, false, al⟩ = Y := ⟨_, rfl⟩
      have SM := fun (v : World) (T' : Tq W v R ta tc i (.slice a ls.length c) o L (p + 1 + 1) al []) => q_sum T' hL he (by omega) hY
      rw [hY]
      unfold AnsS at SM
      cases hYb : Y.2.bad with
      | true =>
        have hw : Y.2.want L 2 [59] = Y.2 := by
          obtain ⟨Y1, Y2, Y3, Y4⟩ := Y
          dsimp only at hYb
          subst hYb
          exact bad_want L _ _ _ _
        rw [hw]
        rw [hYb] at SM
        have HR : Hid (Y.2.bad = true) := hYb
        generalize (nextT L p).2.1 = y1 at *
        clear h hL he hB O hc hl hb hq hY hw
        go_enter Tryz.func86, Tryz.ntmps86
        go_wp2_with (first
          | (go_at_call 85; (with_reducible refine Calls.mono NM ?_); rintro e w1 ⟨rfl, T1, K1⟩)
          | (go_at_call 53; (with_reducible refine Calls.mono (PS _ T1) ?_); rintro e w2 ⟨rfl, T2, K2⟩)
          | (go_at_call 115; (with_reducible refine Calls.mono (SM _ T2) ?_); rintro e w3 ⟨rfl, ⟨al3, S3, T3, -⟩, K3⟩))
        go_ret
        exact ansLet_bad HR.out rfl T3 ((K1.trans K2).trans K3).tyl
      | false =>
        rw [hYb] at SM
        obtain ⟨b, hsc⟩ : ∃ b, ((nextT L Y.2.pos).2.1.toList == [59]) = b := ⟨_, rfl⟩
        have PE := fun (v : World) (x : Value) (T' : Tq W v R ta tc i x o L Y.2.pos Y.2.all []) => q_pass T' ⟨#[59]⟩ (by rw [toList_byte]; simp) b (by rw [toList_byte]; exact hsc)
        have hw : Y.2.want L 2 [59] = if b = true then ⟨Y.2.pos + 1, false, Y.2.all⟩ else ⟨Y.2.pos, true, Y.2.all⟩ := by
          rw [← rd_eta hYb]
          dsimp only
          cases b with
          | true => rw [want_yes hL (by decide) hsc]; rfl
          | false => rw [want_no hL (by decide) hsc]; rfl
        generalize Y.2.want L 2 [59] = r2 at *
        have HQ : Hid (r2 = if b = true then ⟨Y.2.pos + 1, false, Y.2.all⟩ else ⟨Y.2.pos, true, Y.2.all⟩) := hw
        have m1 : ls.length + 1 ≤ maxLen := by unfold maxLen; omega
        have m2 : (ls.length + 1) * 24 ≤ 140737488355328 := by omega
        generalize (nextT L p).2.1 = y1 at *
        generalize Y.1 = root at *
        generalize hN : ls.length = N at *
        have HW : Hid (W.heap.size ≤ B ∧ B ≤ w.heap.size) := ⟨hB, hBw⟩
        clear h hL he hB hBw O hc hl hb hq hY hw hsc
        go_enter Tryz.func86, Tryz.ntmps86
        go_wp2_with (first
          | (go_at_call 85; (with_reducible refine Calls.mono NM ?_); rintro e w1 ⟨rfl, T1, K1⟩)
          | (go_at_call 53; (with_reducible refine Calls.mono (PS _ T1) ?_); rintro e w2 ⟨rfl, T2, K2⟩)
          | (go_at_call 115; (with_reducible refine Calls.mono (SM _ T2) ?_); rintro e w3 ⟨rfl, ⟨al3, S3, T3, h3⟩, K3⟩; obtain ⟨rfl, rfl⟩ := h3 trivial; obtain ⟨x1, x2, x3, g1, g2, g3, hR1⟩ := T3.cells; have KA := (K1.trans K2).trans K3; have O3 := fun ob => ownsRow_below (ownsRow_keep HH.out.2 KA ty_let) ((Below.refl _ w3).alloc (Nat.le_refl _) ob); have hB3 : B ≤ w3.heap.size := Nat.le_trans HW.out.2 KA.1)
          | (at_builtin; refine wpl_append_b (t := 24) (e := 46) Tryz.underlying24 infoLet rfl (by decide) (.tmp 30) (.tmp 34) rfl rfl _ B (by simp; omega) _ N (flat encL ls) w3.heap.size (encL (y1, root)) rfl rfl (O3 _) (BoxC.new w3 #[.string y1, .int .i64 root] 46).isc (by simp [encL, Value.oneCell']) m1 m2 ?_; intro a6 c6 v6 o6 g6; have b6 : Below W.heap.size W v6 := (T3.below.alloc T3.below.size (.cells #[.string y1, .int .i64 root] 46)).grown g6 (Nat.le_trans T3.below.size (by simp)) (fun k hk => Nat.le_trans HW.out.1 ((O3 (.cells #[.string y1, .int .i64 root] 46)).lt k hk).1); have T6 := (T3.more ((Below.refl _ w3).alloc (Nat.le_refl _) (.cells #[.string y1, .int .i64 root] 46))).keepU (Keep.grown_type (X := TL) (O3 (.cells #[.string y1, .int .i64 root] 46)) rfl g6) b6 tl_not.1 tl_not.2.1 tl_not.2.2.1 tl_not.2.2.2.1 tl_not.2.2.2.2; have K6 : Keep TYL w v6 := ((KA.alloc (.cells #[.string y1, .int .i64 root] 46)).tyl).trans (Keep.grown_type (O3 (.cells #[.string y1, .int .i64 root] 46)) (.inr rfl) g6); obtain ⟨x61, x62, x63, g61, g62, g63, hR6⟩ := T6.cells; have T7 := T6.setL (.slice a6 (N + 1) c6))
          | (go_at_call 53; (with_reducible refine Calls.mono (PE _ _ T7.1) ?_); rintro e v8 ⟨rfl, T8, K8⟩))
        go_ret
        obtain rfl := HQ.out
        cases b with
        | true => exact ⟨rfl, ⟨a6, N + 1, c6, Y.2.all, [], T8, fun _ => ⟨rfl, rfl, by rw [hN], by rw [flat_append, flat_one]; exact ownsRow_keep (ownsRow_keep o6 T7.2 ty_let) K8 ty_let⟩⟩, (K6.trans T7.2.tyl).trans K8.tyl⟩
        | false => exact ⟨rfl, ⟨a6, N + 1, c6, Y.2.all, [], T8, fun q => absurd q (by simp)⟩, (K6.trans T7.2.tyl).trans K8.tyl⟩
end
end Go.Proofs.YtbcfplaalepnbaaGreatDoor
namespace Go.Proofs.YtbcfplaalepnbaaGreatDoor
open Go.RowKit Go.Lib
theorem lets_no {L : List Tok} (hL : Toks L) {f p : Nat} {al : List Nd} {ls : List (ByteArray × Int)} (h : ((nextT L p).2.1.toList == [108, 101, 116]) = false) : letsF numT L (f + 1) ls ⟨p, false, al⟩ = (ls, ⟨p, false, al⟩) :=
  if_neg (by rw [hL.word rfl (by decide)]; show ¬ ((nextT L p).2.1.toList == [108, 101, 116]) = true; rw [h]; simp)
theorem lets_yes {L : List Tok} (hL : Toks L) {f p : Nat} {al : List Nd} {ls : List (ByteArray × Int)} (h : ((nextT L p).2.1.toList == [108, 101, 116]) = true) : letsF numT L (f + 1) ls ⟨p, false, al⟩ = letsF numT L f (ls ++ [(oneLet numT L ⟨p + 1, false, al⟩).1]) (oneLet numT L ⟨p + 1, false, al⟩).2 :=
  if_pos (by rw [hL.word rfl (by decide)]; exact h)
theorem lets_bad (L : List Tok) (f : Nat) (ls : List (ByteArray × Int)) {r : Rd} (h : r.bad = true) : letsF numT L f ls r = (ls, r) := by
  obtain ⟨p, b, al⟩ := r
  dsimp only at h
  subst h
  cases f with
  | zero => rfl
  | succ f => exact if_neg (by rw [bad_is]; simp)
section
variable {W w w' : World} {R : Nat} {ta : Option Addr} {tc : Nat} {i l o : Value} {L : List Tok} {p : Nat} {al : List Nd} {S : List It}
def AnsLets (W w : World) (R : Nat) (ta : Option Addr) (tc : Nat) (i o : Value) (L : List Tok) (Z : List (ByteArray × Int) × Rd) (e : Ending) (w' : World) : Prop :=
  e = .returned (.bool (!Z.2.bad)) ∧ (∃ a n c al' S', Tq W w' R ta tc i (.slice a n c) o L Z.2.pos al' S' ∧ (Z.2.bad = false → al' = Z.2.all ∧ S' = [] ∧ n = Z.1.length ∧ w'.ownsRow w.heap.size 46 2 (.slice a n c) n (flat encL Z.1))) ∧ Keep TYL w w'
theorem ansLets_bad {Z : List (ByteArray × Int) × Rd} {q n c : Nat} {a : Option Addr} {al' : List Nd} (hb : Z.2.bad = true) (hp : Z.2.pos = q) (T : Tq W w' R ta tc i (.slice a n c) o L q al' S) (K : Keep TYL w w') : AnsLets W w R ta tc i o L Z (.returned (.bool false)) w' := by
  unfold AnsLets
  rw [hb, hp]
  exact ⟨rfl, ⟨a, n, c, al', S, T, fun q => absurd q (by simp)⟩, K⟩
set_option maxHeartbeats 16000000 in
theorem q_lets (h : Tq W w R ta tc i (.slice none 0 0) o L p al []) (hL : Toks L) (he : ErrV W) (hc : al.length + 2 * (L.length - p) ≤ 20000) :
    Calls Tryz.prog 55 #[.pointer (some ⟨R, 0, none⟩)] w (AnsLets W w R ta tc i o L (letsF numT L (L.length + 1) [] ⟨p, false, al⟩)) := by
  obtain ⟨Z, hZ⟩ : ∃ Z, letsF numT L (L.length + 1) [] ⟨p, false, al⟩ = Z := ⟨_, rfl⟩
  rw [hZ]
  have HH : Hid (Tq W w R ta tc i (.slice none 0 0) o L p al [] ∧ Toks L ∧ letsF numT L (L.length + 1) [] ⟨p, false, al⟩ = Z ∧ w.ownsRow w.heap.size 46 2 (.slice none 0 0) 0 [] ∧ al.length + 2 * (L.length - p) ≤ 20000 ∧ ErrV W) := ⟨h, hL, hZ, World.ownsRow_nil _ _ _ _, hc, he⟩
  have HW : Hid (W.heap.size ≤ w.heap.size) := h.below.size
  clear h hL hZ hc he
  go_enter Tryz.func55, Tryz.ntmps55
  go_wp2
  go_loopg [3] (L.length - p + 1) (fun g s3 v => ∃ (a : Option Addr) (c f q : Nat) (ls : List (ByteArray × Int)) (al : List Nd), s3 = s3 ∧ Tq W v R ta tc i (.slice a ls.length c) o L q al [] ∧ v.ownsRow w.heap.size 46 2 (.slice a ls.length c) ls.length (flat encL ls) ∧ Keep TYL w v ∧ letsF numT L f ls ⟨q, false, al⟩ = Z ∧ L.length - q < f ∧ L.length - q + 1 ≤ g ∧ ls.length + (L.length - q) ≤ 5000 ∧ al.length + 2 * (L.length - q) ≤ 20000)
  case atStart => exact ⟨none, 0, L.length + 1, p, [], al, rfl, HH.out.1, HH.out.2.2.2.1, Keep.refl TYL w, HH.out.2.2.1, by omega, Nat.le_refl _, by have := HH.out.2.1.len; show 0 + _ ≤ _; omega, HH.out.2.2.2.2.1⟩
  case round =>
    obtain ⟨a, c, f, q, ls, al, -, T, O, K, hZ, hf, hg, hn, hc⟩ := hrel
    have hL := HH.out.2.1
    have he := HH.out.2.2.2.2.2
    cases f with
    | zero => omega
    | succ f =>
      cases hb : ((nextT L q).2.1.toList == [108, 101, 116]) with
      | false =>
        have ex : (⟨#[108, 101, 116]⟩ : ByteArray).toList = [108, 101, 116] := by rw [ByteArray.toList_eq]
        have PS := q_pass T ⟨#[108, 101, 116]⟩ (by rw [ex]; simp) false (by rw [ex]; exact hb)
        simp only [Bool.false_eq_true, if_false] at PS
        rw [lets_no hL hb] at hZ
        subst hZ
        have HR : Hid (Keep TYL w wr ∧ wr.ownsRow w.heap.size 46 2 (.slice a ls.length c) ls.length (flat encL ls)) := ⟨K, O⟩
        clear T O K hf hg hn hL HH hb hc he
        go_wp2_with (go_at_call 53; (with_reducible refine Calls.mono PS ?_); rintro e w1 ⟨rfl, T1, K1⟩)
        go_ret
        exact ⟨rfl, ⟨a, ls.length, c, al, [], T1, fun _ => ⟨rfl, rfl, rfl, ownsRow_keep HR.out.2 K1 ty_let⟩⟩, HR.out.1.trans K1.tyl⟩
      | true =>
        have ex : (⟨#[108, 101, 116]⟩ : ByteArray).toList = [108, 101, 116] := by rw [ByteArray.toList_eq]
        have hp := next_lt (x := ⟨#[108, 101, 116]⟩) (by rw [ex]; exact hb) (by rw [ex]; simp)
        have PS := q_pass T ⟨#[108, 101, 116]⟩ (by rw [ex]; simp) true (by rw [ex]; exact hb)
        simp only [if_true] at PS
        rw [lets_yes hL hb] at hZ
        have O2 := fun (v : World) (k : Keep TY wr v) => ownsRow_keep O k ty_let
        have LT := fun (v : World) (T' : Tq W v R ta tc i (.slice a ls.length c) o L (q + 1) al []) (k : Keep TY wr v) => q_let T' hL he HW.out (Nat.le_trans K.1 k.1) (O2 v k) (by omega) (by omega)
        have on := (Rd.on_want L (exprI numT L 0 0 (((⟨q + 1, false, al⟩ : Rd).nameT L).2.want L 2 [61])).2 2 [59]).pos
        have on2 := (on_exprI numT L 0 0 (((⟨q + 1, false, al⟩ : Rd).nameT L).2.want L 2 [61])).pos
        have on3 := (Rd.on_want L ((⟨q + 1, false, al⟩ : Rd).nameT L).2 2 [61]).pos
        have on4 := (Rd.on_name L (⟨q + 1, false, al⟩ : Rd)).pos
        have on5 : q + 1 ≤ (oneLet numT L ⟨q + 1, false, al⟩).2.pos := Nat.le_trans (Nat.le_trans (Nat.le_trans on4 on3) on2) on
        have cn := cnt_let L ⟨q + 1, false, al⟩
        unfold cnt at cn
        dsimp only at cn
        clear on on2 on3 on4
        generalize oneLet numT L ⟨q + 1, false, al⟩ = Y at *
        unfold AnsLet at LT
        cases hYb : Y.2.bad with
        | true =>
          rw [lets_bad L f _ hYb] at hZ
          subst hZ
          rw [hYb] at LT
          have HR : Hid (Keep TYL w wr ∧ Y.2.bad = true) := ⟨K, hYb⟩
          clear T O K hf hg hn hL HH hb hc he O2 hp cn on5
          go_wp2_with (first
            | (go_at_call 53; (with_reducible refine Calls.mono PS ?_); rintro e w1 ⟨rfl, T1, K1⟩)
            | (go_at_call 86; (with_reducible refine Calls.mono (LT _ T1 K1) ?_); rintro e w2 ⟨rfl, ⟨a2, n2, c2, al2, S2, T2, -⟩, K2⟩))
          go_ret
          exact ansLets_bad HR.out.2 rfl T2 ((HR.out.1.trans K1.tyl).trans K2)
        | false =>
          rw [hYb] at LT
          rw [← rd_eta hYb] at hZ
          have HR : Hid (Keep TYL w wr ∧ letsF numT L f (ls ++ [Y.1]) ⟨Y.2.pos, false, Y.2.all⟩ = Z ∧ L.length - q < f + 1 ∧ L.length - q + 1 ≤ gk ∧ ls.length + (L.length - q) ≤ 5000 ∧ q < L.length ∧ q + 1 ≤ Y.2.pos ∧ Y.2.all.length + 2 * (L.length - Y.2.pos) ≤ 20000) := ⟨K, hZ, hf, hg, hn, hp, on5, by omega⟩
          have hN' : (ls ++ [Y.1]).length = ls.length + 1 := by rw [List.length_append]; rfl
          generalize hN : ls.length = N at *
          clear T O K hZ hf hg hn hL HH hb hc he O2 hp cn on5
          go_wp2_with (first
            | (go_at_call 53; (with_reducible refine Calls.mono PS ?_); rintro e w1 ⟨rfl, T1, K1⟩)
            | (go_at_call 86; (with_reducible refine Calls.mono (LT _ T1 K1) ?_); rintro e w2 ⟨rfl, ⟨a2, n2, c2, al2, S2, T2, h2⟩, K2⟩; obtain ⟨rfl, rfl, rfl, o2⟩ := h2 trivial))
          obtain ⟨K, hZ, hf, hg, hn, hp, on5, hc⟩ := HR.out
          go_roundg (L.length - Y.2.pos + 1)
          case measure => omega
          case rel => exact ⟨a2, c2, f, Y.2.pos, ls ++ [Y.1], Y.2.all, trivial, by rw [hN']; exact T2, by rw [hN']; exact o2, (K.trans K1.tyl).trans K2, hZ, by omega, Nat.le_refl _, by rw [hN']; omega, hc⟩
end
end Go.Proofs.YtbcfplaalepnbaaGreatDoor
namespace Go.Proofs.YtbcfplaalepnbaaGreatDoor
open Go.RowKit Go.Lib
def st0 (L : List Tok) : Rd := startR.want L 0 [105, 110]
def st1 (L : List Tok) : Rd := (namesI L (st0 L)).2
def st2 (L : List Tok) : Rd := (letsF numT L (L.length + 1) [] (st1 L)).2
def st3 (L : List Tok) : Rd := (st2 L).want L 0 [111, 117, 116]
def st4 (L : List Tok) : Rd := (namesI L (st3 L)).2
theorem prog_rd (L : List Tok) : (progI numT L).2 = if (st4 L).pos < L.length then (st4 L).wrong else st4 L := rfl
theorem st_bad4 {L : List Tok} (h : (st4 L).bad = true) : (progI numT L).2.bad = true ∧ (progI numT L).2.pos = (st4 L).pos := by
  rw [prog_rd]
  split
  · exact ⟨rfl, rfl⟩
  · exact ⟨h, rfl⟩
theorem st_bad3 {L : List Tok} (h : (st3 L).bad = true) : (progI numT L).2.bad = true ∧ (progI numT L).2.pos = (st3 L).pos := by
  have on := (on_names L (st3 L)).1.bad h
  have := st_bad4 (L := L) on.1
  exact ⟨this.1, this.2.trans on.2⟩
theorem st_bad2 {L : List Tok} (h : (st2 L).bad = true) : (progI numT L).2.bad = true ∧ (progI numT L).2.pos = (st2 L).pos := by
  have on := (Rd.on_want L (st2 L) 0 [111, 117, 116]).bad h
  have := st_bad3 (L := L) on.1
  exact ⟨this.1, this.2.trans on.2⟩
theorem st_bad1 {L : List Tok} (h : (st1 L).bad = true) : (progI numT L).2.bad = true ∧ (progI numT L).2.pos = (st1 L).pos := by
  have on := (on_lets numT L (L.length + 1) [] (st1 L)).bad h
  have := st_bad2 (L := L) on.1
  exact ⟨this.1, this.2.trans on.2⟩
theorem st_bad0 {L : List Tok} (h : (st0 L).bad = true) : (progI numT L).2.bad = true ∧ (progI numT L).2.pos = (st0 L).pos := by
  have on := (on_names L (st0 L)).1.bad h
  have := st_bad1 (L := L) on.1
  exact ⟨this.1, this.2.trans on.2⟩
theorem wantw_no {L : List Tok} (hL : Toks L) {p : Nat} {al : List Nd} {c : UInt8} {x : List UInt8} (hc : c.toNat < 128 ∧ kindI c.toNat = 1) (h : ((nextT L p).2.1.toList == c :: x) = false) : (⟨p, false, al⟩ : Rd).want L 0 (c :: x) = ⟨p, true, al⟩ := by
  unfold Rd.want
  rw [hL.word rfl hc, if_neg (by rw [h]; simp)]; rfl
theorem wantw_yes {L : List Tok} (hL : Toks L) {p : Nat} {al : List Nd} {c : UInt8} {x : List UInt8} (hc : c.toNat < 128 ∧ kindI c.toNat = 1) (h : ((nextT L p).2.1.toList == c :: x) = true) : (⟨p, false, al⟩ : Rd).want L 0 (c :: x) = ⟨p + 1, false, al⟩ := by
  unfold Rd.want
  rw [hL.word rfl hc, if_pos h]; rfl
theorem ownsRow_low {w : World} {B C : Nat} {T : TypeId} {k : Nat} {v : Value} {n : Nat} {cs : List Value} (h : w.ownsRow B T k v n cs) (hC : C ≤ B) : w.ownsRow C T k v n cs := by
  refine ⟨h.1, ?_⟩
  rcases h.2 with q | ⟨g, cap, cur, hv, hb, r⟩
  · exact .inl q
  · exact .inr ⟨g, cap, cur, hv, Nat.le_trans hC hb, r⟩
section
variable {W w w' : World} {R : Nat} {ta : Option Addr} {tc : Nat} {L : List Tok}
def AnsPr (W w : World) (R : Nat) (ta : Option Addr) (tc : Nat) (L : List Tok) (Z : Pg × Rd) (e : Ending) (w' : World) : Prop :=
  e = .returned (.bool (!Z.2.bad)) ∧ (∃ ia il ic la ll lc oa ol oc al S, Tq W w' R ta tc (.slice ia il ic) (.slice la ll lc) (.slice oa ol oc) L Z.2.pos al S ∧
    (Z.2.bad = false → al = Z.1.all ∧ il = Z.1.ins.length ∧ ll = Z.1.lets.length ∧ ol = Z.1.outs.length ∧ w'.ownsRow w.heap.size 9 1 (.slice ia il ic) il (flat encS Z.1.ins) ∧ w'.ownsRow w.heap.size 46 2 (.slice la ll lc) ll (flat encL Z.1.lets) ∧ w'.ownsRow w.heap.size 9 1 (.slice oa ol oc) ol (flat encS Z.1.outs))) ∧ Keep TYL w w'
theorem ansPr_bad {ia la oa : Option Addr} {il ic ll lc ol oc q : Nat} {al : List Nd} {S : List It} {Z : Pg × Rd} (hb : Z.2.bad = true) (hp : Z.2.pos = q) (T : Tq W w' R ta tc (.slice ia il ic) (.slice la ll lc) (.slice oa ol oc) L q al S) (K : Keep TYL w w') : AnsPr W w R ta tc L Z (.returned (.bool false)) w' := by
  unfold AnsPr
  rw [hb, hp]
  exact ⟨rfl, ⟨ia, il, ic, la, ll, lc, oa, ol, oc, al, S, T, fun q => absurd q (by simp)⟩, K⟩
theorem Tq.leftV {i l o : Value} {p : Nat} {al : List Nd} {S : List It} (h : Tq W w R ta tc i l o L p al S) : ∃ la lc, w.cell? ⟨R, 0, none⟩ = some (.slice la (L.length - p) lc) := by
  obtain ⟨la, lc, a, c, sa, sc, hW, B, hN, hS, hT⟩ := h
  exact ⟨la, lc, (B.cell 0).1⟩
set_option maxHeartbeats 16000000 in
theorem q_program (h : Tq W w R ta tc (.slice none 0 0) (.slice none 0 0) (.slice none 0 0) L 0 [] []) (hL : Toks L) (he : ErrV W) :
    Calls Tryz.prog 26 #[.pointer (some ⟨R, 0, none⟩)] w (AnsPr W w R ta tc L (progI numT L)) := by
  have hn4 := hL.len
  have ein : (⟨#[105, 110]⟩ : ByteArray).toList = [105, 110] := by rw [ByteArray.toList_eq]
  have eou : (⟨#[111, 117, 116]⟩ : ByteArray).toList = [111, 117, 116] := by rw [ByteArray.toList_eq]
  have hZ0 := prog_rd L
  cases hi : ((nextT L 0).2.1.toList == [105, 110]) with
  | false =>
    have P0 := q_pass h ⟨#[105, 110]⟩ (by rw [ein]; simp) false (by rw [ein]; exact hi)
    simp only [Bool.false_eq_true, if_false] at P0
    have z0 : st0 L = ⟨0, true, []⟩ := wantw_no hL (by decide) hi
    obtain ⟨z1, z2⟩ := st_bad0 (L := L) (by rw [z0])
    rw [z0] at z2
    have HR : Hid _ := And.intro z1 z2
    generalize progI numT L = Z at *
    clear h hL he hi z0 z1 z2 hZ0 ein eou hn4
    go_enter Tryz.func26, Tryz.ntmps26
    go_wp2_with (first
      | (go_at_call 53; (with_reducible refine Calls.mono P0 ?_); rintro e w1 ⟨rfl, T1, K1⟩))
    go_ret
    exact ansPr_bad HR.out.1 HR.out.2 T1 K1.tyl
  | true =>
    have P0 := q_pass h ⟨#[105, 110]⟩ (by rw [ein]; simp) true (by rw [ein]; exact hi)
    simp only [if_true] at P0
    have z0 : st0 L = ⟨1, false, []⟩ := wantw_yes hL (by decide) hi
    have N1 := fun (v : World) (T' : Tq W v R ta tc (.slice none 0 0) (.slice none 0 0) (.slice none 0 0) L 1 [] []) => q_names1 T' hL
    have e1 : st1 L = (namesI L ⟨1, false, []⟩).2 := by unfold st1; rw [z0]
    have ei : (progI numT L).1.ins = (namesI L ⟨1, false, []⟩).1 := by show (namesI L (st0 L)).1 = _; rw [z0]
    have a1 : (namesI L ⟨1, false, []⟩).2.all = [] := (on_names L ⟨1, false, []⟩).2
    generalize namesI L ⟨1, false, []⟩ = Y1 at *
    unfold AnsN1 at N1
    cases hb1 : Y1.2.bad with
    | true =>
      rw [hb1] at N1
      obtain ⟨z1, z2⟩ := st_bad1 (L := L) (by rw [e1]; exact hb1)
      rw [e1] at z2
      have HR : Hid _ := And.intro z1 z2
      generalize progI numT L = Z at *
      clear h hL he hi z0 z1 z2 hZ0 ein eou hn4 a1 ei e1 hb1
      go_enter Tryz.func26, Tryz.ntmps26
      go_wp2_with (first
        | (go_at_call 53; (with_reducible refine Calls.mono P0 ?_); rintro e w1 ⟨rfl, T1, K1⟩)
        | (go_at_call 54; (with_reducible refine Calls.mono (N1 _ T1) ?_); rintro e w2 ⟨rfl, ⟨ia, il, ic, T2, -⟩, K2⟩))
      go_ret
      exact ansPr_bad HR.out.1 HR.out.2 T2 ((K1.trans K2).tyl)
    | false =>
      rw [hb1] at N1
      have y1 : Y1.2 = ⟨Y1.2.pos, false, []⟩ := by rw [← a1, rd_eta hb1]
      have LT := fun (v : World) (x : Value) (T' : Tq W v R ta tc x (.slice none 0 0) (.slice none 0 0) L Y1.2.pos [] []) => q_lets T' hL he (by show 0 + _ ≤ _; omega)
      have e2 : st2 L = (letsF numT L (L.length + 1) [] ⟨Y1.2.pos, false, []⟩).2 := by unfold st2; rw [e1, ← y1]
      have el : (progI numT L).1.lets = (letsF numT L (L.length + 1) [] ⟨Y1.2.pos, false, []⟩).1 := by show (letsF numT L (L.length + 1) [] (st1 L)).1 = _; rw [e1, ← y1]
      generalize letsF numT L (L.length + 1) [] ⟨Y1.2.pos, false, []⟩ = Y2 at *
      unfold AnsLets at LT
      cases hb2 : Y2.2.bad with
      | true =>
        rw [hb2] at LT
        obtain ⟨z1, z2⟩ := st_bad2 (L := L) (by rw [e2]; exact hb2)
        rw [e2] at z2
        have HR : Hid _ := And.intro z1 z2
        generalize progI numT L = Z at *
        clear h hL he hi z0 z1 z2 hZ0 ein eou hn4 a1 ei e1 hb1 e2 el hb2 y1
        go_enter Tryz.func26, Tryz.ntmps26
        go_wp2_with (first
          | (go_at_call 53; (with_reducible refine Calls.mono P0 ?_); rintro e w1 ⟨rfl, T1, K1⟩)
          | (go_at_call 54; (with_reducible refine Calls.mono (N1 _ T1) ?_); rintro e w2 ⟨rfl, ⟨ia, il, ic, T2, h2⟩, K2⟩; obtain ⟨rfl, o2⟩ := h2 trivial)
          | (go_at_call 55; (with_reducible refine Calls.mono (LT _ _ T2) ?_); rintro e w3 ⟨rfl, ⟨la, ll, lc, al3, S3, T3, -⟩, K3⟩))
        go_ret
        exact ansPr_bad HR.out.1 HR.out.2 T3 ((K1.trans K2).tyl.trans K3)
      | false =>
        rw [hb2] at LT
        have y2 := rd_eta hb2
        cases ho : ((nextT L Y2.2.pos).2.1.toList == [111, 117, 116]) with
        | false =>
          have PO := fun (v : World) (x y : Value) (T' : Tq W v R ta tc x y (.slice none 0 0) L Y2.2.pos Y2.2.all []) => q_pass T' ⟨#[111, 117, 116]⟩ (by rw [eou]; simp) false (by rw [eou]; exact ho)
          simp only [Bool.false_eq_true, if_false] at PO
          have z3 : st3 L = ⟨Y2.2.pos, true, Y2.2.all⟩ := by unfold st3; rw [e2, ← y2]; exact wantw_no hL (by decide) ho
          obtain ⟨z1, z2⟩ := st_bad3 (L := L) (by rw [z3])
          rw [z3] at z2
          have HR : Hid _ := And.intro z1 z2
          generalize progI numT L = Z at *
          clear h hL he hi z0 z1 z2 hZ0 ein eou hn4 a1 ei e1 hb1 e2 el hb2 y1 y2 z3 ho
          go_enter Tryz.func26, Tryz.ntmps26
          go_wp2_with (first
            | (go_at_call 53; (with_reducible refine Calls.mono P0 ?_); rintro e w1 ⟨rfl, T1, K1⟩)
            | (go_at_call 54; (with_reducible refine Calls.mono (N1 _ T1) ?_); rintro e w2 ⟨rfl, ⟨ia, il, ic, T2, h2⟩, K2⟩; obtain ⟨rfl, o2⟩ := h2 trivial)
            | (go_at_call 55; (with_reducible refine Calls.mono (LT _ _ T2) ?_); rintro e w3 ⟨rfl, ⟨la, ll, lc, al3, S3, T3, h3⟩, K3⟩; obtain ⟨rfl, rfl, rfl, o3⟩ := h3 trivial)
            | (go_at_call 53; (with_reducible refine Calls.mono (PO _ _ _ T3) ?_); rintro e w4 ⟨rfl, T4, K4⟩))
          go_ret
          exact ansPr_bad HR.out.1 HR.out.2 T4 (((K1.trans K2).tyl.trans K3).trans K4.tyl)
        | true =>
          have PO := fun (v : World) (x y : Value) (T' : Tq W v R ta tc x y (.slice none 0 0) L Y2.2.pos Y2.2.all []) => q_pass T' ⟨#[111, 117, 116]⟩ (by rw [eou]; simp) true (by rw [eou]; exact ho)
          simp only [if_true] at PO
          have z3 : st3 L = ⟨Y2.2.pos + 1, false, Y2.2.all⟩ := by unfold st3; rw [e2, ← y2]; exact wantw_yes hL (by decide) ho
          have N3 := fun (v : World) (x y : Value) (T' : Tq W v R ta tc x y (.slice none 0 0) L (Y2.2.pos + 1) Y2.2.all []) => q_names3 T' hL
          have e4 : st4 L = (namesI L ⟨Y2.2.pos + 1, false, Y2.2.all⟩).2 := by unfold st4; rw [z3]
          have eo : (progI numT L).1.outs = (namesI L ⟨Y2.2.pos + 1, false, Y2.2.all⟩).1 := by show (namesI L (st3 L)).1 = _; rw [z3]
          have ea : (progI numT L).1.all = Y2.2.all := by show (namesI L (st3 L)).2.all = _; rw [z3]; exact (on_names L ⟨Y2.2.pos + 1, false, Y2.2.all⟩).2
          generalize namesI L ⟨Y2.2.pos + 1, false, Y2.2.all⟩ = Y4 at *
          unfold AnsN3 at N3
          cases hb4 : Y4.2.bad with
          | true =>
            rw [hb4] at N3
            obtain ⟨z1, z2⟩ := st_bad4 (L := L) (by rw [e4]; exact hb4)
            rw [e4] at z2
            have HR : Hid _ := And.intro z1 z2
            generalize progI numT L = Z at *
            clear h hL he hi z0 z1 z2 hZ0 ein eou hn4 a1 ei e1 hb1 e2 el hb2 y1 y2 z3 ho e4 eo ea hb4
            go_enter Tryz.func26, Tryz.ntmps26
            go_wp2_with (first
              | (go_at_call 53; (with_reducible refine Calls.mono P0 ?_); rintro e w1 ⟨rfl, T1, K1⟩)
              | (go_at_call 54; (with_reducible refine Calls.mono (N1 _ T1) ?_); rintro e w2 ⟨rfl, ⟨ia, il, ic, T2, h2⟩, K2⟩; obtain ⟨rfl, o2⟩ := h2 trivial)
              | (go_at_call 55; (with_reducible refine Calls.mono (LT _ _ T2) ?_); rintro e w3 ⟨rfl, ⟨la, ll, lc, al3, S3, T3, h3⟩, K3⟩; obtain ⟨rfl, rfl, rfl, o3⟩ := h3 trivial)
              | (go_at_call 53; (with_reducible refine Calls.mono (PO _ _ _ T3) ?_); rintro e w4 ⟨rfl, T4, K4⟩)
              | (go_at_call 54; (with_reducible refine Calls.mono (N3 _ _ _ T4) ?_); rintro e w5 ⟨rfl, ⟨oa, ol, oc, T5, -⟩, K5⟩))
            go_ret
            exact ansPr_bad HR.out.1 HR.out.2 T5 ((((K1.trans K2).tyl.trans K3).trans K4.tyl).trans K5.tyl)
          | false =>
            rw [hb4] at N3
            rw [e4] at hZ0
            by_cases hlt : Y4.2.pos < L.length
            · rw [if_pos hlt] at hZ0
              have k0 : (((L.length - Y4.2.pos : Nat) : Int) == 0) = false := by rw [beq_eq_false_iff_ne]; omega
              have HR : Hid ((progI numT L).2.bad = true ∧ (progI numT L).2.pos = Y4.2.pos) := by rw [hZ0]; exact ⟨rfl, rfl⟩
              generalize progI numT L = Z at *
              generalize hM : L.length - Y4.2.pos = M at *
              clear h hL he hi z0 hZ0 ein eou hn4 a1 ei e1 hb1 e2 el hb2 y1 y2 z3 ho e4 eo ea hb4 hlt
              go_enter Tryz.func26, Tryz.ntmps26
              go_wp2_with (first
                | (go_at_call 53; (with_reducible refine Calls.mono P0 ?_); rintro e w1 ⟨rfl, T1, K1⟩)
                | (go_at_call 54; (with_reducible refine Calls.mono (N1 _ T1) ?_); rintro e w2 ⟨rfl, ⟨ia, il, ic, T2, h2⟩, K2⟩; obtain ⟨rfl, o2⟩ := h2 trivial)
                | (go_at_call 55; (with_reducible refine Calls.mono (LT _ _ T2) ?_); rintro e w3 ⟨rfl, ⟨la, ll, lc, al3, S3, T3, h3⟩, K3⟩; obtain ⟨rfl, rfl, rfl, o3⟩ := h3 trivial)
                | (go_at_call 53; (with_reducible refine Calls.mono (PO _ _ _ T3) ?_); rintro e w4 ⟨rfl, T4, K4⟩)
                | (go_at_call 54; (with_reducible refine Calls.mono (N3 _ _ _ T4) ?_); rintro e w5 ⟨rfl, ⟨oa, ol, oc, T5, h5⟩, K5⟩; obtain ⟨rfl, o5⟩ := h5 trivial; obtain ⟨xa, xc, x0⟩ := T5.leftV; rw [hM] at x0))
              go_ret
              exact ansPr_bad HR.out.1 HR.out.2 T5 ((((K1.trans K2).tyl.trans K3).trans K4.tyl).trans K5.tyl)
            · rw [if_neg hlt] at hZ0
              have k0 : ((L.length - Y4.2.pos : Nat) : Int) = 0 := by omega
              have HR : Hid ((progI numT L).2.bad = false ∧ (progI numT L).2.pos = Y4.2.pos ∧ (progI numT L).1.all = Y2.2.all ∧ (progI numT L).1.ins = Y1.1 ∧ (progI numT L).1.lets = Y2.1 ∧ (progI numT L).1.outs = Y4.1) := by rw [hZ0]; exact ⟨hb4, rfl, ea, ei, el, eo⟩
              generalize progI numT L = Z at *
              generalize hM : L.length - Y4.2.pos = M at *
              clear h hL he hi z0 hZ0 ein eou hn4 a1 ei e1 hb1 e2 el hb2 y1 y2 z3 ho e4 eo ea hb4 hlt
              go_enter Tryz.func26, Tryz.ntmps26
              go_wp2_with (first
                | (go_at_call 53; (with_reducible refine Calls.mono P0 ?_); rintro e w1 ⟨rfl, T1, K1⟩)
                | (go_at_call 54; (with_reducible refine Calls.mono (N1 _ T1) ?_); rintro e w2 ⟨rfl, ⟨ia, il, ic, T2, h2⟩, K2⟩; obtain ⟨rfl, o2⟩ := h2 trivial)
                | (go_at_call 55; (with_reducible refine Calls.mono (LT _ _ T2) ?_); rintro e w3 ⟨rfl, ⟨la, ll, lc, al3, S3, T3, h3⟩, K3⟩; obtain ⟨rfl, rfl, rfl, o3⟩ := h3 trivial)
                | (go_at_call 53; (with_reducible refine Calls.mono (PO _ _ _ T3) ?_); rintro e w4 ⟨rfl, T4, K4⟩)
                | (go_at_call 54; (with_reducible refine Calls.mono (N3 _ _ _ T4) ?_); rintro e w5 ⟨rfl, ⟨oa, ol, oc, T5, h5⟩, K5⟩; obtain ⟨rfl, o5⟩ := h5 trivial; obtain ⟨xa, xc, x0⟩ := T5.leftV; rw [hM] at x0))
              go_ret
              obtain ⟨z1, z2, z3, z4, z5, z6⟩ := HR.out
              unfold AnsPr
              rw [z1, z2, z3, z4, z5, z6]
              exact ⟨rfl, ⟨ia, _, ic, la, _, lc, oa, _, oc, _, _, T5, fun _ => ⟨rfl, rfl, rfl, rfl, ownsRow_keep (ownsRow_keep (ownsRow_keep (ownsRow_low o2 K1.1) K3 tyl_str) K4 ty_str) K5 ty_str, ownsRow_keep (ownsRow_keep (ownsRow_low o3 (K1.trans K2).1) K4 ty_let) K5 ty_let, ownsRow_low o5 (((K1.trans K2).tyl.trans K3).trans K4.tyl).1⟩⟩, (((K1.trans K2).tyl.trans K3).trans K4.tyl).trans K5.tyl⟩
end
end Go.Proofs.YtbcfplaalepnbaaGreatDoor
namespace Go.Proofs.YtbcfplaalepnbaaGreatDoor
open Go.RowKit Go.Lib
theorem place_zero (s : ByteArray) : placeI s 0 = (1, 1) := by
  rcases Nat.eq_zero_or_pos s.size with h | h
  · have := At.last (s := s) (by rw [h]; exact At.zero s) (at_ := 0) (by omega)
    exact this
  · have hn := next_size h
    exact (At.zero s).here (by omega) (by omega) h
theorem BoxC.iterAt {v : World} {k g : Nat} {cs : Array Value} {T : TypeId} (h : BoxC v k cs T) (s : ByteArray) (pos : Nat) (hk : k ≠ g) : BoxC (v.iterAt g s pos) k cs T := (iterAt_other v g k s pos hk).trans h
theorem iter_set {v : World} {k g i : Nat} {s : ByteArray} {pos : Nat} (h : v.heap[k]? = some (.stringIter s pos)) (hk : k ≠ g) (x : Value) : (v.setCell ⟨g, i, none⟩ x).heap[k]? = some (.stringIter s pos) := by
  rw [Below.heap_setCell v ⟨g, i, none⟩ x k (by simpa using hk)]; exact h
end Go.Proofs.YtbcfplaalepnbaaGreatDoor
namespace Go.Proofs.YtbcfplaalepnbaaGreatDoor
open Go.RowKit Go.Lib
theorem placeF_above (s : ByteArray) {j : Int} (h : (s.size : Int) ≤ j) : ∀ f i l c, placeF s j f i l c = placeF s s.size f i l c := by
  intro f
  induction f with
  | zero => intro i l c; rfl
  | succ f ih =>
    intro i l c
    unfold placeF
    by_cases hi : i < s.size
    · have := next_size hi
      rw [if_pos hi, if_pos hi, if_neg (show ¬ j < (i : Int) + nextN s i by omega), if_neg (show ¬ (s.size : Int) < (i : Int) + nextN s i by omega), ih]
    · rw [if_neg hi, if_neg hi]
set_option maxHeartbeats 8000000 in
theorem sign_place (s : ByteArray) (j : Int) (w : World) (hs : s.size ≤ 1000000) (hj0 : -9223372036854775808 ≤ j) (hj1 : j < 9223372036854775808) :
    Calls Tryz.prog 23 #[.string s, .int .i64 j] w (AnsL w (placeI s j)) := by
  obtain ⟨a, ha, hp, hc⟩ : ∃ a : Nat, a ≤ s.size ∧ placeI s j = placeI s a ∧ ((j < 0 ∧ a = 0) ∨ (¬ j < 0 ∧ ¬ (s.size : Int) < j ∧ j = a) ∨ (¬ j < 0 ∧ (s.size : Int) < j ∧ a = s.size)) := by
    rcases (by omega : j < 0 ∨ (0 ≤ j ∧ j ≤ s.size) ∨ (0 ≤ j ∧ (s.size : Int) < j)) with h | ⟨h0, h⟩ | ⟨h0, h⟩
    · exact ⟨0, Nat.zero_le _, (place_low s h).trans (place_zero s).symm, .inl ⟨h, rfl⟩⟩
    · obtain ⟨a, rfl⟩ := Int.eq_ofNat_of_zero_le h0
      exact ⟨a, by omega, rfl, .inr (.inl ⟨by omega, by omega, rfl⟩)⟩
    · exact ⟨s.size, Nat.le_refl _, placeF_above s (Int.le_of_lt h) _ _ _ _, .inr (.inr ⟨by omega, h, rfl⟩)⟩
  rw [hp]
  clear hp hj0 hj1
  generalize hP : placeI s a = P
  have HP : Hid (placeI s a = P ∧ a ≤ s.size ∧ s.size ≤ 1000000) := ⟨hP, ha, hs⟩
  clear hP ha hs
  obtain ⟨B1, B2, B3, bV, hb⟩ := boxes3 w #[.int .i64 0, .int .i64 0] #[.int .i64 0, .int .i64 0] #[.int .i64 1, .int .i64 1] 29 29 29
  have hV : (((w.alloc (.cells #[.int .i64 0, .int .i64 0] 29)).alloc (.cells #[.int .i64 0, .int .i64 0] 29)).alloc (.cells #[.int .i64 1, .int .i64 1] 29)).heap.size = w.heap.size + 1 + 1 + 1 := by simp [World.size_alloc]
  clear hb
  rcases hc with ⟨c1, c2⟩ | ⟨c1, c2, rfl⟩ | ⟨c1, c2, c3⟩
  · go_enter Tryz.func23, Tryz.ntmps23
    go_wp2
    generalize ((w.alloc (.cells #[.int .i64 0, .int .i64 0] 29)).alloc (.cells #[.int .i64 0, .int .i64 0] 29)).alloc (.cells #[.int .i64 1, .int .i64 1] 29) = V at *
    have hit0 := iter_new V s
    have bI := below_more bV (below_iter V s 0)
    have BI1 := B1.more (below_iter V s 0)
    have BI2 := B2.more (below_iter V s 0)
    have BI3 := B3.more (below_iter V s 0)
    rw [hV] at hit0
    clear B1 B2 B3 bV hV
    go_loopg [7] s.size (fun g _ v => ∃ (pos : Nat) (l c l0 c0 : Int), pos + g = s.size ∧ v.heap[w.heap.size + 1 + 1 + 1]? = some (.stringIter s pos) ∧ BoxC v w.heap.size #[.int .i64 0, .int .i64 0] 29 ∧ BoxC v (w.heap.size + 1) #[.int .i64 l0, .int .i64 c0] 29 ∧ BoxC v (w.heap.size + 1 + 1) #[.int .i64 l, .int .i64 c] 29 ∧ Below w.heap.size w v ∧ At s pos l c ∧ 1 ≤ l ∧ l ≤ pos + 1 ∧ 1 ≤ c ∧ c ≤ pos + 1 ∧ (pos ≤ a ∨ (l0, c0) = P))
    case atStart => exact ⟨0, 1, 1, 0, 0, by omega, hit0, BI1, BI2, BI3, bI, At.zero s, by omega, by omega, by omega, by omega, .inl (Nat.zero_le _)⟩
    case round =>
      obtain ⟨pos, l, c, l0, c0, hg, hit, X1, X2, X3, bw, hA, hl1, hl2, hc1, hc2, hp⟩ := hrel
      clear hit0 BI1 BI2 BI3 bI
      obtain ⟨h1, h2, h3⟩ := HP.out
      rcases Nat.lt_or_ge pos s.size with hs | hs
      · have hnx : ∀ ty, (Instr.next (.pointer (some ⟨w.heap.size + 1 + 1 + 1, 0, none⟩)) true ty).run Tryz.prog wr = .ok (.tuple #[.bool true, .int .i64 pos, .int .i32 (nextR s pos)]) (wr.iterAt (w.heap.size + 1 + 1 + 1) s (pos + nextN s pos)) := fun ty => run_next_any_at wr (w.heap.size + 1 + 1 + 1) s pos ty hit hs
        have hi2 := iterAt_heap wr (w.heap.size + 1 + 1 + 1) s pos (pos + nextN s pos) hit
        have bw2 := below_iterAt bw (show w.heap.size ≤ w.heap.size + 1 + 1 + 1 by omega) s (pos + nextN s pos)
        have Y1 := X1.iterAt (g := w.heap.size + 1 + 1 + 1) s (pos + nextN s pos) (by omega)
        have Y2 := X2.iterAt (g := w.heap.size + 1 + 1 + 1) s (pos + nextN s pos) (by omega)
        have Y3 := X3.iterAt (g := w.heap.size + 1 + 1 + 1) s (pos + nextN s pos) (by omega)
        have hz := next_size hs
        by_cases hpa : a < pos
        · have hpa' : 0 < (pos : Int) := by omega
          have hlc : (l0, c0) = P := by rcases hp with hp | hp; omega; exact hp
          subst hlc
          obtain ⟨x0, x1, x2, x3⟩ := Y1.cells2
          obtain ⟨y0, y1, y2, y3⟩ := Y2.cells2
          generalize wr.iterAt (w.heap.size + 1 + 1 + 1) s (pos + nextN s pos) = wi at *
          clear hit X1 X2 X3 bw hA hp hpa Y1 Y2 Y3 hi2 hz h1 h2 h3 c1 c2
          go_wp2
          exact bodyPost_ret (v := .agg #[.int .i64 l0, .int .i64 c0]) (by simp [results, Tryz.results23, go_sem, x0, x1]) rfl ⟨rfl, (bw2.setCell (p := ⟨w.heap.size, 0, none⟩) (Nat.le_refl _) _).setCell (p := ⟨w.heap.size, 1, none⟩) (Nat.le_refl _) _⟩
        · have hpa' : ¬ 0 < (pos : Int) := by omega
          have HA : Hid (At s (pos + nextN s pos) (if nextR s pos = 10 then l + 1 else l) (if nextR s pos = 10 then 1 else c + 1)) := hA.next hs
          have HE : Hid (pos + nextN s pos ≤ a ∨ (l, c) = P) := by
            rcases Nat.lt_or_ge a (pos + nextN s pos) with q | q
            · exact .inr ((hA.here (at_ := (a : Int)) (by omega) (by omega) hs).symm.trans h1)
            · exact .inl q
          have HB : Hid (pos + gk = s.size ∧ pos + nextN s pos ≤ s.size ∧ 1 ≤ nextN s pos ∧ nextN s pos ≤ 4 ∧ 1 ≤ l ∧ l ≤ pos + 1 ∧ 1 ≤ c ∧ c ≤ pos + 1) := ⟨hg, hz.2.2, hz.1, hz.2.1, hl1, hl2, hc1, hc2⟩
          have CB := fun v => sign_behind l c (nextR s pos) (by omega) (by omega) (by omega) (by omega) v
          generalize wr.iterAt (w.heap.size + 1 + 1 + 1) s (pos + nextN s pos) = wi at *
          generalize nextR s pos = R at *
          generalize nextN s pos = M at *
          clear hit X1 X2 X3 bw hA hp hpa hz h1 h2 h3 hl1 hl2 hc1 hc2 hg c1 c2
          unfold AnsL at CB
          obtain ⟨p0, p1, p2, p3⟩ := Y3.drew.cells2
          obtain ⟨q0, q1, q2, q3⟩ := Y2.drew.cells2
          by_cases h10 : R = 10
          · have HA2 : Hid (At s (pos + M) (l + 1) (1)) := by have := HA.out; rw [if_pos h10, if_pos h10] at this; exact this
            rw [if_pos h10, if_pos h10] at CB
            dsimp only at CB
            clear HA h10
            go_wp2
            go_region_with (go_at_call 48; (with_reducible refine Calls.mono (CB _) ?_); rintro e w4' ⟨rfl, b4⟩; obtain ⟨p0, p1, p2, p3⟩ := (Y3.drew.more b4).cells2; obtain ⟨q0, q1, q2, q3⟩ := (Y2.drew.more b4).cells2)
            all_goals
              go_wp2
              have hB := HB.out
              have m1 : w.heap.size ≤ w.heap.size + 1 := by omega
              have m2 : w.heap.size ≤ w.heap.size + 1 + 1 := by omega
              go_roundg (s.size - (pos + M))
              case measure => omega
              case rel => exact ⟨pos + M, l + 1, 1, l, c, by omega, iter_set (iter_set (iter_set (iter_set (iter_more (show wi.drew.heap[w.heap.size + 1 + 1 + 1]? = _ from hi2) b4) (by omega) _) (by omega) _) (by omega) _) (by omega) _, (((((Y1.drew.more b4).other (by omega) _).other (by omega) _).other (by omega) _).other (by omega) _), (((((Y2.drew.more b4).set 0 (.int .i64 l)).set 1 (.int .i64 c)).other (by omega) _).other (by omega) _), (((((Y3.drew.more b4).other (by omega) _).other (by omega) _).set 0 (.int .i64 (l + 1))).set 1 (.int .i64 (1))), (((((below_more bw2.drew b4).setCell (p := ⟨w.heap.size + 1, 0, none⟩) m1 _).setCell (p := ⟨w.heap.size + 1, 1, none⟩) m1 _).setCell (p := ⟨w.heap.size + 1 + 1, 0, none⟩) m2 _).setCell (p := ⟨w.heap.size + 1 + 1, 1, none⟩) m2 _), HA2.out, by omega, by omega, by omega, by omega, HE.out⟩
          · have HA2 : Hid (At s (pos + M) (l) (c + 1)) := by have := HA.out; rw [if_neg h10, if_neg h10] at this; exact this
            rw [if_neg h10, if_neg h10] at CB
            dsimp only at CB
            clear HA h10
            go_wp2
            go_region_with (go_at_call 48; (with_reducible refine Calls.mono (CB _) ?_); rintro e w4' ⟨rfl, b4⟩; obtain ⟨p0, p1, p2, p3⟩ := (Y3.drew.more b4).cells2; obtain ⟨q0, q1, q2, q3⟩ := (Y2.drew.more b4).cells2)
            all_goals
              go_wp2
              have hB := HB.out
              have m1 : w.heap.size ≤ w.heap.size + 1 := by omega
              have m2 : w.heap.size ≤ w.heap.size + 1 + 1 := by omega
              go_roundg (s.size - (pos + M))
              case measure => omega
              case rel => exact ⟨pos + M, l, c + 1, l, c, by omega, iter_set (iter_set (iter_set (iter_set (iter_more (show wi.drew.heap[w.heap.size + 1 + 1 + 1]? = _ from hi2) b4) (by omega) _) (by omega) _) (by omega) _) (by omega) _, (((((Y1.drew.more b4).other (by omega) _).other (by omega) _).other (by omega) _).other (by omega) _), (((((Y2.drew.more b4).set 0 (.int .i64 l)).set 1 (.int .i64 c)).other (by omega) _).other (by omega) _), (((((Y3.drew.more b4).other (by omega) _).other (by omega) _).set 0 (.int .i64 (l))).set 1 (.int .i64 (c + 1))), (((((below_more bw2.drew b4).setCell (p := ⟨w.heap.size + 1, 0, none⟩) m1 _).setCell (p := ⟨w.heap.size + 1, 1, none⟩) m1 _).setCell (p := ⟨w.heap.size + 1 + 1, 0, none⟩) m2 _).setCell (p := ⟨w.heap.size + 1 + 1, 1, none⟩) m2 _), HA2.out, by omega, by omega, by omega, by omega, HE.out⟩
      · have hnx : ∀ ty, (Instr.next (.pointer (some ⟨w.heap.size + 1 + 1 + 1, 0, none⟩)) true ty).run Tryz.prog wr = .ok (.tuple #[.bool false]) wr := fun ty => run_next_end_at wr (w.heap.size + 1 + 1 + 1) s pos ty hit (by omega)
        obtain rfl : pos = s.size := by omega
        obtain ⟨x0, x1, x2, x3⟩ := X1.cells2
        obtain ⟨y0, y1, y2, y3⟩ := X2.cells2
        obtain ⟨z0, z1, z2, z3⟩ := X3.cells2
        by_cases hpa : a = s.size
        · have e : (0 == (s.size : Int)) = true := by rw [beq_iff_eq]; omega
          have hlc : (l, c) = P := by rw [← h1, hpa]; exact (hA.last (Int.le_refl _)).symm
          subst hlc
          clear hit X1 X2 X3 hA hp hpa h1 h2 h3 hg hs hl1 hl2 hc1 hc2 c1 c2
          go_wp2
          exact bodyPost_ret (v := .agg #[.int .i64 l, .int .i64 c]) (by simp [results, Tryz.results23, go_sem, x0, x1]) rfl ⟨rfl, (bw.setCell (p := ⟨w.heap.size, 0, none⟩) (Nat.le_refl _) _).setCell (p := ⟨w.heap.size, 1, none⟩) (Nat.le_refl _) _⟩
        · have e : (0 == (s.size : Int)) = false := by rw [beq_eq_false_iff_ne]; omega
          have hlc : (l0, c0) = P := by rcases hp with hp | hp; omega; exact hp
          subst hlc
          clear hit X1 X2 X3 hA hp hpa h1 h2 h3 hg hs hl1 hl2 hc1 hc2 c1 c2
          go_wp2
          exact bodyPost_ret (v := .agg #[.int .i64 l0, .int .i64 c0]) (by simp [results, Tryz.results23, go_sem, x0, x1]) rfl ⟨rfl, (bw.setCell (p := ⟨w.heap.size, 0, none⟩) (Nat.le_refl _) _).setCell (p := ⟨w.heap.size, 1, none⟩) (Nat.le_refl _) _⟩
  · go_enter Tryz.func23, Tryz.ntmps23
    go_wp2
    generalize ((w.alloc (.cells #[.int .i64 0, .int .i64 0] 29)).alloc (.cells #[.int .i64 0, .int .i64 0] 29)).alloc (.cells #[.int .i64 1, .int .i64 1] 29) = V at *
    have hit0 := iter_new V s
    have bI := below_more bV (below_iter V s 0)
    have BI1 := B1.more (below_iter V s 0)
    have BI2 := B2.more (below_iter V s 0)
    have BI3 := B3.more (below_iter V s 0)
    rw [hV] at hit0
    clear B1 B2 B3 bV hV
    go_loopg [7] s.size (fun g _ v => ∃ (pos : Nat) (l c l0 c0 : Int), pos + g = s.size ∧ v.heap[w.heap.size + 1 + 1 + 1]? = some (.stringIter s pos) ∧ BoxC v w.heap.size #[.int .i64 0, .int .i64 0] 29 ∧ BoxC v (w.heap.size + 1) #[.int .i64 l0, .int .i64 c0] 29 ∧ BoxC v (w.heap.size + 1 + 1) #[.int .i64 l, .int .i64 c] 29 ∧ Below w.heap.size w v ∧ At s pos l c ∧ 1 ≤ l ∧ l ≤ pos + 1 ∧ 1 ≤ c ∧ c ≤ pos + 1 ∧ (pos ≤ a ∨ (l0, c0) = P))
    case atStart => exact ⟨0, 1, 1, 0, 0, by omega, hit0, BI1, BI2, BI3, bI, At.zero s, by omega, by omega, by omega, by omega, .inl (Nat.zero_le _)⟩
    case round =>
      obtain ⟨pos, l, c, l0, c0, hg, hit, X1, X2, X3, bw, hA, hl1, hl2, hc1, hc2, hp⟩ := hrel
      clear hit0 BI1 BI2 BI3 bI
      obtain ⟨h1, h2, h3⟩ := HP.out
      rcases Nat.lt_or_ge pos s.size with hs | hs
      · have hnx : ∀ ty, (Instr.next (.pointer (some ⟨w.heap.size + 1 + 1 + 1, 0, none⟩)) true ty).run Tryz.prog wr = .ok (.tuple #[.bool true, .int .i64 pos, .int .i32 (nextR s pos)]) (wr.iterAt (w.heap.size + 1 + 1 + 1) s (pos + nextN s pos)) := fun ty => run_next_any_at wr (w.heap.size + 1 + 1 + 1) s pos ty hit hs
        have hi2 := iterAt_heap wr (w.heap.size + 1 + 1 + 1) s pos (pos + nextN s pos) hit
        have bw2 := below_iterAt bw (show w.heap.size ≤ w.heap.size + 1 + 1 + 1 by omega) s (pos + nextN s pos)
        have Y1 := X1.iterAt (g := w.heap.size + 1 + 1 + 1) s (pos + nextN s pos) (by omega)
        have Y2 := X2.iterAt (g := w.heap.size + 1 + 1 + 1) s (pos + nextN s pos) (by omega)
        have Y3 := X3.iterAt (g := w.heap.size + 1 + 1 + 1) s (pos + nextN s pos) (by omega)
        have hz := next_size hs
        by_cases hpa : a < pos
        · have hpa' : (a : Int) < (pos : Int) := by omega
          have hlc : (l0, c0) = P := by rcases hp with hp | hp; omega; exact hp
          subst hlc
          obtain ⟨x0, x1, x2, x3⟩ := Y1.cells2
          obtain ⟨y0, y1, y2, y3⟩ := Y2.cells2
          generalize wr.iterAt (w.heap.size + 1 + 1 + 1) s (pos + nextN s pos) = wi at *
          clear hit X1 X2 X3 bw hA hp hpa Y1 Y2 Y3 hi2 hz h1 h2 h3 c1 c2
          go_wp2
          exact bodyPost_ret (v := .agg #[.int .i64 l0, .int .i64 c0]) (by simp [results, Tryz.results23, go_sem, x0, x1]) rfl ⟨rfl, (bw2.setCell (p := ⟨w.heap.size, 0, none⟩) (Nat.le_refl _) _).setCell (p := ⟨w.heap.size, 1, none⟩) (Nat.le_refl _) _⟩
        · have hpa' : ¬ (a : Int) < (pos : Int) := by omega
          have HA : Hid (At s (pos + nextN s pos) (if nextR s pos = 10 then l + 1 else l) (if nextR s pos = 10 then 1 else c + 1)) := hA.next hs
          have HE : Hid (pos + nextN s pos ≤ a ∨ (l, c) = P) := by
            rcases Nat.lt_or_ge a (pos + nextN s pos) with q | q
            · exact .inr ((hA.here (at_ := (a : Int)) (by omega) (by omega) hs).symm.trans h1)
            · exact .inl q
          have HB : Hid (pos + gk = s.size ∧ pos + nextN s pos ≤ s.size ∧ 1 ≤ nextN s pos ∧ nextN s pos ≤ 4 ∧ 1 ≤ l ∧ l ≤ pos + 1 ∧ 1 ≤ c ∧ c ≤ pos + 1) := ⟨hg, hz.2.2, hz.1, hz.2.1, hl1, hl2, hc1, hc2⟩
          have CB := fun v => sign_behind l c (nextR s pos) (by omega) (by omega) (by omega) (by omega) v
          generalize wr.iterAt (w.heap.size + 1 + 1 + 1) s (pos + nextN s pos) = wi at *
          generalize nextR s pos = R at *
          generalize nextN s pos = M at *
          clear hit X1 X2 X3 bw hA hp hpa hz h1 h2 h3 hl1 hl2 hc1 hc2 hg c1 c2
          unfold AnsL at CB
          obtain ⟨p0, p1, p2, p3⟩ := Y3.drew.cells2
          obtain ⟨q0, q1, q2, q3⟩ := Y2.drew.cells2
          by_cases h10 : R = 10
          · have HA2 : Hid (At s (pos + M) (l + 1) (1)) := by have := HA.out; rw [if_pos h10, if_pos h10] at this; exact this
            rw [if_pos h10, if_pos h10] at CB
            dsimp only at CB
            clear HA h10
            go_wp2
            go_region_with (go_at_call 48; (with_reducible refine Calls.mono (CB _) ?_); rintro e w4' ⟨rfl, b4⟩; obtain ⟨p0, p1, p2, p3⟩ := (Y3.drew.more b4).cells2; obtain ⟨q0, q1, q2, q3⟩ := (Y2.drew.more b4).cells2)
            all_goals
              go_wp2
              have hB := HB.out
              have m1 : w.heap.size ≤ w.heap.size + 1 := by omega
              have m2 : w.heap.size ≤ w.heap.size + 1 + 1 := by omega
              go_roundg (s.size - (pos + M))
              case measure => omega
              case rel => exact ⟨pos + M, l + 1, 1, l, c, by omega, iter_set (iter_set (iter_set (iter_set (iter_more (show wi.drew.heap[w.heap.size + 1 + 1 + 1]? = _ from hi2) b4) (by omega) _) (by omega) _) (by omega) _) (by omega) _, (((((Y1.drew.more b4).other (by omega) _).other (by omega) _).other (by omega) _).other (by omega) _), (((((Y2.drew.more b4).set 0 (.int .i64 l)).set 1 (.int .i64 c)).other (by omega) _).other (by omega) _), (((((Y3.drew.more b4).other (by omega) _).other (by omega) _).set 0 (.int .i64 (l + 1))).set 1 (.int .i64 (1))), (((((below_more bw2.drew b4).setCell (p := ⟨w.heap.size + 1, 0, none⟩) m1 _).setCell (p := ⟨w.heap.size + 1, 1, none⟩) m1 _).setCell (p := ⟨w.heap.size + 1 + 1, 0, none⟩) m2 _).setCell (p := ⟨w.heap.size + 1 + 1, 1, none⟩) m2 _), HA2.out, by omega, by omega, by omega, by omega, HE.out⟩
          · have HA2 : Hid (At s (pos + M) (l) (c + 1)) := by have := HA.out; rw [if_neg h10, if_neg h10] at this; exact this
            rw [if_neg h10, if_neg h10] at CB
            dsimp only at CB
            clear HA h10
            go_wp2
            go_region_with (go_at_call 48; (with_reducible refine Calls.mono (CB _) ?_); rintro e w4' ⟨rfl, b4⟩; obtain ⟨p0, p1, p2, p3⟩ := (Y3.drew.more b4).cells2; obtain ⟨q0, q1, q2, q3⟩ := (Y2.drew.more b4).cells2)
            all_goals
              go_wp2
              have hB := HB.out
              have m1 : w.heap.size ≤ w.heap.size + 1 := by omega
              have m2 : w.heap.size ≤ w.heap.size + 1 + 1 := by omega
              go_roundg (s.size - (pos + M))
              case measure => omega
              case rel => exact ⟨pos + M, l, c + 1, l, c, by omega, iter_set (iter_set (iter_set (iter_set (iter_more (show wi.drew.heap[w.heap.size + 1 + 1 + 1]? = _ from hi2) b4) (by omega) _) (by omega) _) (by omega) _) (by omega) _, (((((Y1.drew.more b4).other (by omega) _).other (by omega) _).other (by omega) _).other (by omega) _), (((((Y2.drew.more b4).set 0 (.int .i64 l)).set 1 (.int .i64 c)).other (by omega) _).other (by omega) _), (((((Y3.drew.more b4).other (by omega) _).other (by omega) _).set 0 (.int .i64 (l))).set 1 (.int .i64 (c + 1))), (((((below_more bw2.drew b4).setCell (p := ⟨w.heap.size + 1, 0, none⟩) m1 _).setCell (p := ⟨w.heap.size + 1, 1, none⟩) m1 _).setCell (p := ⟨w.heap.size + 1 + 1, 0, none⟩) m2 _).setCell (p := ⟨w.heap.size + 1 + 1, 1, none⟩) m2 _), HA2.out, by omega, by omega, by omega, by omega, HE.out⟩
      · have hnx : ∀ ty, (Instr.next (.pointer (some ⟨w.heap.size + 1 + 1 + 1, 0, none⟩)) true ty).run Tryz.prog wr = .ok (.tuple #[.bool false]) wr := fun ty => run_next_end_at wr (w.heap.size + 1 + 1 + 1) s pos ty hit (by omega)
        obtain rfl : pos = s.size := by omega
        obtain ⟨x0, x1, x2, x3⟩ := X1.cells2
        obtain ⟨y0, y1, y2, y3⟩ := X2.cells2
        obtain ⟨z0, z1, z2, z3⟩ := X3.cells2
        by_cases hpa : a = s.size
        · have e : ((a : Int) == (s.size : Int)) = true := by rw [beq_iff_eq]; omega
          have hlc : (l, c) = P := by rw [← h1, hpa]; exact (hA.last (Int.le_refl _)).symm
          subst hlc
          clear hit X1 X2 X3 hA hp hpa h1 h2 h3 hg hs hl1 hl2 hc1 hc2 c1 c2
          go_wp2
          exact bodyPost_ret (v := .agg #[.int .i64 l, .int .i64 c]) (by simp [results, Tryz.results23, go_sem, x0, x1]) rfl ⟨rfl, (bw.setCell (p := ⟨w.heap.size, 0, none⟩) (Nat.le_refl _) _).setCell (p := ⟨w.heap.size, 1, none⟩) (Nat.le_refl _) _⟩
        · have e : ((a : Int) == (s.size : Int)) = false := by rw [beq_eq_false_iff_ne]; omega
          have hlc : (l0, c0) = P := by rcases hp with hp | hp; omega; exact hp
          subst hlc
          clear hit X1 X2 X3 hA hp hpa h1 h2 h3 hg hs hl1 hl2 hc1 hc2 c1 c2
          go_wp2
          exact bodyPost_ret (v := .agg #[.int .i64 l0, .int .i64 c0]) (by simp [results, Tryz.results23, go_sem, x0, x1]) rfl ⟨rfl, (bw.setCell (p := ⟨w.heap.size, 0, none⟩) (Nat.le_refl _) _).setCell (p := ⟨w.heap.size, 1, none⟩) (Nat.le_refl _) _⟩
  · go_enter Tryz.func23, Tryz.ntmps23
    go_wp2
    generalize ((w.alloc (.cells #[.int .i64 0, .int .i64 0] 29)).alloc (.cells #[.int .i64 0, .int .i64 0] 29)).alloc (.cells #[.int .i64 1, .int .i64 1] 29) = V at *
    have hit0 := iter_new V s
    have bI := below_more bV (below_iter V s 0)
    have BI1 := B1.more (below_iter V s 0)
    have BI2 := B2.more (below_iter V s 0)
    have BI3 := B3.more (below_iter V s 0)
    rw [hV] at hit0
    clear B1 B2 B3 bV hV
    go_loopg [7] s.size (fun g _ v => ∃ (pos : Nat) (l c l0 c0 : Int), pos + g = s.size ∧ v.heap[w.heap.size + 1 + 1 + 1]? = some (.stringIter s pos) ∧ BoxC v w.heap.size #[.int .i64 0, .int .i64 0] 29 ∧ BoxC v (w.heap.size + 1) #[.int .i64 l0, .int .i64 c0] 29 ∧ BoxC v (w.heap.size + 1 + 1) #[.int .i64 l, .int .i64 c] 29 ∧ Below w.heap.size w v ∧ At s pos l c ∧ 1 ≤ l ∧ l ≤ pos + 1 ∧ 1 ≤ c ∧ c ≤ pos + 1 ∧ (pos ≤ a ∨ (l0, c0) = P))
    case atStart => exact ⟨0, 1, 1, 0, 0, by omega, hit0, BI1, BI2, BI3, bI, At.zero s, by omega, by omega, by omega, by omega, .inl (Nat.zero_le _)⟩
    case round =>
      obtain ⟨pos, l, c, l0, c0, hg, hit, X1, X2, X3, bw, hA, hl1, hl2, hc1, hc2, hp⟩ := hrel
      clear hit0 BI1 BI2 BI3 bI
      obtain ⟨h1, h2, h3⟩ := HP.out
      rcases Nat.lt_or_ge pos s.size with hs | hs
      · have hnx : ∀ ty, (Instr.next (.pointer (some ⟨w.heap.size + 1 + 1 + 1, 0, none⟩)) true ty).run Tryz.prog wr = .ok (.tuple #[.bool true, .int .i64 pos, .int .i32 (nextR s pos)]) (wr.iterAt (w.heap.size + 1 + 1 + 1) s (pos + nextN s pos)) := fun ty => run_next_any_at wr (w.heap.size + 1 + 1 + 1) s pos ty hit hs
        have hi2 := iterAt_heap wr (w.heap.size + 1 + 1 + 1) s pos (pos + nextN s pos) hit
        have bw2 := below_iterAt bw (show w.heap.size ≤ w.heap.size + 1 + 1 + 1 by omega) s (pos + nextN s pos)
        have Y1 := X1.iterAt (g := w.heap.size + 1 + 1 + 1) s (pos + nextN s pos) (by omega)
        have Y2 := X2.iterAt (g := w.heap.size + 1 + 1 + 1) s (pos + nextN s pos) (by omega)
        have Y3 := X3.iterAt (g := w.heap.size + 1 + 1 + 1) s (pos + nextN s pos) (by omega)
        have hz := next_size hs
        by_cases hpa : a < pos
        · exact absurd hpa (by omega)
        · have hpa' : ¬ (s.size : Int) < (pos : Int) := by omega
          have HA : Hid (At s (pos + nextN s pos) (if nextR s pos = 10 then l + 1 else l) (if nextR s pos = 10 then 1 else c + 1)) := hA.next hs
          have HE : Hid (pos + nextN s pos ≤ a ∨ (l, c) = P) := by
            rcases Nat.lt_or_ge a (pos + nextN s pos) with q | q
            · exact .inr ((hA.here (at_ := (a : Int)) (by omega) (by omega) hs).symm.trans h1)
            · exact .inl q
          have HB : Hid (pos + gk = s.size ∧ pos + nextN s pos ≤ s.size ∧ 1 ≤ nextN s pos ∧ nextN s pos ≤ 4 ∧ 1 ≤ l ∧ l ≤ pos + 1 ∧ 1 ≤ c ∧ c ≤ pos + 1) := ⟨hg, hz.2.2, hz.1, hz.2.1, hl1, hl2, hc1, hc2⟩
          have CB := fun v => sign_behind l c (nextR s pos) (by omega) (by omega) (by omega) (by omega) v
          generalize wr.iterAt (w.heap.size + 1 + 1 + 1) s (pos + nextN s pos) = wi at *
          generalize nextR s pos = R at *
          generalize nextN s pos = M at *
          clear hit X1 X2 X3 bw hA hp hpa hz h1 h2 h3 hl1 hl2 hc1 hc2 hg c1 c2
          unfold AnsL at CB
          obtain ⟨p0, p1, p2, p3⟩ := Y3.drew.cells2
          obtain ⟨q0, q1, q2, q3⟩ := Y2.drew.cells2
          by_cases h10 : R = 10
          · have HA2 : Hid (At s (pos + M) (l + 1) (1)) := by have := HA.out; rw [if_pos h10, if_pos h10] at this; exact this
            rw [if_pos h10, if_pos h10] at CB
            dsimp only at CB
            clear HA h10
            go_wp2
            go_region_with (go_at_call 48; (with_reducible refine Calls.mono (CB _) ?_); rintro e w4' ⟨rfl, b4⟩; obtain ⟨p0, p1, p2, p3⟩ := (Y3.drew.more b4).cells2; obtain ⟨q0, q1, q2, q3⟩ := (Y2.drew.more b4).cells2)
            all_goals
              go_wp2
              have hB := HB.out
              have m1 : w.heap.size ≤ w.heap.size + 1 := by omega
              have m2 : w.heap.size ≤ w.heap.size + 1 + 1 := by omega
              go_roundg (s.size - (pos + M))
              case measure => omega
              case rel => exact ⟨pos + M, l + 1, 1, l, c, by omega, iter_set (iter_set (iter_set (iter_set (iter_more (show wi.drew.heap[w.heap.size + 1 + 1 + 1]? = _ from hi2) b4) (by omega) _) (by omega) _) (by omega) _) (by omega) _, (((((Y1.drew.more b4).other (by omega) _).other (by omega) _).other (by omega) _).other (by omega) _), (((((Y2.drew.more b4).set 0 (.int .i64 l)).set 1 (.int .i64 c)).other (by omega) _).other (by omega) _), (((((Y3.drew.more b4).other (by omega) _).other (by omega) _).set 0 (.int .i64 (l + 1))).set 1 (.int .i64 (1))), (((((below_more bw2.drew b4).setCell (p := ⟨w.heap.size + 1, 0, none⟩) m1 _).setCell (p := ⟨w.heap.size + 1, 1, none⟩) m1 _).setCell (p := ⟨w.heap.size + 1 + 1, 0, none⟩) m2 _).setCell (p := ⟨w.heap.size + 1 + 1, 1, none⟩) m2 _), HA2.out, by omega, by omega, by omega, by omega, HE.out⟩
          · have HA2 : Hid (At s (pos + M) (l) (c + 1)) := by have := HA.out; rw [if_neg h10, if_neg h10] at this; exact this
            rw [if_neg h10, if_neg h10] at CB
            dsimp only at CB
            clear HA h10
            go_wp2
            go_region_with (go_at_call 48; (with_reducible refine Calls.mono (CB _) ?_); rintro e w4' ⟨rfl, b4⟩; obtain ⟨p0, p1, p2, p3⟩ := (Y3.drew.more b4).cells2; obtain ⟨q0, q1, q2, q3⟩ := (Y2.drew.more b4).cells2)
            all_goals
              go_wp2
              have hB := HB.out
              have m1 : w.heap.size ≤ w.heap.size + 1 := by omega
              have m2 : w.heap.size ≤ w.heap.size + 1 + 1 := by omega
              go_roundg (s.size - (pos + M))
              case measure => omega
              case rel => exact ⟨pos + M, l, c + 1, l, c, by omega, iter_set (iter_set (iter_set (iter_set (iter_more (show wi.drew.heap[w.heap.size + 1 + 1 + 1]? = _ from hi2) b4) (by omega) _) (by omega) _) (by omega) _) (by omega) _, (((((Y1.drew.more b4).other (by omega) _).other (by omega) _).other (by omega) _).other (by omega) _), (((((Y2.drew.more b4).set 0 (.int .i64 l)).set 1 (.int .i64 c)).other (by omega) _).other (by omega) _), (((((Y3.drew.more b4).other (by omega) _).other (by omega) _).set 0 (.int .i64 (l))).set 1 (.int .i64 (c + 1))), (((((below_more bw2.drew b4).setCell (p := ⟨w.heap.size + 1, 0, none⟩) m1 _).setCell (p := ⟨w.heap.size + 1, 1, none⟩) m1 _).setCell (p := ⟨w.heap.size + 1 + 1, 0, none⟩) m2 _).setCell (p := ⟨w.heap.size + 1 + 1, 1, none⟩) m2 _), HA2.out, by omega, by omega, by omega, by omega, HE.out⟩
      · have hnx : ∀ ty, (Instr.next (.pointer (some ⟨w.heap.size + 1 + 1 + 1, 0, none⟩)) true ty).run Tryz.prog wr = .ok (.tuple #[.bool false]) wr := fun ty => run_next_end_at wr (w.heap.size + 1 + 1 + 1) s pos ty hit (by omega)
        obtain rfl : pos = s.size := by omega
        obtain ⟨x0, x1, x2, x3⟩ := X1.cells2
        obtain ⟨y0, y1, y2, y3⟩ := X2.cells2
        obtain ⟨z0, z1, z2, z3⟩ := X3.cells2
        by_cases hpa : a = s.size
        · have e : ((s.size : Int) == (s.size : Int)) = true := by rw [beq_iff_eq]
          have hlc : (l, c) = P := by rw [← h1, hpa]; exact (hA.last (Int.le_refl _)).symm
          subst hlc
          clear hit X1 X2 X3 hA hp hpa h1 h2 h3 hg hs hl1 hl2 hc1 hc2 c1 c2
          go_wp2
          exact bodyPost_ret (v := .agg #[.int .i64 l, .int .i64 c]) (by simp [results, Tryz.results23, go_sem, x0, x1]) rfl ⟨rfl, (bw.setCell (p := ⟨w.heap.size, 0, none⟩) (Nat.le_refl _) _).setCell (p := ⟨w.heap.size, 1, none⟩) (Nat.le_refl _) _⟩
        · exact absurd c3 hpa
end Go.Proofs.YtbcfplaalepnbaaGreatDoor
namespace Go.Proofs.YtbcfplaalepnbaaGreatDoor
open Go.Lib
structure Makes (num : ByteArray → Bool × Nat × Nat) (L : List Tok) (Q : Nd → Prop) : Prop where
  ref : ∀ x, nameB x = true → Q ⟨0, 0, 0, 0, x, (false, 0, 0)⟩
  const : ∀ t ∈ L, t.1 = 1 → Q ⟨1, 0, 0, 0, noText, num t.2.1⟩
  two : ∀ k a b, 2 ≤ k → k ≤ 5 → Q ⟨k, a, b, 0, noText, (false, 0, 0)⟩
  neg : ∀ a, Q ⟨6, a, 0, 0, noText, (false, 0, 0)⟩
  pow : ∀ a fac, ∀ t ∈ L, t.1 = 1 → 0 ≤ expI t.2.1 → (fac = 1 ∨ fac = -1) → Q ⟨7, a, 0, fac * expI t.2.1, noText, (false, 0, 0)⟩
theorem node_all {Q : Nd → Prop} {r : Rd} {n : Nd} (h : ∀ x ∈ r.all, Q x) (hn : Q n) : ∀ x ∈ (r.node n).2.all, Q x := by
  intro x hx
  rcases List.mem_append.1 (show x ∈ r.all ++ [n] from hx) with hx | hx
  · exact h x hx
  · obtain rfl := List.mem_singleton.1 hx; exact hn
theorem powE_fields {num : ByteArray → Bool × Nat × Nat} {L : List Tok} {Q : Nd → Prop} (M : Makes num L Q) {r : Rd} {a fac : Int} (hf : fac = 1 ∨ fac = -1) (h : ∀ x ∈ r.all, Q x) : ∀ x ∈ (r.powE L a fac).2.all, Q x := by
  unfold Rd.powE
  split
  · exact h
  · split
    · exact h
    · rename_i t ht
      split
      · exact h
      · rename_i h1
        split
        · exact h
        · rename_i h2
          exact node_all (r := r.skip) h (M.pow a fac t (List.mem_of_getElem? ht) (Decidable.not_not.1 h1) (by omega) hf)
theorem powT_fields {num : ByteArray → Bool × Nat × Nat} {L : List Tok} {Q : Nd → Prop} (M : Makes num L Q) {r : Rd} {a : Int} (h : ∀ x ∈ r.all, Q x) : ∀ x ∈ (r.powT L a).2.all, Q x := by
  unfold Rd.powT
  split
  · split
    · exact powE_fields M (r := r.skip.skip) (.inr rfl) h
    · exact powE_fields M (r := r.skip) (.inl rfl) h
  · exact h
theorem leaf_fields {num : ByteArray → Bool × Nat × Nat} {L : List Tok} {Q : Nd → Prop} (M : Makes num L Q) {r : Rd} (h : ∀ x ∈ r.all, Q x) (hb : (r.leaf num L).2.bad = false) : ∀ x ∈ (r.leaf num L).2.all, Q x := by
  have nm : (r.nameT L).2.bad = false → ∀ x ∈ ((r.nameT L).2.node ⟨0, 0, 0, 0, (r.nameT L).1, (false, 0, 0)⟩).2.all, Q x := fun hn => node_all (by rw [name_all]; exact h) (M.ref _ (name_good hn).1)
  unfold Rd.leaf at hb ⊢
  by_cases h0 : r.bad = true
  · rw [if_pos h0] at hb ⊢
    exact nm hb
  · rw [if_neg h0] at hb ⊢
    split at hb
    · rename_i t ht
      split at hb
      · rename_i h1
        rw [if_pos h1]
        exact node_all (r := r.skip) h (M.const t (List.mem_of_getElem? ht) h1)
      · rename_i h1
        rw [if_neg h1]
        exact nm hb
    · exact nm hb
theorem expr_fields {num : ByteArray → Bool × Nat × Nat} {L : List Tok} {Q : Nd → Prop} (M : Makes num L Q) : ∀ (f m : Nat) (a : Int) (r : Rd), (∀ x ∈ r.all, Q x) → (exprF num L f m a r).2.bad = false → ∀ x ∈ (exprF num L f m a r).2.all, Q x := by
  intro f
  induction f with
  | zero => intro m a r h _; exact h
  | succ f ih =>
    intro m a r h hb
    match m with
    | 0 =>
      unfold exprF at hb ⊢
      exact ih _ _ _ (ih _ _ _ h (Rd.good_of (on_expr num L f _ _ _) hb)) hb
    | 1 =>
      unfold exprF at hb ⊢
      split at hb
      · rename_i h1
        rw [if_pos h1]
        have g := Rd.good_of (on_expr num L f _ _ _) hb
        exact ih _ _ _ (node_all (ih 2 0 r.skip h g) (M.two _ _ _ (by split <;> omega) (by split <;> omega))) hb
      · rename_i h1
        rw [if_neg h1]; exact h
    | 2 =>
      unfold exprF at hb ⊢
      exact ih _ _ _ (ih _ _ _ h (Rd.good_of (on_expr num L f _ _ _) hb)) hb
    | 3 =>
      unfold exprF at hb ⊢
      split at hb
      · rename_i h1
        rw [if_pos h1]
        have g := Rd.good_of (on_expr num L f _ _ _) hb
        exact ih _ _ _ (node_all (ih 4 0 r.skip h g) (M.two _ _ _ (by split <;> omega) (by split <;> omega))) hb
      · rename_i h1
        rw [if_neg h1]; exact h
    | 4 =>
      unfold exprF at hb ⊢
      split at hb
      · rename_i h1
        rw [if_pos h1]
        exact node_all (ih 4 0 r.skip h hb) (M.neg _)
      · rename_i h1
        rw [if_neg h1]; exact ih _ _ _ h hb
    | 5 =>
      unfold exprF at hb ⊢
      exact powT_fields M (ih _ _ _ h (Rd.good_of (Rd.on_powT _ _ _) hb))
    | m + 6 =>
      unfold exprF at hb ⊢
      split at hb
      · rename_i h1
        rw [if_pos h1]
        dsimp only at hb ⊢
        rw [want_all]
        exact ih 0 0 r.skip h (Rd.good_of (Rd.on_want _ _ _ _) hb)
      · rename_i h1
        rw [if_neg h1]; exact leaf_fields M h hb
theorem let_fields {num : ByteArray → Bool × Nat × Nat} {L : List Tok} {Q : Nd → Prop} (M : Makes num L Q) {r : Rd} (h : ∀ x ∈ r.all, Q x) (hb : (oneLet num L r).2.bad = false) : ∀ x ∈ (oneLet num L r).2.all, Q x := by
  unfold oneLet at hb ⊢
  dsimp only at hb ⊢
  rw [want_all]
  exact expr_fields M _ 0 0 _ (by rw [want_all, name_all]; exact h) (Rd.good_of (Rd.on_want _ _ _ _) hb)
theorem lets_fields {num : ByteArray → Bool × Nat × Nat} {L : List Tok} {Q : Nd → Prop} (M : Makes num L Q) : ∀ (f : Nat) (out : List (ByteArray × Int)) (r : Rd), (∀ x ∈ r.all, Q x) → (letsF num L f out r).2.bad = false → ∀ x ∈ (letsF num L f out r).2.all, Q x := by
  intro f
  induction f with
  | zero => intro out r h _; exact h
  | succ f ih =>
    intro out r h hb
    unfold letsF at hb ⊢
    split at hb
    · rename_i h1
      rw [if_pos h1]
      exact ih _ _ (let_fields M (r := r.skip) h (Rd.good_of (on_lets num L f _ _) hb)) hb
    · rename_i h1
      rw [if_neg h1]; exact h
theorem prog_fields {num : ByteArray → Bool × Nat × Nat} {L : List Tok} {Q : Nd → Prop} (M : Makes num L Q) (h : (progI num L).2.bad = false) : ∀ x ∈ (progI num L).1.all, Q x := by
  have h1 : (outsI num L).2.bad = false := by
    unfold progI at h
    dsimp only at h
    split at h
    · exact absurd h (by simp [Rd.wrong])
    · exact h
  have o2 := on_names L ((letsI num L).2.want L 0 [111, 117, 116])
  have h3 := Rd.good_of (Rd.on_want L _ _ _) (Rd.good_of o2.1 h1)
  show ∀ x ∈ (outsI num L).2.all, Q x
  have ha : (outsI num L).2.all = (letsI num L).2.all := by
    show (namesI L ((letsI num L).2.want L 0 [111, 117, 116])).2.all = _
    rw [o2.2, want_all]
  rw [ha]
  refine lets_fields M _ _ _ (fun x hx => ?_) h3
  have hi : (insI L).2.all = [] := by
    show (namesI L (startR.want L 0 [105, 110])).2.all = _
    rw [(on_names L _).2, want_all]; rfl
  rw [hi] at hx
  exact absurd hx (by simp)
end Go.Proofs.YtbcfplaalepnbaaGreatDoor
namespace Go.Proofs.YtbcfplaalepnbaaGreatDoor
open Go.RowKit Go.Lib
def parseI (s : ByteArray) : Pg × (Int × Int) × Int :=
  if (lexI s).2.2 ≠ 0 then (noPg, (lexI s).2.1, (lexI s).2.2)
  else if (progI numT (lexI s).1).2.bad = true then
    (match (lexI s).1[(progI numT (lexI s).1).2.pos]? with
     | some t => (noPg, (t.2.2.1, t.2.2.2), 5)
     | none => (noPg, placeI s s.size, 5))
  else if lngB (progI numT (lexI s).1).1.all (progI numT (lexI s).1).1.ins.length (progI numT (lexI s).1).1.lets.length (progI numT (lexI s).1).1.outs.length = true then (noPg, (1, 1), 4)
  else ((progI numT (lexI s).1).1, (0, 0), 0)
def IsPg (w : World) (i l o a : Value) (p : Pg) : Prop := ∃ ia ic ta tc oa oc aa ac ms, i = .slice ia p.ins.length ic ∧ l = .slice ta p.lets.length tc ∧ o = .slice oa p.outs.length oc ∧ a = .slice aa p.all.length ac ∧
  IsC 1 w ia p.ins.length (flat encS p.ins) ∧ IsC 2 w ta p.lets.length (flat encL p.lets) ∧ IsC 1 w oa p.outs.length (flat encS p.outs) ∧ IsN w aa p.all.length ms ∧ ms.map (·.1) = p.all.map rawOf ∧ (∀ m ∈ ms, (∃ x y, m.2.1 = .slice x m.1.xs.length y ∧ IsWords w m.2.1 m.1.xs) ∧ ∃ x y, m.2.2 = .slice x m.1.ys.length y ∧ IsWords w m.2.2 m.1.ys) ∧ p.all.length ≤ ac
theorem isPg_no (w : World) : IsPg w (.slice none 0 0) (.slice none 0 0) (.slice none 0 0) (.slice none 0 0) noPg :=
  ⟨none, 0, none, 0, none, 0, none, 0, [], rfl, rfl, rfl, rfl, IsC.nil 1 w none, IsC.nil 2 w none, IsC.nil 1 w none, ⟨rfl, .inl rfl⟩, rfl, fun m hm => absurd hm (by simp), Nat.le_refl 0⟩
def AnsPG (W : World) (q : Pg × (Int × Int) × Int) (e : Ending) (w' : World) : Prop :=
  ∃ i l o a, e = .returned (.tuple #[.agg #[i, l, o, a], .agg #[.int .i64 q.2.1.1, .int .i64 q.2.1.2], .int .i64 q.2.2]) ∧ IsPg w' i l o a q.1 ∧ Below W.heap.size W w'
theorem ansPG_no {W w' : World} {l c E : Int} (h : Below W.heap.size W w') : AnsPG W (noPg, (l, c), E) (.returned (.tuple #[.agg #[.slice none 0 0, .slice none 0 0, .slice none 0 0, .slice none 0 0], .agg #[.int .i64 l, .int .i64 c], .int .i64 E])) w' := ⟨_, _, _, _, rfl, isPg_no w', h⟩
theorem pg_store {w V : World} {A : Nat} {i0 i1 i2 i3 j0 j1 : Value} {P Q : TypeId} (D1 : BoxC V A #[i0, i1, i2, i3] P) (D2 : BoxC V (A + 1) #[j0, j1] Q) (hA : w.heap.size ≤ A) (hb : Below w.heap.size w V) (x0 x1 x2 x3 y0 y1 : Value) :
    ∃ F, (((((V.setCell ⟨A, 0, none⟩ x0).setCell ⟨A, 1, none⟩ x1).setCell ⟨A, 2, none⟩ x2).setCell ⟨A, 3, none⟩ x3).setCell ⟨A + 1, 0, none⟩ y0).setCell ⟨A + 1, 1, none⟩ y1 = F ∧ F.cell? ⟨A, 0, none⟩ = some x0 ∧ F.cell? ⟨A, 1, none⟩ = some x1 ∧ F.cell? ⟨A, 2, none⟩ = some x2 ∧ F.cell? ⟨A, 3, none⟩ = some x3 ∧ F.cell? ⟨A + 1, 0, none⟩ = some y0 ∧ F.cell? ⟨A + 1, 1, none⟩ = some y1 ∧ Below w.heap.size w F ∧ Keep (fun T => T = P ∨ T = Q) V F := by
  have E1 : BoxC ((((V.setCell ⟨A, 0, none⟩ x0).setCell ⟨A, 1, none⟩ x1).setCell ⟨A, 2, none⟩ x2).setCell ⟨A, 3, none⟩ x3) A #[x0, x1, x2, x3] P := (((D1.set 0 x0).set 1 x1).set 2 x2).set 3 x3
  have E2 : BoxC ((((V.setCell ⟨A, 0, none⟩ x0).setCell ⟨A, 1, none⟩ x1).setCell ⟨A, 2, none⟩ x2).setCell ⟨A, 3, none⟩ x3) (A + 1) #[j0, j1] Q := (((D2.other (by omega) x0).other (by omega) x1).other (by omega) x2).other (by omega) x3
  have k1 := ((((Keep.refl (fun T => T = P ∨ T = Q) V).set D1 (.inl rfl) 0 x0).set (D1.set 0 x0) (.inl rfl) 1 x1).set ((D1.set 0 x0).set 1 x1) (.inl rfl) 2 x2).set (((D1.set 0 x0).set 1 x1).set 2 x2) (.inl rfl) 3 x3
  have k2 := (k1.set E2 (.inr rfl) 0 y0).set (E2.set 0 y0) (.inr rfl) 1 y1
  have bb := (((((hb.setCell (p := ⟨A, 0, none⟩) hA x0).setCell (p := ⟨A, 1, none⟩) hA x1).setCell (p := ⟨A, 2, none⟩) hA x2).setCell (p := ⟨A, 3, none⟩) hA x3).setCell (p := ⟨A + 1, 0, none⟩) (Nat.le_succ_of_le hA) y0).setCell (p := ⟨A + 1, 1, none⟩) (Nat.le_succ_of_le hA) y1
  have G1 := (E1.other (g := A + 1) (i := 0) (by omega) y0).other (g := A + 1) (i := 1) (by omega) y1
  have G2 := (E2.set 0 y0).set 1 y1
  exact ⟨_, rfl, (G1.cell 0).1, (G1.cell 1).1, (G1.cell 2).1, (G1.cell 3).1, (G2.cell 0).1, (G2.cell 1).1, bb, k2⟩
theorem cnt_lets (L : List Tok) : ∀ (f : Nat) (ls : List (ByteArray × Int)) (q : Rd), cnt L (letsF numT L f ls q).2 ≤ cnt L q := by
  intro f
  induction f with
  | zero => intro ls q; exact Nat.le_refl _
  | succ f ih =>
    intro ls q
    unfold letsF
    split
    · rename_i h
      have h1 := cnt_let L q.skip
      have h2 := cnt_skip (q.is_in h).2
      have h3 := ih (ls ++ [(oneLet numT L q.skip).1]) (oneLet numT L q.skip).2
      omega
    · exact Nat.le_refl _
theorem prog_all (L : List Tok) : (progI numT L).2.all = (progI numT L).1.all ∧ (progI numT L).1.all.length ≤ 2 * L.length := by
  refine ⟨?_, ?_⟩
  · unfold progI
    dsimp only
    split <;> rfl
  · show (outsI numT L).2.all.length ≤ _
    have h1 := (on_names L ((letsI numT L).2.want L 0 [111, 117, 116])).2
    rw [show (outsI numT L).2.all = (letsI numT L).2.all from h1.trans (want_all _ _ _ _)]
    have h2 := cnt_all (n := 2 * L.length) (L := L) (r := (letsI numT L).2) (by
      refine Nat.le_trans (cnt_lets L _ _ _) ?_
      have e1 := (on_names L (startR.want L 0 [105, 110])).2
      rw [want_all] at e1
      show (insI L).2.all.length + 2 * (L.length - (insI L).2.pos) ≤ _
      rw [show (insI L).2.all = startR.all from e1]
      show 0 + _ ≤ _
      omega)
    exact h2
theorem nd_map {ms : List Mn} {l : List Nd} (h : ms.map (·.1) = l.map rawOf) : (ms.map fun m => m.1.nd) = l := by
  have e : (ms.map fun m => m.1.nd) = (ms.map (·.1)).map Nw.nd := by rw [List.map_map]; rfl
  rw [e, h, List.map_map]
  have : (Nw.nd ∘ rawOf) = id := by funext n; exact nd_raw n
  rw [this, List.map_id]
theorem Own.sl {W w : World} {v : Value} {n : Nat} {xs : List Int} (h : Own W w v n xs) : ∃ x y z, v = .slice x y z := by
  obtain ⟨a, c, rfl⟩ := h.lit
  exact ⟨_, _, _, rfl⟩
end Go.Proofs.YtbcfplaalepnbaaGreatDoor
namespace Go.Proofs.YtbcfplaalepnbaaGreatDoor
open Go.RowKit Go.Lib
theorem prog_kinds {L : List Tok} (h : (progI numT L).2.bad = false) : ∀ x ∈ (progI numT L).1.all, 0 ≤ x.kind ∧ x.kind ≤ 7 := by
  refine prog_fields (Q := fun x => 0 ≤ x.kind ∧ x.kind ≤ 7) ?_ h
  exact ⟨fun x _ => ⟨by show (0 : Int) ≤ 0; omega, by show (0 : Int) ≤ 7; omega⟩, fun t _ _ => ⟨by show (0 : Int) ≤ 1; omega, by show (1 : Int) ≤ 7; omega⟩, fun k a b h1 h2 => ⟨by show 0 ≤ k; omega, by show k ≤ 7; omega⟩, fun a => ⟨by show (0 : Int) ≤ 6; omega, by show (6 : Int) ≤ 7; omega⟩, fun a fac t _ _ _ _ => ⟨by show (0 : Int) ≤ 7; omega, by show (7 : Int) ≤ 7; omega⟩⟩
set_option maxHeartbeats 8000000 in
theorem tree_low {w : World} {a : Option Addr} {n c : Nat} {ms : List Mn} (h : IsN w a n ms) (hn : n ≤ 100000) (hB : Behind (ms.map fun m => m.1.nd)) (hK : ∀ m ∈ ms, 0 ≤ m.1.kind ∧ m.1.kind ≤ 7) (hV : ∀ m ∈ ms, (∃ x y z, m.2.1 = .slice x y z) ∧ ∃ x y z, m.2.2 = .slice x y z) (r : Bool) (hr : (!(List.range n).any fun k => decide (60 < tallI (ms.map fun m => m.1.nd) k)) = r) :
    Calls Tryz.prog 29 #[.slice a n c] w fun e w' => e = .returned (.bool r) ∧ Below w.heap.size w w' := by
  have HT := tree_heights (c := c) h hn hB hK hV
  generalize (ms.map fun m => m.1.nd) = L at *
  have HR : Hid ((!(List.range n).any fun k => decide (60 < tallI L k)) = r ∧ n ≤ 100000) := ⟨hr, hn⟩
  clear h hn hB hK hV hr
  go_enter Tryz.func29, Tryz.ntmps29
  go_wp2_with (go_at_call 44; (with_reducible refine Calls.mono HT ?_); rintro e w2 ⟨g, rfl, o⟩)
  have CL : Hid (∀ t, t < n → w2.cell? ⟨g, t, none⟩ = some (.int .i64 (tallI L t))) := fun t ht => (o.at1 (by rw [List.getElem?_map, hts_get L ht]; rfl)).1
  have bw : Hid (Below w.heap.size w w2) := o.below
  clear HT o
  go_loopg [8] n (fun g s8 v => ∃ t : Nat, s8 = .int .i64 t ∧ t + g = n ∧ (∀ j, j < t → ¬ 60 < tallI L j) ∧ w2 = v)
  case atStart => exact ⟨0, rfl, by omega, fun j hj => absurd hj (by omega), rfl⟩
  case round =>
    obtain ⟨t, rfl, hg, hN, rfl⟩ := hrel
    have hn := HR.out.2
    rcases Nat.lt_or_ge t n with ht | ht
    · have p1 : (t : Int) < n := by omega
      have cX := CL.out t ht
      have hX : tallI L t = tallI L t := rfl
      by_cases h6 : 60 < tallI L t
      · have hr : r = false := by
          rw [← HR.out.1, Bool.not_eq_false', List.any_eq_true]
          exact ⟨t, List.mem_range.2 ht, by rw [decide_eq_true_eq]; exact h6⟩
        subst hr
        generalize tallI L t = X at *
        clear hg hN hn HR hX
        go_wp2
        go_ret
        exact ⟨rfl, bw.out⟩
      · have w1 : wrap64 ((t : Int) + 1) = (t : Int) + 1 := wrap_smalls (by omega) (by omega)
        have HN : Hid ((∀ j, j < t + 1 → ¬ 60 < tallI L j) ∧ t + 1 + (n - (t + 1)) = n ∧ n - (t + 1) < gk) := ⟨fun j hj => by
          rcases Nat.lt_or_ge j t with q | q
          · exact hN j q
          · obtain rfl : j = t := by omega
            exact h6, by clear w1; omega, by clear w1; omega⟩
        generalize tallI L t = X at *
        clear hg hN hn hX
        go_wp2
        obtain ⟨j1, j2, j3⟩ := HN.out
        go_roundg (n - (t + 1))
        case measure => exact j3
        case rel => exact ⟨t + 1, by first | rfl | (rw [w1]; rfl), j2, j1, rfl⟩
    · have p1 : ¬ (t : Int) < n := by omega
      obtain rfl : t = n := by omega
      have hr : r = true := by
        rw [← HR.out.1, Bool.not_eq_true', List.any_eq_false]
        intro k hk
        rw [decide_eq_true_eq]
        exact hN k (List.mem_range.1 hk)
      subst hr
      clear hg hN hn HR
      go_wp2
      go_ret
      exact ⟨rfl, bw.out⟩
section
variable {W w : World} {R : Nat} {ta : Option Addr} {tc : Nat} {i l o : Value} {L : List Tok} {p : Nat} {al : List Nd} {S : List It}
def plcI (s : ByteArray) (L : List Tok) (p : Nat) : Int × Int := match L[p]? with
  | some t => (t.2.2.1, t.2.2.2)
  | none => placeI s s.size
set_option maxHeartbeats 8000000 in
theorem q_place (h : Tq W w R ta tc i l o L p al S) (s : ByteArray) (hs : s.size ≤ 1000000) :
    Calls Tryz.prog 27 #[.pointer (some ⟨R, 0, none⟩), .string s] w fun e w' => e = .returned (.agg #[.int .i64 (plcI s L p).1, .int .i64 (plcI s L p).2]) ∧ Below w.heap.size w w' := by
  obtain ⟨la, lc, a, c, sa, sc, hW, B, hN, hS, hT⟩ := h
  obtain ⟨b1, bV, hz⟩ := boxes1 w #[.int .i64 0, .int .i64 0] 29
  have x0 := ((B.more bV).cell 0).1
  have hR := (B.more bV).lt
  unfold plcI
  cases ht : L[p]? with
  | none =>
    have hp := List.getElem?_eq_none_iff.1 ht
    have k0 : ((L.length - p : Nat) : Int) = 0 := by omega
    have SP := fun v => sign_place s s.size v hs (by omega) (by omega)
    unfold AnsL at SP
    dsimp only
    generalize placeI s s.size = z at *
    obtain ⟨z0, z1⟩ := z
    dsimp only at SP ⊢
    generalize L.length - p = M at *
    clear hN hS hT B hW ht hp
    go_enter Tryz.func27, Tryz.ntmps27
    go_wp2_with (go_at_call 23; (with_reducible refine Calls.mono (SP _) ?_); rintro e w2 ⟨rfl, d2⟩; have D := b1.more d2; have y0 := (D.cell 0).1; have y1 := (D.cell 1).1; have f0 := (D.cell 0).2; have f1 := (D.cell 1).2)
    have E := (D.set 0 (.int .i64 z0)).set 1 (.int .i64 z1)
    have c0 := (E.cell 0).1
    have c1 := (E.cell 1).1
    exact bodyPost_ret (v := .agg #[.int .i64 z0, .int .i64 z1]) (by simp [results, Tryz.results27, go_sem, c0, c1]) rfl ⟨rfl, ((below_more bV d2).setCell (p := ⟨w.heap.size, 0, none⟩) (Nat.le_refl _) _).setCell (p := ⟨w.heap.size, 1, none⟩) (Nat.le_refl _) _⟩
  | some t =>
    have hp := (List.getElem?_eq_some_iff.1 ht).1
    have k0 : ¬ ((L.length - p : Nat) : Int) = 0 := by omega
    have k2 : 0 < L.length - p := by omega
    have k3 : (0 : Int) < ((L.length - p : Nat) : Int) := by omega
    obtain ⟨g, rfl, t0, t1, t2, t3⟩ := (hT.more bV).tok ht
    have hg : g < w.heap.size := by
      obtain ⟨g', e, s0, -⟩ := hT.tok ht
      have : g = g' := by simpa using e
      subst this
      exact World.block_lt_of_cell? w _ s0
    dsimp only
    have NB : ∀ (a0 a1 : Int), Hid (BoxC (w.alloc (.cells #[.int .i64 a0, .int .i64 a1] 29)) w.heap.size #[.int .i64 a0, .int .i64 a1] 29 ∧ Below w.heap.size w (w.alloc (.cells #[.int .i64 a0, .int .i64 a1] 29))) := fun a0 a1 => ⟨(boxes1 w _ _).1, (boxes1 w _ _).2.1⟩
    generalize t.2.2.1 = y2 at *
    generalize t.2.2.2 = y3 at *
    generalize L.length - p = M at *
    clear hN hS hT B hW ht hp b1
    go_enter Tryz.func27, Tryz.ntmps27
    go_wp2
    obtain ⟨b1, b2⟩ := (NB y2 y3).out
    have c0 := (b1.cell 0).1
    have c1 := (b1.cell 1).1
    exact bodyPost_ret (v := .agg #[.int .i64 y2, .int .i64 y3]) (by simp [results, Tryz.results27, go_sem, c0, c1]) rfl ⟨rfl, b2⟩
end
end Go.Proofs.YtbcfplaalepnbaaGreatDoor
