/-
  Texts of mine in build order. No conditions of their own.
-/
import Derived.Test.YtaeladkcmpdkhaaGreatDoorPack17
import Derived.Test.YtaeladkcmpdkhaaGreatDoorPack21
set_option maxHeartbeats 16000000
namespace Go.Proofs.YtaeladkcmpdkhaaGreatDoor
section
open Go.RowKit Go.Lib
def st0 (L : List Tok) : Rd := startR.want L 0 [105, 110]
def st1 (L : List Tok) : Rd := (namesI L (st0 L)).2
def st2 (L : List Tok) : Rd := (letsF numT L (L.length + 1) [] (st1 L)).2
def st3 (L : List Tok) : Rd := (st2 L).want L 0 [111, 117, 116]
def st4 (L : List Tok) : Rd := (namesI L (st3 L)).2
theorem prog_rd (L : List Tok) : (progI numT L).2 = if (st4 L).pos < L.length then (st4 L).wrong else st4 L := rfl
theorem st_bad4 {L : List Tok} (h : (st4 L).bad = true) : (progI numT L).2.bad = true ∧ (progI numT L).2.pos = (st4 L).pos := by
 rw [prog_rd]
 split
 ·exact ⟨rfl, rfl⟩
 ·exact ⟨h, rfl⟩
theorem st_bad3 {L : List Tok} (h : (st3 L).bad = true) : (progI numT L).2.bad = true ∧ (progI numT L).2.pos = (st3 L).pos := by
 have on := (on_names L (st3 L)).1.bad h
 have := st_bad4 (L := L) on.1
 exact ⟨this.1, this.2.trans on.2⟩
theorem st_bad2 {L : List Tok} (h : (st2 L).bad = true) : (progI numT L).2.bad = true ∧ (progI numT L).2.pos = (st2 L).pos := by
 have on := (Rd.on_want L (st2 L) 0 [111, 117, 116]).bad h
 have := st_bad3 (L := L) on.1
 exact ⟨this.1, this.2.trans on.2⟩
theorem st_bad1 {L : List Tok} (h : (st1 L).bad = true) : (progI numT L).2.bad = true ∧ (progI numT L).2.pos = (st1 L).pos := by
 have on := (on_lets numT L (L.length + 1) [] (st1 L)).bad h
 have := st_bad2 (L := L) on.1
 exact ⟨this.1, this.2.trans on.2⟩
theorem st_bad0 {L : List Tok} (h : (st0 L).bad = true) : (progI numT L).2.bad = true ∧ (progI numT L).2.pos = (st0 L).pos := by
 have on := (on_names L (st0 L)).1.bad h
 have := st_bad1 (L := L) on.1
 exact ⟨this.1, this.2.trans on.2⟩
theorem wantw_no {L : List Tok} (hL : Toks L) {p : Nat} {al : List Nd} {c : UInt8} {x : List UInt8} (hc : c.toNat < 128 ∧ kindI c.toNat = 1) (h : ((nextT L p).2.1.toList == c :: x) = false) : (⟨p, false, al⟩ : Rd).want L 0 (c :: x) = ⟨p, true, al⟩ := by
 unfold Rd.want
 rw [hL.word rfl hc, if_neg (by rw [h]; simp)]; rfl
theorem wantw_yes {L : List Tok} (hL : Toks L) {p : Nat} {al : List Nd} {c : UInt8} {x : List UInt8} (hc : c.toNat < 128 ∧ kindI c.toNat = 1) (h : ((nextT L p).2.1.toList == c :: x) = true) : (⟨p, false, al⟩ : Rd).want L 0 (c :: x) = ⟨p + 1, false, al⟩ := by
 unfold Rd.want
 rw [hL.word rfl hc, if_pos h]; rfl
theorem ownsRow_low {w : World} {B C : Nat} {T : TypeId} {k : Nat} {v : Value} {n : Nat} {cs : List Value} (h : w.ownsRow B T k v n cs) (hC : C ≤ B) : w.ownsRow C T k v n cs := by
 refine ⟨h.1, ?_⟩
 rcases h.2 with q | ⟨g, cap, cur, hv, hb, r⟩
 ·exact .inl q
 ·exact .inr ⟨g, cap, cur, hv, Nat.le_trans hC hb, r⟩
section
variable {W w w' : World} {R : Nat} {ta : Option Addr} {tc : Nat} {L : List Tok}
def AnsPr (W w : World) (R : Nat) (ta : Option Addr) (tc : Nat) (L : List Tok) (Z : Pg × Rd) (e : Ending) (w' : World) : Prop :=
  e = .returned (.bool (!Z.2.bad)) ∧ (∃ ia il ic la ll lc oa ol oc al S, Tq W w' R ta tc (.slice ia il ic) (.slice la ll lc) (.slice oa ol oc) L Z.2.pos al S ∧
    (Z.2.bad = false → al = Z.1.all ∧ il = Z.1.ins.length ∧ ll = Z.1.lets.length ∧ ol = Z.1.outs.length ∧ w'.ownsRow w.heap.size 9 1 (.slice ia il ic) il (flat encS Z.1.ins) ∧ w'.ownsRow w.heap.size 52 2 (.slice la ll lc) ll (flat encL Z.1.lets) ∧ w'.ownsRow w.heap.size 9 1 (.slice oa ol oc) ol (flat encS Z.1.outs))) ∧ Keep TYL w w'
theorem ansPr_bad {ia la oa : Option Addr} {il ic ll lc ol oc q : Nat} {al : List Nd} {S : List It} {Z : Pg × Rd} (hb : Z.2.bad = true) (hp : Z.2.pos = q) (T : Tq W w' R ta tc (.slice ia il ic) (.slice la ll lc) (.slice oa ol oc) L q al S) (K : Keep TYL w w') : AnsPr W w R ta tc L Z (.returned (.bool false)) w' := by
 unfold AnsPr
 rw [hb, hp]
 exact ⟨rfl, ⟨ia, il, ic, la, ll, lc, oa, ol, oc, al, S, T, fun q => absurd q (by simp)⟩, K⟩
theorem Tq.leftV {i l o : Value} {p : Nat} {al : List Nd} {S : List It} (h : Tq W w R ta tc i l o L p al S) : ∃ la lc, w.cell? ⟨R, 0, none⟩ = some (.slice la (L.length - p) lc) := by
 obtain ⟨la, lc, a, c, sa, sc, hW, B, hN, hS, hT⟩ := h
 exact ⟨la, lc, (B.cell 0).1⟩
theorem q_program (h : Tq W w R ta tc (.slice none 0 0) (.slice none 0 0) (.slice none 0 0) L 0 [] []) (hL : Toks L) (he : ErrV W) :
  Calls Tryz.prog 38 #[.pointer (some ⟨R, 0, none⟩)] w (AnsPr W w R ta tc L (progI numT L)) := by
 have hn4 := hL.len
 have ein : (⟨#[105, 110]⟩ : ByteArray).toList = [105, 110] := by rw [ByteArray.toList_eq]
 have eou : (⟨#[111, 117, 116]⟩ : ByteArray).toList = [111, 117, 116] := by rw [ByteArray.toList_eq]
 have hZ0 := prog_rd L
 cases hi : ((nextT L 0).2.1.toList == [105, 110]) with
 | false =>
  have P0 := q_pass h ⟨#[105, 110]⟩ (by rw [ein]; simp) false (by rw [ein]; exact hi)
  simp only [Bool.false_eq_true, if_false] at P0
  have z0 : st0 L = ⟨0, true, []⟩ := wantw_no hL (by decide) hi
  obtain ⟨z1, z2⟩ := st_bad0 (L := L) (by rw [z0])
  rw [z0] at z2
  have HR : Hid _ := And.intro z1 z2
  generalize progI numT L = Z at *
  clear h hL he hi z0 z1 z2 hZ0 ein eou hn4
  go_enter Tryz.func38, Tryz.ntmps38
  go_wp2_with (first
   | (go_at_call 67; (with_reducible refine Calls.mono P0 ?_); rintro e w1 ⟨rfl, T1, K1⟩))
  go_ret
  exact ansPr_bad HR.out.1 HR.out.2 T1 K1.tyl
 | true =>
  have P0 := q_pass h ⟨#[105, 110]⟩ (by rw [ein]; simp) true (by rw [ein]; exact hi)
  simp only [if_true] at P0
  have z0 : st0 L = ⟨1, false, []⟩ := wantw_yes hL (by decide) hi
  have N1 := fun (v : World) (T' : Tq W v R ta tc (.slice none 0 0) (.slice none 0 0) (.slice none 0 0) L 1 [] []) => q_names1 T' hL
  have e1 : st1 L = (namesI L ⟨1, false, []⟩).2 := by unfold st1; rw [z0]
  have ei : (progI numT L).1.ins = (namesI L ⟨1, false, []⟩).1 := by show (namesI L (st0 L)).1 = _; rw [z0]
  have a1 : (namesI L ⟨1, false, []⟩).2.all = [] := (on_names L ⟨1, false, []⟩).2
  generalize namesI L ⟨1, false, []⟩ = Y1 at *
  unfold AnsN1 at N1
  cases hb1 : Y1.2.bad with
  | true =>
   rw [hb1] at N1
   obtain ⟨z1, z2⟩ := st_bad1 (L := L) (by rw [e1]; exact hb1)
   rw [e1] at z2
   have HR : Hid _ := And.intro z1 z2
   generalize progI numT L = Z at *
   clear h hL he hi z0 z1 z2 hZ0 ein eou hn4 a1 ei e1 hb1
   go_enter Tryz.func38, Tryz.ntmps38
   go_wp2_with (first
    | (go_at_call 67; (with_reducible refine Calls.mono P0 ?_); rintro e w1 ⟨rfl, T1, K1⟩)
    | (go_at_call 68; (with_reducible refine Calls.mono (N1 _ T1) ?_); rintro e w2 ⟨rfl, ⟨ia, il, ic, T2, -⟩, K2⟩))
   go_ret
   exact ansPr_bad HR.out.1 HR.out.2 T2 ((K1.trans K2).tyl)
  | false =>
   rw [hb1] at N1
   have y1 : Y1.2 = ⟨Y1.2.pos, false, []⟩ := by rw [← a1, rd_eta hb1]
   have LT := fun (v : World) (x : Value) (T' : Tq W v R ta tc x (.slice none 0 0) (.slice none 0 0) L Y1.2.pos [] []) => q_lets T' hL he (by show 0 + _ ≤ _; omega)
   have e2 : st2 L = (letsF numT L (L.length + 1) [] ⟨Y1.2.pos, false, []⟩).2 := by unfold st2; rw [e1, ← y1]
   have el : (progI numT L).1.lets = (letsF numT L (L.length + 1) [] ⟨Y1.2.pos, false, []⟩).1 := by show (letsF numT L (L.length + 1) [] (st1 L)).1 = _; rw [e1, ← y1]
   generalize letsF numT L (L.length + 1) [] ⟨Y1.2.pos, false, []⟩ = Y2 at *
   unfold AnsLets at LT
   cases hb2 : Y2.2.bad with
   | true =>
    rw [hb2] at LT
    obtain ⟨z1, z2⟩ := st_bad2 (L := L) (by rw [e2]; exact hb2)
    rw [e2] at z2
    have HR : Hid _ := And.intro z1 z2
    generalize progI numT L = Z at *
    clear h hL he hi z0 z1 z2 hZ0 ein eou hn4 a1 ei e1 hb1 e2 el hb2 y1
    go_enter Tryz.func38, Tryz.ntmps38
    go_wp2_with (first
     | (go_at_call 67; (with_reducible refine Calls.mono P0 ?_); rintro e w1 ⟨rfl, T1, K1⟩)
     | (go_at_call 68; (with_reducible refine Calls.mono (N1 _ T1) ?_); rintro e w2 ⟨rfl, ⟨ia, il, ic, T2, h2⟩, K2⟩; obtain ⟨rfl, o2⟩ := h2 trivial)
     | (go_at_call 69; (with_reducible refine Calls.mono (LT _ _ T2) ?_); rintro e w3 ⟨rfl, ⟨la, ll, lc, al3, S3, T3, -⟩, K3⟩))
    go_ret
    exact ansPr_bad HR.out.1 HR.out.2 T3 ((K1.trans K2).tyl.trans K3)
   | false =>
    rw [hb2] at LT
    have y2 := rd_eta hb2
    cases ho : ((nextT L Y2.2.pos).2.1.toList == [111, 117, 116]) with
    | false =>
     have PO := fun (v : World) (x y : Value) (T' : Tq W v R ta tc x y (.slice none 0 0) L Y2.2.pos Y2.2.all []) => q_pass T' ⟨#[111, 117, 116]⟩ (by rw [eou]; simp) false (by rw [eou]; exact ho)
     simp only [Bool.false_eq_true, if_false] at PO
     have z3 : st3 L = ⟨Y2.2.pos, true, Y2.2.all⟩ := by unfold st3; rw [e2, ← y2]; exact wantw_no hL (by decide) ho
     obtain ⟨z1, z2⟩ := st_bad3 (L := L) (by rw [z3])
     rw [z3] at z2
     have HR : Hid _ := And.intro z1 z2
     generalize progI numT L = Z at *
     clear h hL he hi z0 z1 z2 hZ0 ein eou hn4 a1 ei e1 hb1 e2 el hb2 y1 y2 z3 ho
     go_enter Tryz.func38, Tryz.ntmps38
     go_wp2_with (first
      | (go_at_call 67; (with_reducible refine Calls.mono P0 ?_); rintro e w1 ⟨rfl, T1, K1⟩)
      | (go_at_call 68; (with_reducible refine Calls.mono (N1 _ T1) ?_); rintro e w2 ⟨rfl, ⟨ia, il, ic, T2, h2⟩, K2⟩; obtain ⟨rfl, o2⟩ := h2 trivial)
      | (go_at_call 69; (with_reducible refine Calls.mono (LT _ _ T2) ?_); rintro e w3 ⟨rfl, ⟨la, ll, lc, al3, S3, T3, h3⟩, K3⟩; obtain ⟨rfl, rfl, rfl, o3⟩ := h3 trivial)
      | (go_at_call 67; (with_reducible refine Calls.mono (PO _ _ _ T3) ?_); rintro e w4 ⟨rfl, T4, K4⟩))
     go_ret
     exact ansPr_bad HR.out.1 HR.out.2 T4 (((K1.trans K2).tyl.trans K3).trans K4.tyl)
    | true =>
     have PO := fun (v : World) (x y : Value) (T' : Tq W v R ta tc x y (.slice none 0 0) L Y2.2.pos Y2.2.all []) => q_pass T' ⟨#[111, 117, 116]⟩ (by rw [eou]; simp) true (by rw [eou]; exact ho)
     simp only [if_true] at PO
     have z3 : st3 L = ⟨Y2.2.pos + 1, false, Y2.2.all⟩ := by unfold st3; rw [e2, ← y2]; exact wantw_yes hL (by decide) ho
     have N3 := fun (v : World) (x y : Value) (T' : Tq W v R ta tc x y (.slice none 0 0) L (Y2.2.pos + 1) Y2.2.all []) => q_names3 T' hL
     have e4 : st4 L = (namesI L ⟨Y2.2.pos + 1, false, Y2.2.all⟩).2 := by unfold st4; rw [z3]
     have eo : (progI numT L).1.outs = (namesI L ⟨Y2.2.pos + 1, false, Y2.2.all⟩).1 := by show (namesI L (st3 L)).1 = _; rw [z3]
     have ea : (progI numT L).1.all = Y2.2.all := by show (namesI L (st3 L)).2.all = _; rw [z3]; exact (on_names L ⟨Y2.2.pos + 1, false, Y2.2.all⟩).2
     generalize namesI L ⟨Y2.2.pos + 1, false, Y2.2.all⟩ = Y4 at *
     unfold AnsN3 at N3
     cases hb4 : Y4.2.bad with
     | true =>
      rw [hb4] at N3
      obtain ⟨z1, z2⟩ := st_bad4 (L := L) (by rw [e4]; exact hb4)
      rw [e4] at z2
      have HR : Hid _ := And.intro z1 z2
      generalize progI numT L = Z at *
      clear h hL he hi z0 z1 z2 hZ0 ein eou hn4 a1 ei e1 hb1 e2 el hb2 y1 y2 z3 ho e4 eo ea hb4
      go_enter Tryz.func38, Tryz.ntmps38
      go_wp2_with (first
       | (go_at_call 67; (with_reducible refine Calls.mono P0 ?_); rintro e w1 ⟨rfl, T1, K1⟩)
       | (go_at_call 68; (with_reducible refine Calls.mono (N1 _ T1) ?_); rintro e w2 ⟨rfl, ⟨ia, il, ic, T2, h2⟩, K2⟩; obtain ⟨rfl, o2⟩ := h2 trivial)
       | (go_at_call 69; (with_reducible refine Calls.mono (LT _ _ T2) ?_); rintro e w3 ⟨rfl, ⟨la, ll, lc, al3, S3, T3, h3⟩, K3⟩; obtain ⟨rfl, rfl, rfl, o3⟩ := h3 trivial)
       | (go_at_call 67; (with_reducible refine Calls.mono (PO _ _ _ T3) ?_); rintro e w4 ⟨rfl, T4, K4⟩)
       | (go_at_call 68; (with_reducible refine Calls.mono (N3 _ _ _ T4) ?_); rintro e w5 ⟨rfl, ⟨oa, ol, oc, T5, -⟩, K5⟩))
      go_ret
      exact ansPr_bad HR.out.1 HR.out.2 T5 ((((K1.trans K2).tyl.trans K3).trans K4.tyl).trans K5.tyl)
     | false =>
      rw [hb4] at N3
      rw [e4] at hZ0
      by_cases hlt : Y4.2.pos < L.length
      ·rw [if_pos hlt] at hZ0
       have k0 : (((L.length - Y4.2.pos : Nat) : Int) == 0) = false := by rw [beq_eq_false_iff_ne]; omega
       have HR : Hid ((progI numT L).2.bad = true ∧ (progI numT L).2.pos = Y4.2.pos) := by rw [hZ0]; exact ⟨rfl, rfl⟩
       generalize progI numT L = Z at *
       generalize hM : L.length - Y4.2.pos = M at *
       clear h hL he hi z0 hZ0 ein eou hn4 a1 ei e1 hb1 e2 el hb2 y1 y2 z3 ho e4 eo ea hb4 hlt
       go_enter Tryz.func38, Tryz.ntmps38
       go_wp2_with (first
        | (go_at_call 67; (with_reducible refine Calls.mono P0 ?_); rintro e w1 ⟨rfl, T1, K1⟩)
        | (go_at_call 68; (with_reducible refine Calls.mono (N1 _ T1) ?_); rintro e w2 ⟨rfl, ⟨ia, il, ic, T2, h2⟩, K2⟩; obtain ⟨rfl, o2⟩ := h2 trivial)
        | (go_at_call 69; (with_reducible refine Calls.mono (LT _ _ T2) ?_); rintro e w3 ⟨rfl, ⟨la, ll, lc, al3, S3, T3, h3⟩, K3⟩; obtain ⟨rfl, rfl, rfl, o3⟩ := h3 trivial)
        | (go_at_call 67; (with_reducible refine Calls.mono (PO _ _ _ T3) ?_); rintro e w4 ⟨rfl, T4, K4⟩)
        | (go_at_call 68; (with_reducible refine Calls.mono (N3 _ _ _ T4) ?_); rintro e w5 ⟨rfl, ⟨oa, ol, oc, T5, h5⟩, K5⟩; obtain ⟨rfl, o5⟩ := h5 trivial; obtain ⟨xa, xc, x0⟩ := T5.leftV; rw [hM] at x0))
       go_ret
       exact ansPr_bad HR.out.1 HR.out.2 T5 ((((K1.trans K2).tyl.trans K3).trans K4.tyl).trans K5.tyl)
      ·rw [if_neg hlt] at hZ0
       have k0 : ((L.length - Y4.2.pos : Nat) : Int) = 0 := by omega
       have HR : Hid ((progI numT L).2.bad = false ∧ (progI numT L).2.pos = Y4.2.pos ∧ (progI numT L).1.all = Y2.2.all ∧ (progI numT L).1.ins = Y1.1 ∧ (progI numT L).1.lets = Y2.1 ∧ (progI numT L).1.outs = Y4.1) := by rw [hZ0]; exact ⟨hb4, rfl, ea, ei, el, eo⟩
       generalize progI numT L = Z at *
       generalize hM : L.length - Y4.2.pos = M at *
       clear h hL he hi z0 hZ0 ein eou hn4 a1 ei e1 hb1 e2 el hb2 y1 y2 z3 ho e4 eo ea hb4 hlt
       go_enter Tryz.func38, Tryz.ntmps38
       go_wp2_with (first
        | (go_at_call 67; (with_reducible refine Calls.mono P0 ?_); rintro e w1 ⟨rfl, T1, K1⟩)
        | (go_at_call 68; (with_reducible refine Calls.mono (N1 _ T1) ?_); rintro e w2 ⟨rfl, ⟨ia, il, ic, T2, h2⟩, K2⟩; obtain ⟨rfl, o2⟩ := h2 trivial)
        | (go_at_call 69; (with_reducible refine Calls.mono (LT _ _ T2) ?_); rintro e w3 ⟨rfl, ⟨la, ll, lc, al3, S3, T3, h3⟩, K3⟩; obtain ⟨rfl, rfl, rfl, o3⟩ := h3 trivial)
        | (go_at_call 67; (with_reducible refine Calls.mono (PO _ _ _ T3) ?_); rintro e w4 ⟨rfl, T4, K4⟩)
        | (go_at_call 68; (with_reducible refine Calls.mono (N3 _ _ _ T4) ?_); rintro e w5 ⟨rfl, ⟨oa, ol, oc, T5, h5⟩, K5⟩; obtain ⟨rfl, o5⟩ := h5 trivial; obtain ⟨xa, xc, x0⟩ := T5.leftV; rw [hM] at x0))
       go_ret
       obtain ⟨z1, z2, z3, z4, z5, z6⟩ := HR.out
       unfold AnsPr
       rw [z1, z2, z3, z4, z5, z6]
       exact ⟨rfl, ⟨ia, _, ic, la, _, lc, oa, _, oc, _, _, T5, fun _ => ⟨rfl, rfl, rfl, rfl, ownsRow_keep (ownsRow_keep (ownsRow_keep (ownsRow_low o2 K1.1) K3 tyl_str) K4 ty_str) K5 ty_str, ownsRow_keep (ownsRow_keep (ownsRow_low o3 (K1.trans K2).1) K4 ty_let) K5 ty_let, ownsRow_low o5 (((K1.trans K2).tyl.trans K3).trans K4.tyl).1⟩⟩, (((K1.trans K2).tyl.trans K3).trans K4.tyl).trans K5.tyl⟩
end
end
section
open Go.RowKit Go.Lib
theorem prog_kinds {L : List Tok} (h : (progI numT L).2.bad = false) : ∀ x ∈ (progI numT L).1.all, 0 ≤ x.kind ∧ x.kind ≤ 7 := by
 refine prog_fields (Q := fun x => 0 ≤ x.kind ∧ x.kind ≤ 7) ?_ h
 exact ⟨fun x _ => ⟨by show (0 : Int) ≤ 0; omega, by show (0 : Int) ≤ 7; omega⟩, fun t _ _ => ⟨by show (0 : Int) ≤ 1; omega, by show (1 : Int) ≤ 7; omega⟩, fun k a b h1 h2 => ⟨by show 0 ≤ k; omega, by show k ≤ 7; omega⟩, fun a => ⟨by show (0 : Int) ≤ 6; omega, by show (6 : Int) ≤ 7; omega⟩, fun a fac t _ _ _ _ => ⟨by show (0 : Int) ≤ 7; omega, by show (7 : Int) ≤ 7; omega⟩⟩
theorem tree_low {w : World} {a : Option Addr} {n c : Nat} {ms : List Mn} (h : IsN w a n ms) (hn : n ≤ 100000) (hB : Behind (ms.map fun m => m.1.nd)) (hK : ∀ m ∈ ms, 0 ≤ m.1.kind ∧ m.1.kind ≤ 7) (hV : ∀ m ∈ ms, (∃ x y z, m.2.1 = .slice x y z) ∧ ∃ x y z, m.2.2 = .slice x y z) (r : Bool) (hr : (!(List.range n).any fun k => decide (60 < tallI (ms.map fun m => m.1.nd) k)) = r) :
  Calls Tryz.prog 36 #[.slice a n c] w fun e w' => e = .returned (.bool r) ∧ Below w.heap.size w w' := by
 have HT := tree_heights (c := c) h hn hB hK hV
 generalize (ms.map fun m => m.1.nd) = L at *
 have HR : Hid ((!(List.range n).any fun k => decide (60 < tallI L k)) = r ∧ n ≤ 100000) := ⟨hr, hn⟩
 clear h hn hB hK hV hr
 go_enter Tryz.func36, Tryz.ntmps36
 go_wp2_with (go_at_call 64; (with_reducible refine Calls.mono HT ?_); rintro e w2 ⟨g, rfl, o⟩)
 have CL : Hid (∀ t, t < n → w2.cell? ⟨g, t, none⟩ = some (.int .i64 (tallI L t))) := fun t ht => (o.at1 (by rw [List.getElem?_map, hts_get L ht]; rfl)).1
 have bw : Hid (Below w.heap.size w w2) := o.below
 clear HT o
 go_loopg [8] n (fun g s8 v => ∃ t : Nat, s8 = .int .i64 t ∧ t + g = n ∧ (∀ j, j < t → ¬ 60 < tallI L j) ∧ w2 = v)
 case atStart => exact ⟨0, rfl, by omega, fun j hj => absurd hj (by omega), rfl⟩
 case round =>
  obtain ⟨t, rfl, hg, hN, rfl⟩ := hrel
  have hn := HR.out.2
  rcases Nat.lt_or_ge t n with ht | ht
  ·have p1 : (t : Int) < n := by omega
   have cX := CL.out t ht
   have hX : tallI L t = tallI L t := rfl
   by_cases h6 : 60 < tallI L t
   ·have hr : r = false := by
     rw [← HR.out.1, Bool.not_eq_false', List.any_eq_true]
     exact ⟨t, List.mem_range.2 ht, by rw [decide_eq_true_eq]; exact h6⟩
    subst hr
    generalize tallI L t = X at *
    clear hg hN hn HR hX
    go_wp2
    go_ret
    exact ⟨rfl, bw.out⟩
   ·have w1 : wrap64 ((t : Int) + 1) = (t : Int) + 1 := wrap_smalls (by omega) (by omega)
    have HN : Hid ((∀ j, j < t + 1 → ¬ 60 < tallI L j) ∧ t + 1 + (n - (t + 1)) = n ∧ n - (t + 1) < gk) := ⟨fun j hj => by
     rcases Nat.lt_or_ge j t with q | q
     ·exact hN j q
     ·obtain rfl : j = t := by omega
      exact h6, by clear w1; omega, by clear w1; omega⟩
    generalize tallI L t = X at *
    clear hg hN hn hX
    go_wp2
    obtain ⟨j1, j2, j3⟩ := HN.out
    go_roundg (n - (t + 1))
    case measure => exact j3
    case rel => exact ⟨t + 1, by first | rfl | (rw [w1]; rfl), j2, j1, rfl⟩
  ·have p1 : ¬ (t : Int) < n := by omega
   obtain rfl : t = n := by omega
   have hr : r = true := by
    rw [← HR.out.1, Bool.not_eq_true', List.any_eq_false]
    intro k hk
    rw [decide_eq_true_eq]
    exact hN k (List.mem_range.1 hk)
   subst hr
   clear hg hN hn HR
   go_wp2
   go_ret
   exact ⟨rfl, bw.out⟩
section
variable {W w : World} {R : Nat} {ta : Option Addr} {tc : Nat} {i l o : Value} {L : List Tok} {p : Nat} {al : List Nd} {S : List It}
def plcI (s : ByteArray) (L : List Tok) (p : Nat) : Int × Int := match L[p]? with
 | some t => (t.2.2.1, t.2.2.2)
 | none => placeI s s.size
theorem q_place (h : Tq W w R ta tc i l o L p al S) (s : ByteArray) (hs : s.size ≤ 1000000) :
  Calls Tryz.prog 39 #[.pointer (some ⟨R, 0, none⟩), .string s] w fun e w' => e = .returned (.agg #[.int .i64 (plcI s L p).1, .int .i64 (plcI s L p).2]) ∧ Below w.heap.size w w' := by
 obtain ⟨la, lc, a, c, sa, sc, hW, B, hN, hS, hT⟩ := h
 obtain ⟨b1, bV, hz⟩ := boxes1 w #[.int .i64 0, .int .i64 0] 34
 have x0 := ((B.more bV).cell 0).1
 have hR := (B.more bV).lt
 unfold plcI
 cases ht : L[p]? with
 | none =>
  have hp := List.getElem?_eq_none_iff.1 ht
  have k0 : ((L.length - p : Nat) : Int) = 0 := by omega
  have SP := fun v => sign_place s s.size v hs (by omega) (by omega)
  unfold AnsL at SP
  dsimp only
  generalize placeI s s.size = z at *
  obtain ⟨z0, z1⟩ := z
  dsimp only at SP ⊢
  generalize L.length - p = M at *
  clear hN hS hT B hW ht hp
  go_enter Tryz.func39, Tryz.ntmps39
  go_wp2_with (go_at_call 70; (with_reducible refine Calls.mono (SP _) ?_); rintro e w2 ⟨rfl, d2⟩; have D := b1.more d2; have y0 := (D.cell 0).1; have y1 := (D.cell 1).1; have f0 := (D.cell 0).2; have f1 := (D.cell 1).2)
  have E := (D.set 0 (.int .i64 z0)).set 1 (.int .i64 z1)
  have c0 := (E.cell 0).1
  have c1 := (E.cell 1).1
  exact bodyPost_ret (v := .agg #[.int .i64 z0, .int .i64 z1]) (by simp [results, Tryz.results39, go_sem, c0, c1]) rfl ⟨rfl, ((below_more bV d2).setCell (p := ⟨w.heap.size, 0, none⟩) (Nat.le_refl _) _).setCell (p := ⟨w.heap.size, 1, none⟩) (Nat.le_refl _) _⟩
 | some t =>
  have hp := (List.getElem?_eq_some_iff.1 ht).1
  have k0 : ¬ ((L.length - p : Nat) : Int) = 0 := by omega
  have k2 : 0 < L.length - p := by omega
  have k3 : (0 : Int) < ((L.length - p : Nat) : Int) := by omega
  obtain ⟨g, rfl, t0, t1, t2, t3⟩ := (hT.more bV).tok ht
  have hg : g < w.heap.size := by
   obtain ⟨g', e, s0, -⟩ := hT.tok ht
   have : g = g' := by simpa using e
   subst this
   exact World.block_lt_of_cell? w _ s0
  dsimp only
  have NB : ∀ (a0 a1 : Int), Hid (BoxC (w.alloc (.cells #[.int .i64 a0, .int .i64 a1] 34)) w.heap.size #[.int .i64 a0, .int .i64 a1] 34 ∧ Below w.heap.size w (w.alloc (.cells #[.int .i64 a0, .int .i64 a1] 34))) := fun a0 a1 => ⟨(boxes1 w _ _).1, (boxes1 w _ _).2.1⟩
  generalize t.2.2.1 = y2 at *
  generalize t.2.2.2 = y3 at *
  generalize L.length - p = M at *
  clear hN hS hT B hW ht hp b1
  go_enter Tryz.func39, Tryz.ntmps39
  go_wp2
  obtain ⟨b1, b2⟩ := (NB y2 y3).out
  have c0 := (b1.cell 0).1
  have c1 := (b1.cell 1).1
  exact bodyPost_ret (v := .agg #[.int .i64 y2, .int .i64 y3]) (by simp [results, Tryz.results39, go_sem, c0, c1]) rfl ⟨rfl, b2⟩
end
end
section
open Go.RowKit Go.Lib
def IsI (w : World) (a : Option Addr) (n : Nat) (xs : List Int) : Prop := xs.length = n ∧ (n = 0 ∨ ∃ g o, a = some ⟨g, o, none⟩ ∧ ∀ (j : Nat) (x : Int), xs[j]? = some x → w.cell? ⟨g, o + j, none⟩ = some (.int .i64 x))
theorem eq_ints {w : World} {a b : Option Addr} {n c m d : Nat} {xs ys : List Int} (h1 : IsI w a n xs) (h2 : IsI w b m ys) (hn : n ≤ 100000) (r : Bool) (hr : decide (xs = ys) = r) :
  Calls Tryz.prog 93 #[.slice a n c, .slice b m d] w fun e w' => e = .returned (.bool r) ∧ Below w.heap.size w w' := by
 by_cases hl : n = m
 ·subst hl
  have HH : Hid (IsI w a n xs ∧ IsI w b n ys ∧ n ≤ 100000 ∧ decide (xs = ys) = r) := ⟨h1, h2, hn, hr⟩
  clear h1 h2 hn hr
  go_enter Tryz.func93, Tryz.ntmps93
  go_wp2
  go_loopg [13] n (fun g s13 v => ∃ t : Nat, s13 = .int .i64 t ∧ t + g = n ∧ (∀ j, j < t → xs[j]? = ys[j]?) ∧ Below w.heap.size w v)
  case atStart => exact ⟨0, rfl, by omega, fun j hj => absurd hj (by omega), Below.refl _ _⟩
  case round =>
   obtain ⟨t, rfl, hg, hN, bw⟩ := hrel
   obtain ⟨⟨l1, h1⟩, ⟨l2, h2⟩, hn, hr⟩ := HH.out
   rcases Nat.lt_or_ge t n with ht | ht
   ·have p1 : (t : Int) < n := by omega
    obtain ⟨g1, o1, rfl, c1⟩ := h1.resolve_left (by omega)
    obtain ⟨g2, o2, rfl, c2⟩ := h2.resolve_left (by omega)
    obtain ⟨x, hx⟩ : ∃ x, xs[t]? = some x := ⟨_, List.getElem?_eq_getElem (by omega)⟩
    obtain ⟨y, hy⟩ : ∃ y, ys[t]? = some y := ⟨_, List.getElem?_eq_getElem (by omega)⟩
    have k1 := c1 t x hx
    have k2 := c2 t y hy
    have b1 := World.block_lt_of_cell? w _ k1
    have b2 := World.block_lt_of_cell? w _ k2
    rw [← bw.cell b1] at k1
    rw [← bw.cell b2] at k2
    by_cases hxy : x = y
    ·subst hxy
     have e1 : (x == x) = true := by simp
     have e2 : (x != x) = false := by simp
     have w1 : wrap64 ((t : Int) + 1) = (t : Int) + 1 := wrap_smalls (by omega) (by omega)
     have HN : Hid ((∀ j, j < t + 1 → xs[j]? = ys[j]?) ∧ t + 1 + (n - (t + 1)) = n ∧ n - (t + 1) < gk ∧ Below w.heap.size w wr) := ⟨fun j hj => by
      rcases Nat.lt_or_ge j t with q | q
      ·exact hN j q
      ·obtain rfl : j = t := by omega
       rw [hx, hy], by clear w1; omega, by clear w1; omega, bw⟩
     clear hg hN hn hr h1 h2 c1 c2 hx hy bw l1 l2 b1 b2 HH
     go_wp2
     go_quiet (fail)
     obtain ⟨j1, j2, j3, j4⟩ := HN.out
     go_wp2
     go_roundg (n - (t + 1))
     case measure => exact j3
     case rel => exact ⟨t + 1, by first | rfl | (rw [w1]; rfl), j2, j1, below_drewN j4 _⟩
    ·have hrf : r = false := by
      rw [← hr]
      refine decide_eq_false fun e => hxy ?_
      rw [e, hy] at hx
      injection hx with hx
      exact hx.symm
     subst hrf
     have e1 : (x == y) = false := by rw [beq_eq_false_iff_ne]; exact hxy
     have e2 : (x != y) = true := by rw [bne_iff_ne]; exact hxy
     have HB : Hid (Below w.heap.size w wr) := bw
     clear hg hN hn hr h1 h2 c1 c2 hx hy bw l1 l2 b1 b2 HH
     go_wp2
     go_quiet (fail)
     go_wp2
     go_ret
     exact ⟨rfl, below_drewN HB.out _⟩
   ·have p1 : ¬ (t : Int) < n := by omega
    obtain rfl : t = n := by omega
    have hrt : r = true := by
     rw [← hr]
     refine decide_eq_true (List.ext_getElem? fun j => ?_)
     rcases Nat.lt_or_ge j t with q | q
     ·exact hN j q
     ·rw [List.getElem?_eq_none (by omega), List.getElem?_eq_none (by omega)]
    subst hrt
    clear hg hN hn hr h1 h2 l1 l2 HH
    go_wp2
    go_ret
    exact ⟨rfl, bw⟩
 ·have hrf : r = false := by
   rw [← hr]
   refine decide_eq_false fun e => hl ?_
   rw [← h1.1, ← h2.1, e]
  subst hrf
  have k1 : ((n : Int) == m) = false := by rw [beq_eq_false_iff_ne]; omega
  have k2 : ((n : Int) != m) = true := by rw [bne_iff_ne]; omega
  have k3 : ¬ (n : Int) = m := by omega
  clear h1 h2 hn hr hl
  go_enter Tryz.func93, Tryz.ntmps93
  go_wp2
  go_ret
  exact ⟨rfl, Below.refl _ _⟩
theorem tree_none (s : Bool) (a : Option Addr) (n c : Nat) (b : Option Addr) (m d : Nat) (r : Bool) (hr : (!s && decide (n = 0) && decide (m = 0)) = r) (w : World) :
  Calls Tryz.prog 124 #[.agg #[.bool s, .slice a n c, .slice b m d]] w fun e w' => e = .returned (.bool r) ∧ Below w.heap.size w w' := by
 obtain ⟨b1, bV, hs⟩ := boxes1 w #[.bool s, .slice a n c, .slice b m d] 45
 obtain ⟨x0, x1, x2, f0, f1, f2⟩ := b1.cells3
 cases s with
 | true =>
  simp only [Bool.not_true, Bool.false_and] at hr
  subst hr
  clear b1
  go_enter Tryz.func124, Tryz.ntmps124
  go_wp2
  go_ret
  exact ⟨rfl, bV⟩
 | false =>
  by_cases h1 : n = 0
  ·subst h1
   have e2 : (((m : Nat) : Int) == 0) = r := by
    rw [← hr]
    by_cases q : m = 0
    ·subst q; rfl
    ·rw [decide_eq_false q, beq_eq_false_iff_ne.2 (show ((m : Nat) : Int) ≠ 0 by omega)]; rfl
   have hk : ((0 : Nat) : Int) = 0 := rfl
   clear b1 hr
   go_enter Tryz.func124, Tryz.ntmps124
   go_wp2
   go_ret
   exact ⟨by first | rfl | (rw [← e2]; rfl), bV⟩
  ·rw [decide_eq_false h1] at hr
   simp only [Bool.not_false, Bool.true_and, Bool.false_and] at hr
   subst hr
   have e1 : ((n : Int) == 0) = false := by rw [beq_eq_false_iff_ne]; omega
   clear b1 h1
   go_enter Tryz.func124, Tryz.ntmps124
   go_wp2
   go_ret
   exact ⟨rfl, bV⟩
def shortB (xs : List Int) : Bool := decide (xs.length ≤ 5) && decide ((decOf (val xs)).length ≤ 40)
theorem tree_short {w : World} {a : Option Addr} {n c : Nat} {xs : List Int} (h : IsWords w (.slice a n c) xs) (hx : Wd xs) (hn : n ≤ 1000000) (hl : xs.length = n) (r : Bool) (hr : shortB xs = r) :
  Calls Tryz.prog 155 #[.slice a n c] w fun e w' => e = .returned (.bool r) ∧ Below w.heap.size w w' := by
 have DG := deci_digits h hx hn (val xs) rfl
 unfold shortB at hr
 rw [hl] at hr
 generalize (decOf (val xs)).length = D at *
 by_cases h1 : n ≤ 5
 ·have k1 : (n : Int) ≤ 5 := by omega
  rw [decide_eq_true h1, Bool.true_and] at hr
  have e : decide ((D : Int) ≤ 40) = r := by rw [← hr]; exact decide_eq_decide.2 (by omega)
  clear h hx hn h1 hl hr
  go_enter Tryz.func155, Tryz.ntmps155
  go_wp2_with (go_at_call 182; (with_reducible refine Calls.mono DG ?_); rintro e' w1 ⟨rfl, d1⟩)
  go_ret
  exact ⟨by rw [← e]; rfl, d1⟩
 ·have k1 : ¬ (n : Int) ≤ 5 := by omega
  rw [decide_eq_false h1, Bool.false_and] at hr
  subst hr
  clear h hx hn h1 hl DG
  go_enter Tryz.func155, Tryz.ntmps155
  go_wp2
  go_ret
  exact ⟨rfl, Below.refl _ _⟩
def rghB (s : Bool) (xs ys : List Int) : Bool := decide (decide ((rv s (val xs) (val ys)).num < 0) = s ∧ natOf (rv s (val xs) (val ys)).num.natAbs = xs ∧ natOf (rv s (val xs) (val ys)).den = ys)
def numR (s : Bool) (xs ys : List Int) : Bool := !s && shortB xs && shortB ys && rghB s xs ys
theorem tree_number {s : Bool} {w : World} {a b : Option Addr} {n c m d : Nat} {xs ys : List Int} (h : IsWords w (.slice a n c) xs) (hx : Wd xs) (k : IsWords w (.slice b m d) ys) (hy : Wd ys) (hn : n ≤ 10000) (hm : m ≤ 10000) (hl : xs.length = n) (hl' : ys.length = m) (r : Bool) (hr : numR s xs ys = r) :
  Calls Tryz.prog 123 #[.agg #[.bool s, .slice a n c, .slice b m d]] w fun e w' => e = .returned (.bool r) ∧ Below w.heap.size w w' := by
 obtain ⟨b1, bV, hs⟩ := boxes1 w #[.bool s, .slice a n c, .slice b m d] 45
 obtain ⟨x0, x1, x2, f0, f1, f2⟩ := b1.cells3
 unfold numR at hr
 have HB := b1
 generalize hV : w.alloc (.cells #[.bool s, .slice a n c, .slice b m d] 45) = V at *
 have S1 := fun (q : Bool) (hq : shortB xs = q) => tree_short (h.below bV) hx (by omega) hl q hq
 have S2 := fun (v : World) (dv : Below V.heap.size V v) (q : Bool) (hq : shortB ys = q) => tree_short ((k.below bV).below dv) hy (by omega) hl' q hq
 have RG := fun (v : World) (dv : Below V.heap.size V v) (q : Bool) (hq : rghB s xs ys = q) => rat_right ((h.below bV).below dv) hx ((k.below bV).below dv) hy hn hm _ rfl q hq
 have CB := fun (v : World) (dv : Below V.heap.size V v) => (HB.more dv).cells3
 subst hV
 cases s with
 | true =>
  simp only [Bool.not_true, Bool.false_and] at hr
  subst hr
  clear b1 h hx k hy hn hm hl hl' S1 S2 RG CB HB
  go_enter Tryz.func123, Tryz.ntmps123
  go_wp2
  go_ret
  exact ⟨rfl, bV⟩
 | false =>
  rw [Bool.not_false, Bool.true_and] at hr
  cases h1 : shortB xs with
  | false =>
   rw [h1] at hr
   simp only [Bool.false_and] at hr
   subst hr
   have S1' := S1 false h1
   clear b1 h hx k hy hn hm hl hl' S1 S2 RG CB HB h1
   go_enter Tryz.func123, Tryz.ntmps123
   go_wp2_with (go_at_call 155; (with_reducible refine Calls.mono S1' ?_); rintro e w1 ⟨rfl, d1⟩)
   go_ret
   exact ⟨rfl, below_more bV d1⟩
  | true =>
   rw [h1, Bool.true_and] at hr
   have S1' := S1 true h1
   cases h2 : shortB ys with
   | false =>
    rw [h2] at hr
    simp only [Bool.false_and] at hr
    subst hr
    have S2' := fun v dv => S2 v dv false h2
    clear b1 h hx k hy hn hm hl hl' S1 S2 RG HB h1 h2
    go_enter Tryz.func123, Tryz.ntmps123
    go_wp2_with (first
     | (go_at_call 155; (with_reducible refine Calls.mono S1' ?_); rintro e w1 ⟨rfl, d1⟩; obtain ⟨y0, y1, y2, -, -, -⟩ := CB _ d1)
     | (go_at_call 155; (with_reducible refine Calls.mono (S2' _ d1) ?_); rintro e w2 ⟨rfl, d2⟩))
    go_ret
    exact ⟨rfl, below_more (below_more bV d1) d2⟩
   | true =>
    rw [h2, Bool.true_and] at hr
    have S2' := fun v dv => S2 v dv true h2
    have RG' := fun v dv => RG v dv r hr
    clear b1 h hx k hy hn hm hl hl' S1 S2 RG HB h1 h2 hr
    go_enter Tryz.func123, Tryz.ntmps123
    go_wp2_with (first
     | (go_at_call 155; (with_reducible refine Calls.mono S1' ?_); rintro e w1 ⟨rfl, d1⟩; obtain ⟨y0, y1, y2, -, -, -⟩ := CB _ d1)
     | (go_at_call 155; (with_reducible refine Calls.mono (S2' _ d1) ?_); rintro e w2 ⟨rfl, d2⟩; have d12 := below_more d1 d2; obtain ⟨z0, z1, z2, -, -, -⟩ := CB _ d12)
     | (go_at_call 156; (with_reducible refine Calls.mono (RG' _ d12) ?_); rintro e w3 ⟨rfl, d3⟩))
    go_ret
    exact ⟨rfl, below_more (below_more (below_more bV d1) d2) d3⟩
def IsS (w : World) (a : Option Addr) (n : Nat) (xs : List ByteArray) : Prop := xs.length = n ∧ (n = 0 ∨ ∃ g o, a = some ⟨g, o, none⟩ ∧ ∀ (j : Nat) (x : ByteArray), xs[j]? = some x → w.cell? ⟨g, o + j, none⟩ = some (.string x))
theorem spot_none {w : World} {a : Addr} {v : Value} (h : w.cell? a = some v) : a.spot = none := by
 unfold World.cell? at h
 split at h
 ·cases hs : a.spot with
  | none => rfl
  | some q => simp [hs] at h
 ·simp at h
theorem add_lit (g o j : Nat) : (⟨g, o, none⟩ : Addr).add j = ⟨g, o + j, none⟩ := by cases j <;> simp [Addr.add]
theorem IsC.lit {k : Nat} {w : World} {a : Option Addr} {n : Nat} {cs : List Value} (h : IsC k w a n cs) (hk : 0 < k) : n = 0 ∨ ∃ g o, a = some ⟨g, o, none⟩ ∧ ∀ j u, cs[j]? = some u → w.cell? ⟨g, o + j, none⟩ = some u := by
 rcases h.2 with h0 | ⟨⟨g, o, sp⟩, rfl, hc⟩
 ·exact .inl h0
 ·rcases Nat.eq_zero_or_pos n with h0 | hp
  ·exact .inl h0
  ·right
   have hl : 0 < cs.length := by rw [h.1]; exact Nat.mul_pos hp hk
   have h1 := hc 0 _ (List.getElem?_eq_getElem hl)
   have h2 : sp = none := by
    have := spot_none h1
    simpa [Addr.add] using this
   subst h2
   refine ⟨g, o, rfl, fun j u hj => ?_⟩
   rw [← add_lit]
   exact hc j u hj
theorem flat_strs (xs : List ByteArray) : flat encS xs = xs.map Value.string := by
 induction xs with
 | nil => rfl
 | cons x xs ih => show encS x ++ flat encS xs = _; rw [ih]; rfl
theorem IsC.isS {w : World} {a : Option Addr} {n : Nat} {xs : List ByteArray} (h : IsC 1 w a n (flat encS xs)) : IsS w a n xs := by
 have hl := h.1
 rw [flat_strs, List.length_map, Nat.mul_one] at hl
 refine ⟨hl, ?_⟩
 rcases h.lit (by decide) with h0 | ⟨g, o, e, hc⟩
 ·exact .inl h0
 ·exact .inr ⟨g, o, e, fun j x hj => hc j _ (by rw [flat_strs, List.getElem?_map, hj]; rfl)⟩
theorem IsS.below {w w' : World} {a : Option Addr} {n : Nat} {xs : List ByteArray} (h : IsS w a n xs) (hb : Below w.heap.size w w') : IsS w' a n xs := by
 refine ⟨h.1, ?_⟩
 rcases h.2 with h0 | ⟨g, o, e, hc⟩
 ·exact .inl h0
 ·exact .inr ⟨g, o, e, fun j x hj => by rw [hb.cell (World.block_lt_of_cell? w _ (hc j x hj))]; exact hc j x hj⟩
theorem sign_name_any (s : ByteArray) (w : World) (r : Bool) (hr : nameB s = r) : Calls Tryz.prog 62 #[.string s] w fun e w' => e = .returned (.bool r) ∧ Below w.heap.size w w' := by
 by_cases hs : s.size ≤ 1000000
 ·exact sign_name s w hs r hr
 ·have e0 : (s.toList == []) = false := text_full (by omega)
  unfold nameB at hr
  obtain rfl : r = false := by rw [← hr, decide_eq_false (by omega)]; rfl
  have k2 : 40 < (s.size : Int) := by omega
  clear hr hs
  go_enter Tryz.func62, Tryz.ntmps62
  go_wp2
  go_ret
  exact ⟨rfl, Below.refl _ _⟩
theorem tree_named {w : World} {a : Option Addr} {n c : Nat} {xs : List ByteArray} (h : IsS w a n xs) (hn : n ≤ 100000) (r : Bool) (hr : xs.all nameB = r) :
  Calls Tryz.prog 34 #[.slice a n c] w fun e w' => e = .returned (.bool r) ∧ Below w.heap.size w w' := by
 have HH : Hid (xs.length = n ∧ IsS w a n xs ∧ n ≤ 100000 ∧ xs.all nameB = r) := ⟨h.1, h, hn, hr⟩
 clear h hn hr
 go_enter Tryz.func34, Tryz.ntmps34
 go_wp2
 go_loopg [7] n (fun g s7 v => ∃ t : Nat, s7 = .int .i64 t ∧ t + g = n ∧ (∀ j x, j < t → xs[j]? = some x → nameB x = true) ∧ Below w.heap.size w v)
 case atStart => exact ⟨0, rfl, by omega, fun j x hj => absurd hj (by omega), Below.refl _ _⟩
 case round =>
  obtain ⟨t, rfl, hg, hN, bw⟩ := hrel
  obtain ⟨hl, hc, hn, hr⟩ := HH.out
  rcases Nat.lt_or_ge t n with ht | ht
  ·have p1 : (t : Int) < n := by omega
   obtain ⟨x, hx⟩ : ∃ x, xs[t]? = some x := ⟨_, List.getElem?_eq_getElem (by omega)⟩
   obtain ⟨g1, o1, rfl, k1⟩ := (hc.below bw).2.resolve_left (by omega)
   have k1 := k1 t x hx
   cases hb : nameB x with
   | false =>
    have hrf : r = false := by
     rw [← hr, List.all_eq_false]
     exact ⟨x, List.mem_of_getElem? hx, by rw [hb]; simp⟩
    subst hrf
    have SN := fun v => sign_name_any x v false hb
    have HB : Hid (Below w.heap.size w wr) := bw
    clear hg hN bw hl hc hn hr hx hb HH
    go_wp2_with (go_at_call 62; (with_reducible refine Calls.mono (SN _) ?_); rintro e w2 ⟨rfl, d2⟩)
    go_ret
    exact ⟨rfl, below_more HB.out d2⟩
   | true =>
    have SN := fun v => sign_name_any x v true hb
    have w1 : wrap64 ((t : Int) + 1) = (t : Int) + 1 := wrap_smalls (by omega) (by omega)
    have HN : Hid ((∀ j y, j < t + 1 → xs[j]? = some y → nameB y = true) ∧ t + 1 + (n - (t + 1)) = n ∧ n - (t + 1) < gk ∧ Below w.heap.size w wr) := ⟨fun j y hj hy => by
     rcases Nat.lt_or_ge j t with q | q
     ·exact hN j y q hy
     ·obtain rfl : j = t := by omega
      rw [hx] at hy
      injection hy with hy
      rw [← hy]; exact hb, by clear w1; omega, by clear w1; omega, bw⟩
    clear hg hN bw hl hc hn hr hx hb HH
    go_wp2_with (go_at_call 62; (with_reducible refine Calls.mono (SN _) ?_); rintro e w2 ⟨rfl, d2⟩)
    obtain ⟨j1, j2, j3, j4⟩ := HN.out
    go_roundg (n - (t + 1))
    case measure => exact j3
    case rel => exact ⟨t + 1, by first | rfl | (rw [w1]; rfl), j2, j1, below_more j4 d2⟩
  ·have p1 : ¬ (t : Int) < n := by omega
   obtain rfl : t = n := by omega
   have hrt : r = true := by
    rw [← hr, List.all_eq_true]
    intro x hx
    obtain ⟨j, hj, he⟩ := List.getElem_of_mem hx
    exact hN j x (by omega) (by rw [List.getElem?_eq_getElem hj, he])
   subst hrt
   clear hg hN hn hr hl hc HH
   go_wp2
   go_ret
   exact ⟨rfl, bw⟩
end
end Go.Proofs.YtaeladkcmpdkhaaGreatDoor
