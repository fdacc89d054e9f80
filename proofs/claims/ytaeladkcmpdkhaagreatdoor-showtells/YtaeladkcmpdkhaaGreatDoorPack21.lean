/-
  Texts of mine in build order. No conditions of their own.
-/
import Derived.Test.YtaeladkcmpdkhaaGreatDoorPack20
set_option maxHeartbeats 16000000
namespace Go.Proofs.YtaeladkcmpdkhaaGreatDoor
section
open Go.RowKit Go.Lib
def nmG (L : List Tok) (f : Nat) (out : List ByteArray) (r : Rd) : List ByteArray × Rd := ((moreN L f (out ++ [(r.nameT L).1]) (r.nameT L).2).1, (moreN L f (out ++ [(r.nameT L).1]) (r.nameT L).2).2.want L 2 [59])
theorem names_nmG (L : List Tok) (r : Rd) : namesI L r = nmG L (L.length + 1) [] r := rfl
theorem bad_is (L : List Tok) (p : Nat) (al : List Nd) (k : Int) (x : List UInt8) : (⟨p, true, al⟩ : Rd).is L k x = false := by unfold Rd.is; simp
theorem bad_more (L : List Tok) (f : Nat) (out : List ByteArray) (p : Nat) (al : List Nd) : moreN L f out ⟨p, true, al⟩ = (out, ⟨p, true, al⟩) := by
 cases f with
 | zero => rfl
 | succ f => exact if_neg (by rw [bad_is]; simp)
theorem bad_want (L : List Tok) (p : Nat) (al : List Nd) (k : Int) (x : List UInt8) : (⟨p, true, al⟩ : Rd).want L k x = ⟨p, true, al⟩ := by
 unfold Rd.want
 rw [if_neg (by rw [bad_is]; simp)]; rfl
theorem nmG_no {L : List Tok} {f : Nat} {out : List ByteArray} {p : Nat} {al : List Nd} (h : nameB (nextT L p).2.1 = false) : (nmG L f out ⟨p, false, al⟩).2 = ⟨p, true, al⟩ := by
 unfold nmG
 rw [name_no h]
 dsimp only
 rw [bad_more]
 exact bad_want L p al 2 [59]
theorem nmG_more {L : List Tok} (hL : Toks L) {f : Nat} {out : List ByteArray} {p : Nat} {al : List Nd} (h : nameB (nextT L p).2.1 = true) (hc : ((nextT L (p + 1)).2.1.toList == [44]) = true) : nmG L (f + 1) out ⟨p, false, al⟩ = nmG L f (out ++ [(nextT L p).2.1]) ⟨p + 1 + 1, false, al⟩ := by
 have e : ∀ x : ByteArray, moreN L (f + 1) (out ++ [x]) ⟨p + 1, false, al⟩ = moreN L f (out ++ [x] ++ [((⟨p + 1, false, al⟩ : Rd).skip.nameT L).1]) ((⟨p + 1, false, al⟩ : Rd).skip.nameT L).2 := fun x => if_pos (by rw [hL.mark rfl (by decide)]; exact hc)
 unfold nmG
 rw [(name_yes hL h).1]
 dsimp only
 rw [e]
 rfl
theorem nmG_last {L : List Tok} (hL : Toks L) {f : Nat} {out : List ByteArray} {p : Nat} {al : List Nd} (h : nameB (nextT L p).2.1 = true) (hc : ((nextT L (p + 1)).2.1.toList == [44]) = false) : nmG L (f + 1) out ⟨p, false, al⟩ = (out ++ [(nextT L p).2.1], if ((nextT L (p + 1)).2.1.toList == [59]) = true then ⟨p + 1 + 1, false, al⟩ else ⟨p + 1, true, al⟩) := by
 have e : ∀ x : ByteArray, moreN L (f + 1) (out ++ [x]) ⟨p + 1, false, al⟩ = (out ++ [x], ⟨p + 1, false, al⟩) := fun x => if_neg (by rw [hL.mark rfl (by decide)]; show ¬ ((nextT L (p + 1)).2.1.toList == [44]) = true; rw [hc]; simp)
 unfold nmG
 rw [(name_yes hL h).1]
 dsimp only
 rw [e]
 dsimp only
 unfold Rd.want
 rw [hL.mark (r := ⟨p + 1, false, al⟩) rfl (c := 59) (by decide)]
 rfl
section
variable {W w w' : World} {R : Nat} {ta : Option Addr} {tc : Nat} {i l o : Value} {L : List Tok} {p : Nat} {al : List Nd} {S : List It}
theorem Tq.keepU (h : Tq W w R ta tc i l o L p al S) {Y : TypeId → Prop} (k : Keep Y w w') (hb : Below W.heap.size W w') (y1 : ¬ Y 70) (y2 : ¬ Y 47) (y3 : ¬ Y 110) (y4 : ¬ Y 85) (y5 : ¬ Y 20) : Tq W w' R ta tc i l o L p al S := by
 obtain ⟨la, lc, a, c, sa, sc, hW, B, ⟨ms, h1, h2, h3⟩, hS, h6, h7, h8⟩ := h
 exact ⟨la, lc, a, c, sa, sc, hW, B.keep k y1, ⟨ms, h1.keep k y2 hb, h2, fun m hm => ⟨OwnC.keep (h3 m hm).1 k y4 hb, OwnC.keep (h3 m hm).2 k y4 hb⟩⟩, hS.keep k y5 hb, h6, OwnC.keep h7 k y3 hb, h8⟩
theorem Tq.setI (h : Tq W w R ta tc i l o L p al S) (x : Value) : Tq W (w.setCell ⟨R, 1, none⟩ x) R ta tc x l o L p al S ∧ Keep TY w (w.setCell ⟨R, 1, none⟩ x) := by
 obtain ⟨la, lc, a, c, sa, sc, hW, B, hN, hS, hT⟩ := h
 exact ⟨⟨la, lc, a, c, sa, sc, hW, B.set 1 _, hN.box B (by decide) (by decide) hW _ _, hS.box B (by decide) hW _ _, hT.1, hT.2.1.box B (by decide) hW _ _, hT.2.2⟩, (Keep.refl TY w).set B ty_reader 1 _⟩
theorem Tq.setL (h : Tq W w R ta tc i l o L p al S) (x : Value) : Tq W (w.setCell ⟨R, 2, none⟩ x) R ta tc i x o L p al S ∧ Keep TY w (w.setCell ⟨R, 2, none⟩ x) := by
 obtain ⟨la, lc, a, c, sa, sc, hW, B, hN, hS, hT⟩ := h
 exact ⟨⟨la, lc, a, c, sa, sc, hW, B.set 2 _, hN.box B (by decide) (by decide) hW _ _, hS.box B (by decide) hW _ _, hT.1, hT.2.1.box B (by decide) hW _ _, hT.2.2⟩, (Keep.refl TY w).set B ty_reader 2 _⟩
theorem Tq.setO (h : Tq W w R ta tc i l o L p al S) (x : Value) : Tq W (w.setCell ⟨R, 3, none⟩ x) R ta tc i l x L p al S ∧ Keep TY w (w.setCell ⟨R, 3, none⟩ x) := by
 obtain ⟨la, lc, a, c, sa, sc, hW, B, hN, hS, hT⟩ := h
 exact ⟨⟨la, lc, a, c, sa, sc, hW, B.set 3 _, hN.box B (by decide) (by decide) hW _ _, hS.box B (by decide) hW _ _, hT.1, hT.2.1.box B (by decide) hW _ _, hT.2.2⟩, (Keep.refl TY w).set B ty_reader 3 _⟩
theorem Tq.cells (h : Tq W w R ta tc i l o L p al S) : w.cell? ⟨R, 1, none⟩ = some i ∧ w.cell? ⟨R, 2, none⟩ = some l ∧ w.cell? ⟨R, 3, none⟩ = some o ∧ w.frozen? ⟨R, 1, none⟩ = false ∧ w.frozen? ⟨R, 2, none⟩ = false ∧ w.frozen? ⟨R, 3, none⟩ = false ∧ R < w.heap.size := by
 obtain ⟨la, lc, a, c, sa, sc, hW, B, hN, hS, hT⟩ := h
 exact ⟨(B.cell 1).1, (B.cell 2).1, (B.cell 3).1, (B.cell 1).2, (B.cell 2).2, (B.cell 3).2, B.lt⟩
theorem ts_not : ¬ TS 70 ∧ ¬ TS 47 ∧ ¬ TS 110 ∧ ¬ TS 85 ∧ ¬ TS 20 := by unfold TS; decide
def AnsN1 (W w : World) (R : Nat) (ta : Option Addr) (tc : Nat) (l o : Value) (L : List Tok) (al : List Nd) (S : List It) (Z : List ByteArray × Rd) (e : Ending) (w' : World) : Prop :=
 e = .returned (.bool (!Z.2.bad)) ∧ (∃ a n c, Tq W w' R ta tc (.slice a n c) l o L Z.2.pos al S ∧ (Z.2.bad = false → n = Z.1.length ∧ w'.ownsRow w.heap.size 9 1 (.slice a n c) n (flat encS Z.1))) ∧ Keep TY w w'
theorem q_names1 (h : Tq W w R ta tc (.slice none 0 0) l o L p al S) (hL : Toks L) :
  Calls Tryz.prog 68 #[.pointer (some ⟨R, 0, none⟩), .pointer (some ⟨R, 1, none⟩)] w (AnsN1 W w R ta tc l o L al S (namesI L ⟨p, false, al⟩)) := by
 rw [names_nmG]
 obtain ⟨Z, hZ⟩ : ∃ Z, nmG L (L.length + 1) [] ⟨p, false, al⟩ = Z := ⟨_, rfl⟩
 rw [hZ]
 have HH : Hid (Tq W w R ta tc (.slice none 0 0) l o L p al S ∧ Toks L ∧ nmG L (L.length + 1) [] ⟨p, false, al⟩ = Z ∧ w.ownsRow w.heap.size 9 1 (.slice none 0 0) 0 []) := ⟨h, hL, hZ, World.ownsRow_nil _ _ _ _⟩
 have HW : Hid (W.heap.size ≤ w.heap.size) := h.below.size
 clear h hL hZ
 go_enter Tryz.func68, Tryz.ntmps68
 go_wp2
 go_loopg [5] (L.length - p + 1) (fun g s5 v => ∃ (a : Option Addr) (c f q : Nat) (out : List ByteArray), s5 = s5 ∧ Tq W v R ta tc (.slice a out.length c) l o L q al S ∧ v.ownsRow w.heap.size 9 1 (.slice a out.length c) out.length (flat encS out) ∧ Keep TY w v ∧ nmG L f out ⟨q, false, al⟩ = Z ∧ L.length - q < f ∧ L.length - q + 1 ≤ g ∧ out.length + (L.length - q) ≤ 5000)
 case atStart => exact ⟨none, 0, L.length + 1, p, [], rfl, HH.out.1, HH.out.2.2.2, Keep.refl TY w, HH.out.2.2.1, by omega, Nat.le_refl _, by have := HH.out.2.1.len; show 0 + _ ≤ _; omega⟩
 case round =>
  obtain ⟨a, c, f, q, out, -, T, O, K, hZ, hf, hg, hn⟩ := hrel
  have hL := HH.out.2.1
  cases f with
  | zero => omega
  | succ f =>
   cases hb : nameB (nextT L q).2.1 with
   | false =>
    have NM := q_name T hL false hb
    simp only [Bool.false_eq_true, if_false] at NM
    have hz := nmG_no (f := f + 1) (out := out) (al := al) hb
    rw [hZ] at hz
    obtain ⟨Z1, Z2⟩ := Z
    dsimp only at hz
    subst hz
    have HR : Hid (Keep TY w wr) := K
    generalize (nextT L q).2.1 = y1 at *
    clear T O K hZ hf hg hn hL HH hb
    go_wp2_with (go_at_call 103; (with_reducible refine Calls.mono NM ?_); rintro e w1 ⟨rfl, T1, K1⟩)
    go_ret
    exact ⟨rfl, ⟨a, out.length, c, T1, fun q => absurd q (by simp)⟩, HR.out.trans K1⟩
   | true =>
    have NM := q_name T hL true hb
    simp only [if_true] at NM
    have hq := (List.getElem?_eq_some_iff.1 (name_yes hL (all := al) hb).2.choose_spec.1).1
    have m1 : out.length + 1 ≤ maxLen := by unfold maxLen; omega
    have m2 : (out.length + 1) * 16 ≤ 140737488355328 := by omega
    cases hc : ((nextT L (q + 1)).2.1.toList == [44]) with
    | true =>
     have PS := fun (v : World) (x : Value) (T' : Tq W v R ta tc x l o L (q + 1) al S) => q_pass T' ⟨#[44]⟩ (by rw [toList_byte]; simp) true (by rw [toList_byte]; exact hc)
     simp only [if_true] at PS
     have hZ' := (nmG_more hL (f := f) (out := out) (al := al) hb hc).symm.trans hZ
     generalize (nextT L q).2.1 = y1 at *
     have HR : Hid (Keep TY w wr ∧ nmG L f (out ++ [y1]) ⟨q + 1 + 1, false, al⟩ = Z ∧ L.length - q < f + 1 ∧ L.length - q + 1 ≤ gk ∧ out.length + (L.length - q) ≤ 5000 ∧ q < L.length ∧ wr.ownsRow w.heap.size 9 1 (.slice a out.length c) out.length (flat encS out) ∧ Below W.heap.size W wr) := ⟨K, hZ', hf, hg, hn, hq, O, T.below⟩
     have hN' : (out ++ [y1]).length = out.length + 1 := by rw [List.length_append]; rfl
     generalize hN : out.length = N at *
     clear T O K hZ hZ' hf hg hn hL HH hb hc hq
     go_wp2_with (first
      | (go_at_call 103; (with_reducible refine Calls.mono NM ?_); rintro e v1 ⟨rfl, T1, K1⟩; obtain ⟨x1, x2, x3, g1, g2, g3, hR1⟩ := T1.cells; have O1 := fun ob => ownsRow_below (ownsRow_keep HR.out.2.2.2.2.2.2.1 K1 ty_str) ((Below.refl _ v1).alloc (Nat.le_refl _) ob); have hB1 := (HR.out.1.trans K1).1)
      | (at_builtin; refine wpl_append_b (t := 22) (e := 9) Tryz.underlying22 infoStr rfl (by decide) (.tmp 17) (.tmp 19) rfl rfl _ w.heap.size (by simp; omega) _ N (flat encS out) v1.heap.size (encS y1) rfl rfl (O1 _) (BoxC.new v1 #[.string y1] 9).isc (by simp [encS, Value.oneCell']) m1 m2 ?_; intro a6 c6 v6 o6 g6; have hWw : W.heap.size ≤ w.heap.size := HW.out; have b6 : Below W.heap.size W v6 := (T1.below.alloc T1.below.size (.cells #[.string y1] 9)).grown g6 (Nat.le_trans T1.below.size (by simp)) (fun k hk => Nat.le_trans hWw ((O1 (.cells #[.string y1] 9)).lt k hk).1); have T6 := (T1.more ((Below.refl _ v1).alloc (Nat.le_refl _) (.cells #[.string y1] 9))).keepU (Keep.grown_type (X := TS) (O1 (.cells #[.string y1] 9)) rfl g6) b6 ts_not.1 ts_not.2.1 ts_not.2.2.1 ts_not.2.2.2.1 ts_not.2.2.2.2; have K6 := ((HR.out.1.trans K1).alloc (.cells #[.string y1] 9)).grown_new (O1 (.cells #[.string y1] 9)) (Nat.le_refl _) g6; obtain ⟨x61, x62, x63, g61, g62, g63, hR6⟩ := T6.cells; have T7 := T6.setI (.slice a6 (N + 1) c6))
      | (go_at_call 67; (with_reducible refine Calls.mono (PS _ _ T7.1) ?_); rintro e v8 ⟨rfl, T8, K8⟩))
     obtain ⟨K, hZ, hf, hg, hn, hq, -, -⟩ := HR.out
     go_roundg (L.length - (q + 1 + 1) + 1)
     case measure => omega
     case rel => exact ⟨a6, c6, f, q + 1 + 1, out ++ [y1], trivial, by rw [hN']; exact T8, by rw [hN', flat_append, flat_one]; exact ownsRow_keep (ownsRow_keep o6 T7.2 ty_str) K8 ty_str, (K6.trans T7.2).trans K8, hZ, by omega, Nat.le_refl _, by rw [hN']; omega⟩
    | false =>
     have PS := fun (v : World) (x : Value) (T' : Tq W v R ta tc x l o L (q + 1) al S) => q_pass T' ⟨#[44]⟩ (by rw [toList_byte]; simp) false (by rw [toList_byte]; exact hc)
     simp only [Bool.false_eq_true, if_false] at PS
     obtain ⟨b, hsc⟩ : ∃ b, ((nextT L (q + 1)).2.1.toList == [59]) = b := ⟨_, rfl⟩
     have PE := fun (v : World) (x : Value) (T' : Tq W v R ta tc x l o L (q + 1) al S) => q_pass T' ⟨#[59]⟩ (by rw [toList_byte]; simp) b (by rw [toList_byte]; exact hsc)
     have hZ' := (nmG_last hL (f := f) (out := out) (al := al) hb hc).symm.trans hZ
     rw [hsc] at hZ'
     generalize (nextT L q).2.1 = y1 at *
     have HR : Hid (Keep TY w wr ∧ (out ++ [y1], if b = true then (⟨q + 1 + 1, false, al⟩ : Rd) else ⟨q + 1, true, al⟩) = Z ∧ wr.ownsRow w.heap.size 9 1 (.slice a out.length c) out.length (flat encS out) ∧ Below W.heap.size W wr) := ⟨K, hZ', O, T.below⟩
     have hN' : (out ++ [y1]).length = out.length + 1 := by rw [List.length_append]; rfl
     generalize hN : out.length = N at *
     clear T O K hZ hZ' hf hg hn hL HH hb hc hq hsc
     go_wp2_with (first
      | (go_at_call 103; (with_reducible refine Calls.mono NM ?_); rintro e v1 ⟨rfl, T1, K1⟩; obtain ⟨x1, x2, x3, g1, g2, g3, hR1⟩ := T1.cells; have O1 := fun ob => ownsRow_below (ownsRow_keep HR.out.2.2.1 K1 ty_str) ((Below.refl _ v1).alloc (Nat.le_refl _) ob); have hB1 := (HR.out.1.trans K1).1)
      | (at_builtin; refine wpl_append_b (t := 22) (e := 9) Tryz.underlying22 infoStr rfl (by decide) (.tmp 17) (.tmp 19) rfl rfl _ w.heap.size (by simp; omega) _ N (flat encS out) v1.heap.size (encS y1) rfl rfl (O1 _) (BoxC.new v1 #[.string y1] 9).isc (by simp [encS, Value.oneCell']) m1 m2 ?_; intro a6 c6 v6 o6 g6; have hWw : W.heap.size ≤ w.heap.size := HW.out; have b6 : Below W.heap.size W v6 := (T1.below.alloc T1.below.size (.cells #[.string y1] 9)).grown g6 (Nat.le_trans T1.below.size (by simp)) (fun k hk => Nat.le_trans hWw ((O1 (.cells #[.string y1] 9)).lt k hk).1); have T6 := (T1.more ((Below.refl _ v1).alloc (Nat.le_refl _) (.cells #[.string y1] 9))).keepU (Keep.grown_type (X := TS) (O1 (.cells #[.string y1] 9)) rfl g6) b6 ts_not.1 ts_not.2.1 ts_not.2.2.1 ts_not.2.2.2.1 ts_not.2.2.2.2; have K6 := ((HR.out.1.trans K1).alloc (.cells #[.string y1] 9)).grown_new (O1 (.cells #[.string y1] 9)) (Nat.le_refl _) g6; obtain ⟨x61, x62, x63, g61, g62, g63, hR6⟩ := T6.cells; have T7 := T6.setI (.slice a6 (N + 1) c6))
      | (go_at_call 67; (with_reducible refine Calls.mono (PS _ _ T7.1) ?_); rintro e v8 ⟨rfl, T8, K8⟩)
      | (go_at_call 67; (with_reducible refine Calls.mono (PE _ _ T8) ?_); rintro e v9 ⟨rfl, T9, K9⟩))
     go_ret
     obtain ⟨K, rfl, -, -⟩ := HR.out
     cases b with
     | true => exact ⟨rfl, ⟨a6, N + 1, c6, T9, fun _ => ⟨hN'.symm, by rw [flat_append, flat_one]; exact ownsRow_keep (ownsRow_keep (ownsRow_keep o6 T7.2 ty_str) K8 ty_str) K9 ty_str⟩⟩, ((K6.trans T7.2).trans K8).trans K9⟩
     | false => exact ⟨rfl, ⟨a6, N + 1, c6, T9, fun q => absurd q (by simp)⟩, ((K6.trans T7.2).trans K8).trans K9⟩
def AnsN3 (W w : World) (R : Nat) (ta : Option Addr) (tc : Nat) (i l : Value) (L : List Tok) (al : List Nd) (S : List It) (Z : List ByteArray × Rd) (e : Ending) (w' : World) : Prop :=
 e = .returned (.bool (!Z.2.bad)) ∧ (∃ a n c, Tq W w' R ta tc i l (.slice a n c) L Z.2.pos al S ∧ (Z.2.bad = false → n = Z.1.length ∧ w'.ownsRow w.heap.size 9 1 (.slice a n c) n (flat encS Z.1))) ∧ Keep TY w w'
theorem q_names3 (h : Tq W w R ta tc i l (.slice none 0 0) L p al S) (hL : Toks L) :
  Calls Tryz.prog 68 #[.pointer (some ⟨R, 0, none⟩), .pointer (some ⟨R, 3, none⟩)] w (AnsN3 W w R ta tc i l L al S (namesI L ⟨p, false, al⟩)) := by
 rw [names_nmG]
 obtain ⟨Z, hZ⟩ : ∃ Z, nmG L (L.length + 1) [] ⟨p, false, al⟩ = Z := ⟨_, rfl⟩
 rw [hZ]
 have HH : Hid (Tq W w R ta tc i l (.slice none 0 0) L p al S ∧ Toks L ∧ nmG L (L.length + 1) [] ⟨p, false, al⟩ = Z ∧ w.ownsRow w.heap.size 9 1 (.slice none 0 0) 0 []) := ⟨h, hL, hZ, World.ownsRow_nil _ _ _ _⟩
 have HW : Hid (W.heap.size ≤ w.heap.size) := h.below.size
 clear h hL hZ
 go_enter Tryz.func68, Tryz.ntmps68
 go_wp2
 go_loopg [5] (L.length - p + 1) (fun g s5 v => ∃ (a : Option Addr) (c f q : Nat) (out : List ByteArray), s5 = s5 ∧ Tq W v R ta tc i l (.slice a out.length c) L q al S ∧ v.ownsRow w.heap.size 9 1 (.slice a out.length c) out.length (flat encS out) ∧ Keep TY w v ∧ nmG L f out ⟨q, false, al⟩ = Z ∧ L.length - q < f ∧ L.length - q + 1 ≤ g ∧ out.length + (L.length - q) ≤ 5000)
 case atStart => exact ⟨none, 0, L.length + 1, p, [], rfl, HH.out.1, HH.out.2.2.2, Keep.refl TY w, HH.out.2.2.1, by omega, Nat.le_refl _, by have := HH.out.2.1.len; show 0 + _ ≤ _; omega⟩
 case round =>
  obtain ⟨a, c, f, q, out, -, T, O, K, hZ, hf, hg, hn⟩ := hrel
  have hL := HH.out.2.1
  cases f with
  | zero => omega
  | succ f =>
   cases hb : nameB (nextT L q).2.1 with
   | false =>
    have NM := q_name T hL false hb
    simp only [Bool.false_eq_true, if_false] at NM
    have hz := nmG_no (f := f + 1) (out := out) (al := al) hb
    rw [hZ] at hz
    obtain ⟨Z1, Z2⟩ := Z
    dsimp only at hz
    subst hz
    have HR : Hid (Keep TY w wr) := K
    generalize (nextT L q).2.1 = y1 at *
    clear T O K hZ hf hg hn hL HH hb
    go_wp2_with (go_at_call 103; (with_reducible refine Calls.mono NM ?_); rintro e w1 ⟨rfl, T1, K1⟩)
    go_ret
    exact ⟨rfl, ⟨a, out.length, c, T1, fun q => absurd q (by simp)⟩, HR.out.trans K1⟩
   | true =>
    have NM := q_name T hL true hb
    simp only [if_true] at NM
    have hq := (List.getElem?_eq_some_iff.1 (name_yes hL (all := al) hb).2.choose_spec.1).1
    have m1 : out.length + 1 ≤ maxLen := by unfold maxLen; omega
    have m2 : (out.length + 1) * 16 ≤ 140737488355328 := by omega
    cases hc : ((nextT L (q + 1)).2.1.toList == [44]) with
    | true =>
     have PS := fun (v : World) (x : Value) (T' : Tq W v R ta tc i l x L (q + 1) al S) => q_pass T' ⟨#[44]⟩ (by rw [toList_byte]; simp) true (by rw [toList_byte]; exact hc)
     simp only [if_true] at PS
     have hZ' := (nmG_more hL (f := f) (out := out) (al := al) hb hc).symm.trans hZ
     generalize (nextT L q).2.1 = y1 at *
     have HR : Hid (Keep TY w wr ∧ nmG L f (out ++ [y1]) ⟨q + 1 + 1, false, al⟩ = Z ∧ L.length - q < f + 1 ∧ L.length - q + 1 ≤ gk ∧ out.length + (L.length - q) ≤ 5000 ∧ q < L.length ∧ wr.ownsRow w.heap.size 9 1 (.slice a out.length c) out.length (flat encS out) ∧ Below W.heap.size W wr) := ⟨K, hZ', hf, hg, hn, hq, O, T.below⟩
     have hN' : (out ++ [y1]).length = out.length + 1 := by rw [List.length_append]; rfl
     generalize hN : out.length = N at *
     clear T O K hZ hZ' hf hg hn hL HH hb hc hq
     go_wp2_with (first
      | (go_at_call 103; (with_reducible refine Calls.mono NM ?_); rintro e v1 ⟨rfl, T1, K1⟩; obtain ⟨x1, x2, x3, g1, g2, g3, hR1⟩ := T1.cells; have O1 := fun ob => ownsRow_below (ownsRow_keep HR.out.2.2.2.2.2.2.1 K1 ty_str) ((Below.refl _ v1).alloc (Nat.le_refl _) ob); have hB1 := (HR.out.1.trans K1).1)
      | (at_builtin; refine wpl_append_b (t := 22) (e := 9) Tryz.underlying22 infoStr rfl (by decide) (.tmp 17) (.tmp 19) rfl rfl _ w.heap.size (by simp; omega) _ N (flat encS out) v1.heap.size (encS y1) rfl rfl (O1 _) (BoxC.new v1 #[.string y1] 9).isc (by simp [encS, Value.oneCell']) m1 m2 ?_; intro a6 c6 v6 o6 g6; have hWw : W.heap.size ≤ w.heap.size := HW.out; have b6 : Below W.heap.size W v6 := (T1.below.alloc T1.below.size (.cells #[.string y1] 9)).grown g6 (Nat.le_trans T1.below.size (by simp)) (fun k hk => Nat.le_trans hWw ((O1 (.cells #[.string y1] 9)).lt k hk).1); have T6 := (T1.more ((Below.refl _ v1).alloc (Nat.le_refl _) (.cells #[.string y1] 9))).keepU (Keep.grown_type (X := TS) (O1 (.cells #[.string y1] 9)) rfl g6) b6 ts_not.1 ts_not.2.1 ts_not.2.2.1 ts_not.2.2.2.1 ts_not.2.2.2.2; have K6 := ((HR.out.1.trans K1).alloc (.cells #[.string y1] 9)).grown_new (O1 (.cells #[.string y1] 9)) (Nat.le_refl _) g6; obtain ⟨x61, x62, x63, g61, g62, g63, hR6⟩ := T6.cells; have T7 := T6.setO (.slice a6 (N + 1) c6))
      | (go_at_call 67; (with_reducible refine Calls.mono (PS _ _ T7.1) ?_); rintro e v8 ⟨rfl, T8, K8⟩))
     obtain ⟨K, hZ, hf, hg, hn, hq, -, -⟩ := HR.out
     go_roundg (L.length - (q + 1 + 1) + 1)
     case measure => omega
     case rel => exact ⟨a6, c6, f, q + 1 + 1, out ++ [y1], trivial, by rw [hN']; exact T8, by rw [hN', flat_append, flat_one]; exact ownsRow_keep (ownsRow_keep o6 T7.2 ty_str) K8 ty_str, (K6.trans T7.2).trans K8, hZ, by omega, Nat.le_refl _, by rw [hN']; omega⟩
    | false =>
     have PS := fun (v : World) (x : Value) (T' : Tq W v R ta tc i l x L (q + 1) al S) => q_pass T' ⟨#[44]⟩ (by rw [toList_byte]; simp) false (by rw [toList_byte]; exact hc)
     simp only [Bool.false_eq_true, if_false] at PS
     obtain ⟨b, hsc⟩ : ∃ b, ((nextT L (q + 1)).2.1.toList == [59]) = b := ⟨_, rfl⟩
     have PE := fun (v : World) (x : Value) (T' : Tq W v R ta tc i l x L (q + 1) al S) => q_pass T' ⟨#[59]⟩ (by rw [toList_byte]; simp) b (by rw [toList_byte]; exact hsc)
     have hZ' := (nmG_last hL (f := f) (out := out) (al := al) hb hc).symm.trans hZ
     rw [hsc] at hZ'
     generalize (nextT L q).2.1 = y1 at *
     have HR : Hid (Keep TY w wr ∧ (out ++ [y1], if b = true then (⟨q + 1 + 1, false, al⟩ : Rd) else ⟨q + 1, true, al⟩) = Z ∧ wr.ownsRow w.heap.size 9 1 (.slice a out.length c) out.length (flat encS out) ∧ Below W.heap.size W wr) := ⟨K, hZ', O, T.below⟩
     have hN' : (out ++ [y1]).length = out.length + 1 := by rw [List.length_append]; rfl
     generalize hN : out.length = N at *
     clear T O K hZ hZ' hf hg hn hL HH hb hc hq hsc
     go_wp2_with (first
      | (go_at_call 103; (with_reducible refine Calls.mono NM ?_); rintro e v1 ⟨rfl, T1, K1⟩; obtain ⟨x1, x2, x3, g1, g2, g3, hR1⟩ := T1.cells; have O1 := fun ob => ownsRow_below (ownsRow_keep HR.out.2.2.1 K1 ty_str) ((Below.refl _ v1).alloc (Nat.le_refl _) ob); have hB1 := (HR.out.1.trans K1).1)
      | (at_builtin; refine wpl_append_b (t := 22) (e := 9) Tryz.underlying22 infoStr rfl (by decide) (.tmp 17) (.tmp 19) rfl rfl _ w.heap.size (by simp; omega) _ N (flat encS out) v1.heap.size (encS y1) rfl rfl (O1 _) (BoxC.new v1 #[.string y1] 9).isc (by simp [encS, Value.oneCell']) m1 m2 ?_; intro a6 c6 v6 o6 g6; have hWw : W.heap.size ≤ w.heap.size := HW.out; have b6 : Below W.heap.size W v6 := (T1.below.alloc T1.below.size (.cells #[.string y1] 9)).grown g6 (Nat.le_trans T1.below.size (by simp)) (fun k hk => Nat.le_trans hWw ((O1 (.cells #[.string y1] 9)).lt k hk).1); have T6 := (T1.more ((Below.refl _ v1).alloc (Nat.le_refl _) (.cells #[.string y1] 9))).keepU (Keep.grown_type (X := TS) (O1 (.cells #[.string y1] 9)) rfl g6) b6 ts_not.1 ts_not.2.1 ts_not.2.2.1 ts_not.2.2.2.1 ts_not.2.2.2.2; have K6 := ((HR.out.1.trans K1).alloc (.cells #[.string y1] 9)).grown_new (O1 (.cells #[.string y1] 9)) (Nat.le_refl _) g6; obtain ⟨x61, x62, x63, g61, g62, g63, hR6⟩ := T6.cells; have T7 := T6.setO (.slice a6 (N + 1) c6))
      | (go_at_call 67; (with_reducible refine Calls.mono (PS _ _ T7.1) ?_); rintro e v8 ⟨rfl, T8, K8⟩)
      | (go_at_call 67; (with_reducible refine Calls.mono (PE _ _ T8) ?_); rintro e v9 ⟨rfl, T9, K9⟩))
     go_ret
     obtain ⟨K, rfl, -, -⟩ := HR.out
     cases b with
     | true => exact ⟨rfl, ⟨a6, N + 1, c6, T9, fun _ => ⟨hN'.symm, by rw [flat_append, flat_one]; exact ownsRow_keep (ownsRow_keep (ownsRow_keep o6 T7.2 ty_str) K8 ty_str) K9 ty_str⟩⟩, ((K6.trans T7.2).trans K8).trans K9⟩
     | false => exact ⟨rfl, ⟨a6, N + 1, c6, T9, fun q => absurd q (by simp)⟩, ((K6.trans T7.2).trans K8).trans K9⟩
end
end
section
open Go.RowKit Go.Lib
def TYL (T : TypeId) : Prop := TY T ∨ T = 52
theorem tyl_str : ¬ TYL 9 := by unfold TYL TY; decide
theorem Keep.tyl {w w' : World} (h : Keep TY w w') : Keep TYL w w' := h.mono fun _ q => .inl q
theorem tl_not : ¬ TL 70 ∧ ¬ TL 47 ∧ ¬ TL 110 ∧ ¬ TL 85 ∧ ¬ TL 20 := by unfold TL; decide
theorem bad_oneLet (L : List Tok) {q : Rd} (r : Rd) (hb : ((r.nameT L).2.want L 2 [61]).bad = true) (hp : ((r.nameT L).2.want L 2 [61]).pos = q.pos) : (oneLet numT L r).2.bad = true ∧ (oneLet numT L r).2.pos = q.pos := by
 unfold oneLet
 dsimp only
 have on := (on_exprI numT L 0 0 ((r.nameT L).2.want L 2 [61])).bad hb
 have on2 := (Rd.on_want L (exprI numT L 0 0 ((r.nameT L).2.want L 2 [61])).2 2 [59]).bad on.1
 exact ⟨on2.1, by rw [on2.2, on.2, hp]⟩
theorem one_noname {L : List Tok} {p : Nat} {al : List Nd} (h : nameB (nextT L p).2.1 = false) : (oneLet numT L ⟨p, false, al⟩).2.bad = true ∧ (oneLet numT L ⟨p, false, al⟩).2.pos = p :=
 bad_oneLet L (q := ⟨p, true, al⟩) _ (by rw [name_no h]; dsimp only; rw [bad_want]) (by rw [name_no h]; dsimp only; rw [bad_want])
theorem want_no {L : List Tok} (hL : Toks L) {p : Nat} {al : List Nd} {c : UInt8} (hc : kindI c.toNat = 4) (h : ((nextT L p).2.1.toList == [c]) = false) : (⟨p, false, al⟩ : Rd).want L 2 [c] = ⟨p, true, al⟩ := by
 unfold Rd.want
 rw [hL.mark rfl hc, if_neg (by rw [h]; simp)]; rfl
theorem want_yes {L : List Tok} (hL : Toks L) {p : Nat} {al : List Nd} {c : UInt8} (hc : kindI c.toNat = 4) (h : ((nextT L p).2.1.toList == [c]) = true) : (⟨p, false, al⟩ : Rd).want L 2 [c] = ⟨p + 1, false, al⟩ := by
 unfold Rd.want
 rw [hL.mark rfl hc, if_pos h]; rfl
theorem one_noeq {L : List Tok} (hL : Toks L) {p : Nat} {al : List Nd} (h : nameB (nextT L p).2.1 = true) (he : ((nextT L (p + 1)).2.1.toList == [61]) = false) : (oneLet numT L ⟨p, false, al⟩).2.bad = true ∧ (oneLet numT L ⟨p, false, al⟩).2.pos = p + 1 :=
 bad_oneLet L (q := ⟨p + 1, true, al⟩) _ (by rw [(name_yes hL h).1]; dsimp only; rw [want_no hL (by decide) he]) (by rw [(name_yes hL h).1]; dsimp only; rw [want_no hL (by decide) he])
theorem one_sum {L : List Tok} (hL : Toks L) {p : Nat} {al : List Nd} (h : nameB (nextT L p).2.1 = true) (he : ((nextT L (p + 1)).2.1.toList == [61]) = true) : oneLet numT L ⟨p, false, al⟩ = (((nextT L p).2.1, (exprI numT L 0 0 ⟨p + 1 + 1, false, al⟩).1), (exprI numT L 0 0 ⟨p + 1 + 1, false, al⟩).2.want L 2 [59]) := by
 unfold oneLet
 rw [(name_yes hL h).1]
 dsimp only
 rw [want_yes hL (by decide) he]
section
variable {W w w' : World} {R : Nat} {ta : Option Addr} {tc : Nat} {i l o : Value} {L : List Tok} {p : Nat} {al : List Nd} {S : List It}
def AnsLet (B : Nat) (W w : World) (R : Nat) (ta : Option Addr) (tc : Nat) (i o : Value) (L : List Tok) (ls : List (ByteArray × Int)) (Z : (ByteArray × Int) × Rd) (e : Ending) (w' : World) : Prop :=
 e = .returned (.bool (!Z.2.bad)) ∧ (∃ a n c al' S', Tq W w' R ta tc i (.slice a n c) o L Z.2.pos al' S' ∧ (Z.2.bad = false → al' = Z.2.all ∧ S' = [] ∧ n = ls.length + 1 ∧ w'.ownsRow B 52 2 (.slice a n c) n (flat encL (ls ++ [Z.1])))) ∧ Keep TYL w w'
theorem ansLet_bad {B : Nat} {ls : List (ByteArray × Int)} {Z : (ByteArray × Int) × Rd} {q n c : Nat} {a : Option Addr} {al' : List Nd} (hb : Z.2.bad = true) (hp : Z.2.pos = q) (T : Tq W w' R ta tc i (.slice a n c) o L q al' S) (K : Keep TYL w w') : AnsLet B W w R ta tc i o L ls Z (.returned (.bool false)) w' := by
 unfold AnsLet
 rw [hb, hp]
 exact ⟨rfl, ⟨a, n, c, al', S, T, fun q => absurd q (by simp)⟩, K⟩
theorem q_let {B : Nat} {a : Option Addr} {c : Nat} {ls : List (ByteArray × Int)} (h : Tq W w R ta tc i (.slice a ls.length c) o L p al []) (hL : Toks L) (he : ErrV W) (hB : W.heap.size ≤ B) (hBw : B ≤ w.heap.size) (O : w.ownsRow B 52 2 (.slice a ls.length c) ls.length (flat encL ls)) (hc : al.length + 2 * (L.length - p) ≤ 20000) (hl : ls.length ≤ 5000) :
  Calls Tryz.prog 104 #[.pointer (some ⟨R, 0, none⟩)] w (AnsLet B W w R ta tc i o L ls (oneLet numT L ⟨p, false, al⟩)) := by
 have HH : Hid (Tq W w R ta tc i (.slice a ls.length c) o L p al [] ∧ w.ownsRow B 52 2 (.slice a ls.length c) ls.length (flat encL ls)) := ⟨h, O⟩
 cases hb : nameB (nextT L p).2.1 with
 | false =>
  have NM := q_name h hL false hb
  simp only [Bool.false_eq_true, if_false] at NM
  obtain ⟨z1, z2⟩ := one_noname (al := al) hb
  have HR : Hid _ := And.intro z1 z2
  generalize (nextT L p).2.1 = y1 at *
  clear h hL he hB O hc hl hb z1 z2
  go_enter Tryz.func104, Tryz.ntmps104
  go_wp2_with (go_at_call 103; (with_reducible refine Calls.mono NM ?_); rintro e w1 ⟨rfl, T1, K1⟩)
  go_ret
  exact ansLet_bad HR.out.1 HR.out.2 T1 K1.tyl
 | true =>
  have NM := q_name h hL true hb
  simp only [if_true] at NM
  cases hq : ((nextT L (p + 1)).2.1.toList == [61]) with
  | false =>
   have PS := fun (v : World) (T' : Tq W v R ta tc i (.slice a ls.length c) o L (p + 1) al []) => q_pass T' ⟨#[61]⟩ (by rw [toList_byte]; simp) false (by rw [toList_byte]; exact hq)
   simp only [Bool.false_eq_true, if_false] at PS
   obtain ⟨z1, z2⟩ := one_noeq hL (al := al) hb hq
   have HR : Hid _ := And.intro z1 z2
   generalize (nextT L p).2.1 = y1 at *
   clear h hL he hB O hc hl hb z1 z2 hq
   go_enter Tryz.func104, Tryz.ntmps104
   go_wp2_with (first
    | (go_at_call 103; (with_reducible refine Calls.mono NM ?_); rintro e w1 ⟨rfl, T1, K1⟩)
    | (go_at_call 67; (with_reducible refine Calls.mono (PS _ T1) ?_); rintro e w2 ⟨rfl, T2, K2⟩))
   go_ret
   exact ansLet_bad HR.out.1 HR.out.2 T2 (K1.trans K2).tyl
  | true =>
   have PS := fun (v : World) (T' : Tq W v R ta tc i (.slice a ls.length c) o L (p + 1) al []) => q_pass T' ⟨#[61]⟩ (by rw [toList_byte]; simp) true (by rw [toList_byte]; exact hq)
   simp only [if_true] at PS
   rw [one_sum hL hb hq]
   obtain ⟨Y, hY⟩ : ∃ Y, exprI numT L 0 0 ⟨p + 1 + 1, false, al⟩ = Y := ⟨_, rfl⟩
   have SM := fun (v : World) (T' : Tq W v R ta tc i (.slice a ls.length c) o L (p + 1 + 1) al []) => q_sum T' hL he (by omega) hY
   rw [hY]
   unfold AnsS at SM
   cases hYb : Y.2.bad with
   | true =>
    have hw : Y.2.want L 2 [59] = Y.2 := by
     obtain ⟨Y1, Y2, Y3, Y4⟩ := Y
     dsimp only at hYb
     subst hYb
     exact bad_want L _ _ _ _
    rw [hw]
    rw [hYb] at SM
    have HR : Hid (Y.2.bad = true) := hYb
    generalize (nextT L p).2.1 = y1 at *
    clear h hL he hB O hc hl hb hq hY hw
    go_enter Tryz.func104, Tryz.ntmps104
    go_wp2_with (first
     | (go_at_call 103; (with_reducible refine Calls.mono NM ?_); rintro e w1 ⟨rfl, T1, K1⟩)
     | (go_at_call 67; (with_reducible refine Calls.mono (PS _ T1) ?_); rintro e w2 ⟨rfl, T2, K2⟩)
     | (go_at_call 131; (with_reducible refine Calls.mono (SM _ T2) ?_); rintro e w3 ⟨rfl, ⟨al3, S3, T3, -⟩, K3⟩))
    go_ret
    exact ansLet_bad HR.out rfl T3 ((K1.trans K2).trans K3).tyl
   | false =>
    rw [hYb] at SM
    obtain ⟨b, hsc⟩ : ∃ b, ((nextT L Y.2.pos).2.1.toList == [59]) = b := ⟨_, rfl⟩
    have PE := fun (v : World) (x : Value) (T' : Tq W v R ta tc i x o L Y.2.pos Y.2.all []) => q_pass T' ⟨#[59]⟩ (by rw [toList_byte]; simp) b (by rw [toList_byte]; exact hsc)
    have hw : Y.2.want L 2 [59] = if b = true then ⟨Y.2.pos + 1, false, Y.2.all⟩ else ⟨Y.2.pos, true, Y.2.all⟩ := by
     rw [← rd_eta hYb]
     dsimp only
     cases b with
     | true => rw [want_yes hL (by decide) hsc]; rfl
     | false => rw [want_no hL (by decide) hsc]; rfl
    generalize Y.2.want L 2 [59] = r2 at *
    have HQ : Hid (r2 = if b = true then ⟨Y.2.pos + 1, false, Y.2.all⟩ else ⟨Y.2.pos, true, Y.2.all⟩) := hw
    have m1 : ls.length + 1 ≤ maxLen := by unfold maxLen; omega
    have m2 : (ls.length + 1) * 24 ≤ 140737488355328 := by omega
    generalize (nextT L p).2.1 = y1 at *
    generalize Y.1 = root at *
    generalize hN : ls.length = N at *
    have HW : Hid (W.heap.size ≤ B ∧ B ≤ w.heap.size) := ⟨hB, hBw⟩
    clear h hL he hB hBw O hc hl hb hq hY hw hsc
    go_enter Tryz.func104, Tryz.ntmps104
    go_wp2_with (first
     | (go_at_call 103; (with_reducible refine Calls.mono NM ?_); rintro e w1 ⟨rfl, T1, K1⟩)
     | (go_at_call 67; (with_reducible refine Calls.mono (PS _ T1) ?_); rintro e w2 ⟨rfl, T2, K2⟩)
     | (go_at_call 131; (with_reducible refine Calls.mono (SM _ T2) ?_); rintro e w3 ⟨rfl, ⟨al3, S3, T3, h3⟩, K3⟩; obtain ⟨rfl, rfl⟩ := h3 trivial; obtain ⟨x1, x2, x3, g1, g2, g3, hR1⟩ := T3.cells; have KA := (K1.trans K2).trans K3; have O3 := fun ob => ownsRow_below (ownsRow_keep HH.out.2 KA ty_let) ((Below.refl _ w3).alloc (Nat.le_refl _) ob); have hB3 : B ≤ w3.heap.size := Nat.le_trans HW.out.2 KA.1)
     | (at_builtin; refine wpl_append_b (t := 23) (e := 52) Tryz.underlying23 infoLet rfl (by decide) (.tmp 30) (.tmp 34) rfl rfl _ B (by simp; omega) _ N (flat encL ls) w3.heap.size (encL (y1, root)) rfl rfl (O3 _) (BoxC.new w3 #[.string y1, .int .i64 root] 52).isc (by simp [encL, Value.oneCell']) m1 m2 ?_; intro a6 c6 v6 o6 g6; have b6 : Below W.heap.size W v6 := (T3.below.alloc T3.below.size (.cells #[.string y1, .int .i64 root] 52)).grown g6 (Nat.le_trans T3.below.size (by simp)) (fun k hk => Nat.le_trans HW.out.1 ((O3 (.cells #[.string y1, .int .i64 root] 52)).lt k hk).1); have T6 := (T3.more ((Below.refl _ w3).alloc (Nat.le_refl _) (.cells #[.string y1, .int .i64 root] 52))).keepU (Keep.grown_type (X := TL) (O3 (.cells #[.string y1, .int .i64 root] 52)) rfl g6) b6 tl_not.1 tl_not.2.1 tl_not.2.2.1 tl_not.2.2.2.1 tl_not.2.2.2.2; have K6 : Keep TYL w v6 := ((KA.alloc (.cells #[.string y1, .int .i64 root] 52)).tyl).trans (Keep.grown_type (O3 (.cells #[.string y1, .int .i64 root] 52)) (.inr rfl) g6); obtain ⟨x61, x62, x63, g61, g62, g63, hR6⟩ := T6.cells; have T7 := T6.setL (.slice a6 (N + 1) c6))
     | (go_at_call 67; (with_reducible refine Calls.mono (PE _ _ T7.1) ?_); rintro e v8 ⟨rfl, T8, K8⟩))
    go_ret
    obtain rfl := HQ.out
    cases b with
    | true => exact ⟨rfl, ⟨a6, N + 1, c6, Y.2.all, [], T8, fun _ => ⟨rfl, rfl, by rw [hN], by rw [flat_append, flat_one]; exact ownsRow_keep (ownsRow_keep o6 T7.2 ty_let) K8 ty_let⟩⟩, (K6.trans T7.2.tyl).trans K8.tyl⟩
    | false => exact ⟨rfl, ⟨a6, N + 1, c6, Y.2.all, [], T8, fun q => absurd q (by simp)⟩, (K6.trans T7.2.tyl).trans K8.tyl⟩
end
end
section
open Go.RowKit Go.Lib
theorem lets_no {L : List Tok} (hL : Toks L) {f p : Nat} {al : List Nd} {ls : List (ByteArray × Int)} (h : ((nextT L p).2.1.toList == [108, 101, 116]) = false) : letsF numT L (f + 1) ls ⟨p, false, al⟩ = (ls, ⟨p, false, al⟩) :=
 if_neg (by rw [hL.word rfl (by decide)]; show ¬ ((nextT L p).2.1.toList == [108, 101, 116]) = true; rw [h]; simp)
theorem lets_yes {L : List Tok} (hL : Toks L) {f p : Nat} {al : List Nd} {ls : List (ByteArray × Int)} (h : ((nextT L p).2.1.toList == [108, 101, 116]) = true) : letsF numT L (f + 1) ls ⟨p, false, al⟩ = letsF numT L f (ls ++ [(oneLet numT L ⟨p + 1, false, al⟩).1]) (oneLet numT L ⟨p + 1, false, al⟩).2 :=
 if_pos (by rw [hL.word rfl (by decide)]; exact h)
theorem lets_bad (L : List Tok) (f : Nat) (ls : List (ByteArray × Int)) {r : Rd} (h : r.bad = true) : letsF numT L f ls r = (ls, r) := by
 obtain ⟨p, b, al⟩ := r
 dsimp only at h
 subst h
 cases f with
 | zero => rfl
 | succ f => exact if_neg (by rw [bad_is]; simp)
section
variable {W w w' : World} {R : Nat} {ta : Option Addr} {tc : Nat} {i l o : Value} {L : List Tok} {p : Nat} {al : List Nd} {S : List It}
def AnsLets (W w : World) (R : Nat) (ta : Option Addr) (tc : Nat) (i o : Value) (L : List Tok) (Z : List (ByteArray × Int) × Rd) (e : Ending) (w' : World) : Prop :=
 e = .returned (.bool (!Z.2.bad)) ∧ (∃ a n c al' S', Tq W w' R ta tc i (.slice a n c) o L Z.2.pos al' S' ∧ (Z.2.bad = false → al' = Z.2.all ∧ S' = [] ∧ n = Z.1.length ∧ w'.ownsRow w.heap.size 52 2 (.slice a n c) n (flat encL Z.1))) ∧ Keep TYL w w'
theorem ansLets_bad {Z : List (ByteArray × Int) × Rd} {q n c : Nat} {a : Option Addr} {al' : List Nd} (hb : Z.2.bad = true) (hp : Z.2.pos = q) (T : Tq W w' R ta tc i (.slice a n c) o L q al' S) (K : Keep TYL w w') : AnsLets W w R ta tc i o L Z (.returned (.bool false)) w' := by
 unfold AnsLets
 rw [hb, hp]
 exact ⟨rfl, ⟨a, n, c, al', S, T, fun q => absurd q (by simp)⟩, K⟩
theorem q_lets (h : Tq W w R ta tc i (.slice none 0 0) o L p al []) (hL : Toks L) (he : ErrV W) (hc : al.length + 2 * (L.length - p) ≤ 20000) :
  Calls Tryz.prog 69 #[.pointer (some ⟨R, 0, none⟩)] w (AnsLets W w R ta tc i o L (letsF numT L (L.length + 1) [] ⟨p, false, al⟩)) := by
 obtain ⟨Z, hZ⟩ : ∃ Z, letsF numT L (L.length + 1) [] ⟨p, false, al⟩ = Z := ⟨_, rfl⟩
 rw [hZ]
 have HH : Hid (Tq W w R ta tc i (.slice none 0 0) o L p al [] ∧ Toks L ∧ letsF numT L (L.length + 1) [] ⟨p, false, al⟩ = Z ∧ w.ownsRow w.heap.size 52 2 (.slice none 0 0) 0 [] ∧ al.length + 2 * (L.length - p) ≤ 20000 ∧ ErrV W) := ⟨h, hL, hZ, World.ownsRow_nil _ _ _ _, hc, he⟩
 have HW : Hid (W.heap.size ≤ w.heap.size) := h.below.size
 clear h hL hZ hc he
 go_enter Tryz.func69, Tryz.ntmps69
 go_wp2
 go_loopg [3] (L.length - p + 1) (fun g s3 v => ∃ (a : Option Addr) (c f q : Nat) (ls : List (ByteArray × Int)) (al : List Nd), s3 = s3 ∧ Tq W v R ta tc i (.slice a ls.length c) o L q al [] ∧ v.ownsRow w.heap.size 52 2 (.slice a ls.length c) ls.length (flat encL ls) ∧ Keep TYL w v ∧ letsF numT L f ls ⟨q, false, al⟩ = Z ∧ L.length - q < f ∧ L.length - q + 1 ≤ g ∧ ls.length + (L.length - q) ≤ 5000 ∧ al.length + 2 * (L.length - q) ≤ 20000)
 case atStart => exact ⟨none, 0, L.length + 1, p, [], al, rfl, HH.out.1, HH.out.2.2.2.1, Keep.refl TYL w, HH.out.2.2.1, by omega, Nat.le_refl _, by have := HH.out.2.1.len; show 0 + _ ≤ _; omega, HH.out.2.2.2.2.1⟩
 case round =>
  obtain ⟨a, c, f, q, ls, al, -, T, O, K, hZ, hf, hg, hn, hc⟩ := hrel
  have hL := HH.out.2.1
  have he := HH.out.2.2.2.2.2
  cases f with
  | zero => omega
  | succ f =>
   cases hb : ((nextT L q).2.1.toList == [108, 101, 116]) with
   | false =>
    have ex : (⟨#[108, 101, 116]⟩ : ByteArray).toList = [108, 101, 116] := by rw [ByteArray.toList_eq]
    have PS := q_pass T ⟨#[108, 101, 116]⟩ (by rw [ex]; simp) false (by rw [ex]; exact hb)
    simp only [Bool.false_eq_true, if_false] at PS
    rw [lets_no hL hb] at hZ
    subst hZ
    have HR : Hid (Keep TYL w wr ∧ wr.ownsRow w.heap.size 52 2 (.slice a ls.length c) ls.length (flat encL ls)) := ⟨K, O⟩
    clear T O K hf hg hn hL HH hb hc he
    go_wp2_with (go_at_call 67; (with_reducible refine Calls.mono PS ?_); rintro e w1 ⟨rfl, T1, K1⟩)
    go_ret
    exact ⟨rfl, ⟨a, ls.length, c, al, [], T1, fun _ => ⟨rfl, rfl, rfl, ownsRow_keep HR.out.2 K1 ty_let⟩⟩, HR.out.1.trans K1.tyl⟩
   | true =>
    have ex : (⟨#[108, 101, 116]⟩ : ByteArray).toList = [108, 101, 116] := by rw [ByteArray.toList_eq]
    have hp := next_lt (x := ⟨#[108, 101, 116]⟩) (by rw [ex]; exact hb) (by rw [ex]; simp)
    have PS := q_pass T ⟨#[108, 101, 116]⟩ (by rw [ex]; simp) true (by rw [ex]; exact hb)
    simp only [if_true] at PS
    rw [lets_yes hL hb] at hZ
    have O2 := fun (v : World) (k : Keep TY wr v) => ownsRow_keep O k ty_let
    have LT := fun (v : World) (T' : Tq W v R ta tc i (.slice a ls.length c) o L (q + 1) al []) (k : Keep TY wr v) => q_let T' hL he HW.out (Nat.le_trans K.1 k.1) (O2 v k) (by omega) (by omega)
    have on := (Rd.on_want L (exprI numT L 0 0 (((⟨q + 1, false, al⟩ : Rd).nameT L).2.want L 2 [61])).2 2 [59]).pos
    have on2 := (on_exprI numT L 0 0 (((⟨q + 1, false, al⟩ : Rd).nameT L).2.want L 2 [61])).pos
    have on3 := (Rd.on_want L ((⟨q + 1, false, al⟩ : Rd).nameT L).2 2 [61]).pos
    have on4 := (Rd.on_name L (⟨q + 1, false, al⟩ : Rd)).pos
    have on5 : q + 1 ≤ (oneLet numT L ⟨q + 1, false, al⟩).2.pos := Nat.le_trans (Nat.le_trans (Nat.le_trans on4 on3) on2) on
    have cn := cnt_let L ⟨q + 1, false, al⟩
    unfold cnt at cn
    dsimp only at cn
    clear on on2 on3 on4
    generalize oneLet numT L ⟨q + 1, false, al⟩ = Y at *
    unfold AnsLet at LT
    cases hYb : Y.2.bad with
    | true =>
     rw [lets_bad L f _ hYb] at hZ
     subst hZ
     rw [hYb] at LT
     have HR : Hid (Keep TYL w wr ∧ Y.2.bad = true) := ⟨K, hYb⟩
     clear T O K hf hg hn hL HH hb hc he O2 hp cn on5
     go_wp2_with (first
      | (go_at_call 67; (with_reducible refine Calls.mono PS ?_); rintro e w1 ⟨rfl, T1, K1⟩)
      | (go_at_call 104; (with_reducible refine Calls.mono (LT _ T1 K1) ?_); rintro e w2 ⟨rfl, ⟨a2, n2, c2, al2, S2, T2, -⟩, K2⟩))
     go_ret
     exact ansLets_bad HR.out.2 rfl T2 ((HR.out.1.trans K1.tyl).trans K2)
    | false =>
     rw [hYb] at LT
     rw [← rd_eta hYb] at hZ
     have HR : Hid (Keep TYL w wr ∧ letsF numT L f (ls ++ [Y.1]) ⟨Y.2.pos, false, Y.2.all⟩ = Z ∧ L.length - q < f + 1 ∧ L.length - q + 1 ≤ gk ∧ ls.length + (L.length - q) ≤ 5000 ∧ q < L.length ∧ q + 1 ≤ Y.2.pos ∧ Y.2.all.length + 2 * (L.length - Y.2.pos) ≤ 20000) := ⟨K, hZ, hf, hg, hn, hp, on5, by omega⟩
     have hN' : (ls ++ [Y.1]).length = ls.length + 1 := by rw [List.length_append]; rfl
     generalize hN : ls.length = N at *
     clear T O K hZ hf hg hn hL HH hb hc he O2 hp cn on5
     go_wp2_with (first
      | (go_at_call 67; (with_reducible refine Calls.mono PS ?_); rintro e w1 ⟨rfl, T1, K1⟩)
      | (go_at_call 104; (with_reducible refine Calls.mono (LT _ T1 K1) ?_); rintro e w2 ⟨rfl, ⟨a2, n2, c2, al2, S2, T2, h2⟩, K2⟩; obtain ⟨rfl, rfl, rfl, o2⟩ := h2 trivial))
     obtain ⟨K, hZ, hf, hg, hn, hp, on5, hc⟩ := HR.out
     go_roundg (L.length - Y.2.pos + 1)
     case measure => omega
     case rel => exact ⟨a2, c2, f, Y.2.pos, ls ++ [Y.1], Y.2.all, trivial, by rw [hN']; exact T2, by rw [hN']; exact o2, (K.trans K1.tyl).trans K2, hZ, by omega, Nat.le_refl _, by rw [hN']; omega, hc⟩
end
end
end Go.Proofs.YtaeladkcmpdkhaaGreatDoor
