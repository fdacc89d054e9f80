/-
  Texts of mine in build order. No conditions of their own.
-/
import Derived.Test.YtaeladkcmpdkhaaGreatDoorPack1
namespace Go.Proofs.YtaeladkcmpdkhaaGreatDoor
section
open Go.Lib
def RightT (k : Int) (x : ByteArray) : Prop := 0 < x.size ∧ tokenI x 0 = (k, x, x.size, 0)
theorem shifted_rest (s : ByteArray) {i : Nat} (hi : i ≤ s.size) : Shifted s (s.extract i s.size) i := by
 have hz : (s.extract i s.size).size = s.size - i := by rw [ByteArray.size_extract]; omega
 refine ⟨by omega, fun j => ?_⟩
 by_cases hj : j < (s.extract i s.size).size
 ·rw [bt_get (show i + j < s.size by omega), bt_get hj]
  congr 1
  show s.data[i + j]'_ = (s.extract i s.size).data[j]'_
  simp only [ByteArray.data_extract, Array.getElem_extract]
 ·have e1 : bt s (i + j) = 0 := by unfold bt; rw [bt_data, getElem!_def, Array.getElem?_eq_none (show s.data.size ≤ i + j from by show s.size ≤ i + j; omega)]; rfl
  have e2 : bt (s.extract i s.size) j = 0 := by unfold bt; rw [bt_data, getElem!_def, Array.getElem?_eq_none (show (s.extract i s.size).data.size ≤ j from by show (s.extract i s.size).size ≤ j; omega)]; rfl
  rw [e1, e2]
theorem tokenI_right {s : ByteArray} {i : Nat} (hi : i < s.size) (h : (tokenI s i).2.2.2 = 0) : RightT (tokenI s i).1 (tokenI s i).2.1 := by
 have he := tokenI_end hi h
 obtain ⟨-, htx⟩ := tokenI_ok h
 have hk := tokenI_kind h
 have S := shifted_rest s (Nat.le_of_lt hi)
 have hT := S.token 0
 rw [Nat.add_zero] at hT
 have hkS := (S.kind 0).1
 rw [Nat.add_zero] at hkS
 have hz := S.size
 have hx := S.extract 0 ((tokenI (s.extract i s.size) 0).2.2.1)
 generalize s.extract i s.size = t at *
 have e1 : (tokenI s i).2.2.1 = i + (tokenI t 0).2.2.1 := by rw [hT]
 have e2 : (tokenI s i).1 = (tokenI t 0).1 := by rw [hT]
 have e3 : (tokenI s i).2.1 = (tokenI t 0).2.1 := by rw [hT]
 have e4 : (tokenI t 0).2.2.2 = 0 := by rw [hT] at h; exact h
 have hend := tokenI_end (s := t) (i := 0) (by omega) e4
 obtain ⟨-, htx2⟩ := tokenI_ok e4
 have F := front t hend.2
 have hsz : (t.extract 0 (tokenI t 0).2.2.1).size = (tokenI t 0).2.2.1 := by rw [ByteArray.size_extract]; omega
 have hF := F.token (i := 0) (by omega) (by omega) (by rw [← hkS]; exact hk.1)
 unfold RightT
 rw [e2, e3]
 rw [htx2]
 refine ⟨by omega, ?_⟩
 rw [hF, hsz]
 refine Prod.ext rfl (Prod.ext htx2 (Prod.ext rfl e4))
theorem lexF_right (s : ByteArray) : ∀ f i out, (∀ t ∈ out, RightT t.1 t.2.1 ∧ t.2.1.size ≤ s.size) → ∀ t ∈ (lexF s f i out).1, RightT t.1 t.2.1 ∧ t.2.1.size ≤ s.size := by
 intro f
 induction f with
 | zero => intro i out h; exact h
 | succ f ih =>
  intro i out h
  unfold lexF
  by_cases hi : i < s.size
  ·rw [if_pos hi]
   by_cases h3 : kindAt s i = 3
   ·rw [if_pos h3]; exact ih _ _ h
   rw [if_neg h3]
   by_cases h4 : 4000 ≤ out.length
   ·rw [if_pos h4]; intro t ht; exact absurd ht (by simp)
   rw [if_neg h4]
   by_cases h5 : (tokenI s i).2.2.2 ≠ 0
   ·rw [if_pos h5]; intro t ht; exact absurd ht (by simp)
   rw [if_neg h5]
   have h5' := Decidable.not_not.1 h5
   refine ih _ _ (fun t ht => ?_)
   rcases List.mem_append.1 ht with ht | ht
   ·exact h t ht
   ·obtain rfl := List.mem_singleton.1 ht
    refine ⟨tokenI_right hi h5', ?_⟩
    show (tokenI s i).2.1.size ≤ s.size
    rw [(tokenI_ok h5').2, ByteArray.size_extract]; omega
  ·rw [if_neg hi]; exact h
end
section
open Go.Lib
def markB (c : UInt8) : Prop := c = 40 ∨ c = 41 ∨ c = 43 ∨ c = 45 ∨ c = 42 ∨ c = 47 ∨ c = 94 ∨ c = 44 ∨ c = 59 ∨ c = 61
def blankP (x : ByteArray) : Prop := x = ⟨#[32]⟩ ∨ x = ⟨#[10]⟩
def stops : List (Int × ByteArray) → Prop
 | [] => False
 | t :: _ => (t.1 = 3 ∧ blankP t.2) ∨ (t.1 = 2 ∧ ∃ c, markB c ∧ t.2 = ⟨#[c]⟩)
def joinP : List (Int × ByteArray) → ByteArray
 | [] => ⟨#[]⟩
 | t :: l => t.2 ++ joinP l
theorem joinP_app : ∀ (l m : List (Int × ByteArray)), joinP (l ++ m) = joinP l ++ joinP m := by
 intro l
 induction l with
 | nil => intro m; exact (ByteArray.empty_append (b := joinP m)).symm
 | cons t l ih => intro m; show t.2 ++ joinP (l ++ m) = (t.2 ++ joinP l) ++ joinP m; rw [ih, ByteArray.append_assoc]
end
section
open Go.Lib
structure Nd where
 kind : Int
 a : Int
 b : Int
 exp : Int
 name : ByteArray
 num : Bool × Nat × Nat
structure Rd where
 pos : Nat
 bad : Bool
 all : List Nd
def noText : ByteArray := ⟨#[]⟩
def Rd.is (L : List Tok) (r : Rd) (k : Int) (x : List UInt8) : Bool := !r.bad && (match L[r.pos]? with
 | some t => decide (t.1 = k) && (t.2.1.toList == x)
 | none => false)
def Rd.skip (r : Rd) : Rd := ⟨r.pos + 1, r.bad, r.all⟩
def Rd.wrong (r : Rd) : Rd := ⟨r.pos, true, r.all⟩
def Rd.want (L : List Tok) (r : Rd) (k : Int) (x : List UInt8) : Rd := if r.is L k x = true then r.skip else r.wrong
def Rd.nameT (L : List Tok) (r : Rd) : ByteArray × Rd := if r.bad = true then (noText, r.wrong) else match L[r.pos]? with
 | none => (noText, r.wrong)
 | some t => if t.1 = 0 ∧ nameB t.2.1 = true then (t.2.1, r.skip) else (noText, r.wrong)
def Rd.node (r : Rd) (n : Nd) : Int × Rd := (r.all.length, ⟨r.pos, r.bad, r.all ++ [n]⟩)
def expI (x : ByteArray) : Int := if x.size = 1 then (bt x 0 : Int) - 48 else if x.size = 2 ∧ bt x 1 ≠ 124 ∧ 10 * ((bt x 0 : Int) - 48) + bt x 1 - 48 ≤ 20 then 10 * ((bt x 0 : Int) - 48) + bt x 1 - 48 else -1
def Rd.powE (L : List Tok) (r : Rd) (a : Int) (fac : Int) : Int × Rd := if r.bad = true then (a, r.wrong) else match L[r.pos]? with
 | none => (a, r.wrong)
 | some t => if t.1 ≠ 1 then (a, r.wrong) else if expI t.2.1 < 0 then (a, r.wrong) else r.skip.node ⟨7, a, 0, fac * expI t.2.1, noText, (false, 0, 0)⟩
def Rd.powT (L : List Tok) (r : Rd) (a : Int) : Int × Rd := if r.is L 2 [94] = true then (if r.skip.is L 2 [45] = true then r.skip.skip.powE L a (-1) else r.skip.powE L a 1) else (a, r)
def Rd.leaf (num : ByteArray → Bool × Nat × Nat) (L : List Tok) (r : Rd) : Int × Rd := match (if r.bad = true then none else L[r.pos]?) with
 | some t => if t.1 = 1 then r.skip.node ⟨1, 0, 0, 0, noText, num t.2.1⟩ else (r.nameT L).2.node ⟨0, 0, 0, 0, (r.nameT L).1, (false, 0, 0)⟩
 | none => (r.nameT L).2.node ⟨0, 0, 0, 0, (r.nameT L).1, (false, 0, 0)⟩
def exprF (num : ByteArray → Bool × Nat × Nat) (L : List Tok) : Nat → Nat → Int → Rd → Int × Rd
  | 0, _, a, r => (a, r)
  | f + 1, 0, _, r => exprF num L f 1 (exprF num L f 2 0 r).1 (exprF num L f 2 0 r).2
  | f + 1, 1, a, r => if (r.is L 2 [43] || r.is L 2 [45]) = true then
      exprF num L f 1 ((exprF num L f 2 0 r.skip).2.node ⟨if r.is L 2 [45] = true then 3 else 2, a, (exprF num L f 2 0 r.skip).1, 0, noText, (false, 0, 0)⟩).1 ((exprF num L f 2 0 r.skip).2.node ⟨if r.is L 2 [45] = true then 3 else 2, a, (exprF num L f 2 0 r.skip).1, 0, noText, (false, 0, 0)⟩).2
    else (a, r)
  | f + 1, 2, _, r => exprF num L f 3 (exprF num L f 4 0 r).1 (exprF num L f 4 0 r).2
  | f + 1, 3, a, r => if (r.is L 2 [42] || r.is L 2 [47]) = true then
      exprF num L f 3 ((exprF num L f 4 0 r.skip).2.node ⟨if r.is L 2 [47] = true then 5 else 4, a, (exprF num L f 4 0 r.skip).1, 0, noText, (false, 0, 0)⟩).1 ((exprF num L f 4 0 r.skip).2.node ⟨if r.is L 2 [47] = true then 5 else 4, a, (exprF num L f 4 0 r.skip).1, 0, noText, (false, 0, 0)⟩).2
    else (a, r)
  | f + 1, 4, _, r => if r.is L 2 [45] = true then (exprF num L f 4 0 r.skip).2.node ⟨6, (exprF num L f 4 0 r.skip).1, 0, 0, noText, (false, 0, 0)⟩ else exprF num L f 5 0 r
  | f + 1, 5, _, r => (exprF num L f 6 0 r).2.powT L (exprF num L f 6 0 r).1
  | f + 1, _ + 6, _, r => if r.is L 2 [40] = true then ((exprF num L f 0 0 r.skip).1, (exprF num L f 0 0 r.skip).2.want L 2 [41]) else r.leaf num L
theorem Rd.is_in {L : List Tok} {r : Rd} {k : Int} {x : List UInt8} (h : r.is L k x = true) : r.bad = false ∧ r.pos < L.length := by
 unfold Rd.is at h
 rw [Bool.and_eq_true] at h
 refine ⟨by simpa using h.1, ?_⟩
 rcases Nat.lt_or_ge r.pos L.length with hl | hl
 ·exact hl
 ·rw [List.getElem?_eq_none hl] at h
  exact absurd h.2 (by simp)
structure Rd.On (r r' : Rd) : Prop where
 pos : r.pos ≤ r'.pos
 bad : r.bad = true → r'.bad = true ∧ r'.pos = r.pos
 all : ∃ m, r'.all = r.all ++ m
theorem Rd.On.refl (r : Rd) : r.On r := ⟨Nat.le_refl _, fun h => ⟨h, rfl⟩, [], by rw [List.append_nil]⟩
theorem Rd.On.trans {r s t : Rd} (h : r.On s) (k : s.On t) : r.On t := by
 refine ⟨Nat.le_trans h.pos k.pos, fun hb => ?_, ?_⟩
 ·obtain ⟨h1, h2⟩ := h.bad hb
  obtain ⟨k1, k2⟩ := k.bad h1
  exact ⟨k1, k2.trans h2⟩
 ·obtain ⟨m, hm⟩ := h.all
  obtain ⟨n, hn⟩ := k.all
  exact ⟨m ++ n, by rw [hn, hm, List.append_assoc]⟩
theorem Rd.on_skip {r : Rd} (h : r.bad = false) : r.On r.skip := ⟨Nat.le_succ _, fun e => by rw [h] at e; exact absurd e (by simp), [], by rw [List.append_nil]; rfl⟩
theorem Rd.on_wrong (r : Rd) : r.On r.wrong := ⟨Nat.le_refl _, fun _ => ⟨rfl, rfl⟩, [], by rw [List.append_nil]; rfl⟩
theorem Rd.on_node (r : Rd) (n : Nd) : r.On (r.node n).2 := ⟨Nat.le_refl _, fun h => ⟨h, rfl⟩, [n], rfl⟩
theorem Rd.on_want (L : List Tok) (r : Rd) (k : Int) (x : List UInt8) : r.On (r.want L k x) := by
 unfold Rd.want
 split
 ·rename_i h; exact r.on_skip (r.is_in h).1
 ·exact r.on_wrong
theorem Rd.on_name (L : List Tok) (r : Rd) : r.On (r.nameT L).2 := by
 unfold Rd.nameT
 split
 ·exact r.on_wrong
 ·rename_i hb
  split
  ·exact r.on_wrong
  ·split
   ·exact r.on_skip (by simpa using hb)
   ·exact r.on_wrong
theorem Rd.on_powE (L : List Tok) (r : Rd) (a fac : Int) : r.On (r.powE L a fac).2 := by
 unfold Rd.powE
 split
 ·exact r.on_wrong
 ·rename_i hb
  split
  ·exact r.on_wrong
  ·split
   ·exact r.on_wrong
   ·split
    ·exact r.on_wrong
    ·exact (r.on_skip (by simpa using hb)).trans (Rd.on_node _ _)
theorem Rd.on_powT (L : List Tok) (r : Rd) (a : Int) : r.On (r.powT L a).2 := by
 unfold Rd.powT
 split
 ·rename_i h
  have h1 := r.on_skip (r.is_in h).1
  split
  ·rename_i h2
   exact (h1.trans (Rd.on_skip (Rd.is_in h2).1)).trans (Rd.on_powE _ _ _ _)
  ·exact h1.trans (Rd.on_powE _ _ _ _)
 ·exact Rd.On.refl r
theorem Rd.on_leaf (num : ByteArray → Bool × Nat × Nat) (L : List Tok) (r : Rd) : r.On (r.leaf num L).2 := by
 unfold Rd.leaf
 by_cases hb : r.bad = true
 ·rw [if_pos hb]
  exact (r.on_name L).trans (Rd.on_node _ _)
 ·rw [if_neg hb]
  split
  ·split
   ·exact (r.on_skip (by simpa using hb)).trans (Rd.on_node _ _)
   ·exact (r.on_name L).trans (Rd.on_node _ _)
  ·exact (r.on_name L).trans (Rd.on_node _ _)
theorem on_expr (num : ByteArray → Bool × Nat × Nat) (L : List Tok) : ∀ (f m : Nat) (a : Int) (r : Rd), r.On (exprF num L f m a r).2 := by
 intro f
 induction f with
 | zero => intro m a r; unfold exprF; exact Rd.On.refl r
 | succ f ih =>
  intro m a r
  match m with
  | 0 => unfold exprF; exact (ih 2 0 r).trans (ih 1 _ _)
  | 1 =>
   unfold exprF
   split
   ·rename_i h
    have hs : r.bad = false := by
     rcases Bool.or_eq_true_iff.1 h with h | h <;> exact (r.is_in h).1
    exact (((r.on_skip hs).trans (ih 2 0 r.skip)).trans (Rd.on_node _ _)).trans (ih 1 _ _)
   ·exact Rd.On.refl r
  | 2 => unfold exprF; exact (ih 4 0 r).trans (ih 3 _ _)
  | 3 =>
   unfold exprF
   split
   ·rename_i h
    have hs : r.bad = false := by
     rcases Bool.or_eq_true_iff.1 h with h | h <;> exact (r.is_in h).1
    exact (((r.on_skip hs).trans (ih 4 0 r.skip)).trans (Rd.on_node _ _)).trans (ih 3 _ _)
   ·exact Rd.On.refl r
  | 4 =>
   unfold exprF
   split
   ·rename_i h
    exact ((r.on_skip (r.is_in h).1).trans (ih 4 0 r.skip)).trans (Rd.on_node _ _)
   ·exact ih 5 0 r
  | 5 => unfold exprF; exact (ih 6 0 r).trans (Rd.on_powT _ _ _)
  | m + 6 =>
   unfold exprF
   split
   ·rename_i h
    exact ((r.on_skip (r.is_in h).1).trans (ih 0 0 r.skip)).trans (Rd.on_want _ _ _ _)
   ·exact r.on_leaf num L
end
section
open Go.Lib
def rankE (m : Nat) : Nat := match m with
 | 0 => 5
 | 2 => 4
 | 4 => 3
 | 5 => 2
 | _ => 1
def needE (L : List Tok) (m : Nat) (r : Rd) : Nat := (L.length - r.pos) * 7 + rankE m
theorem needE_pos (L : List Tok) (m : Nat) (r : Rd) : 1 ≤ needE L m r := by
 unfold needE rankE
 split <;> omega
theorem needE_on {L : List Tok} {r r' : Rd} (h : r.On r') (m : Nat) : needE L m r' ≤ (L.length - r.pos) * 7 + rankE m := by
 have := h.pos
 unfold needE
 have : (L.length - r'.pos) * 7 ≤ (L.length - r.pos) * 7 := Nat.mul_le_mul_right _ (by omega)
 omega
theorem needE_skip {L : List Tok} {r : Rd} (h : r.pos < L.length) (m : Nat) : needE L m r.skip + 7 = (L.length - r.pos) * 7 + rankE m := by
 unfold needE
 show (L.length - (r.pos + 1)) * 7 + rankE m + 7 = _
 have : (L.length - r.pos) * 7 = (L.length - (r.pos + 1)) * 7 + 7 := by rw [show L.length - r.pos = (L.length - (r.pos + 1)) + 1 by omega, Nat.succ_mul]
 omega
theorem expr_more (num : ByteArray → Bool × Nat × Nat) (L : List Tok) : ∀ (f m : Nat) (a : Int) (r : Rd), needE L m r ≤ f → ∀ g, needE L m r ≤ g → exprF num L f m a r = exprF num L g m a r := by
 intro f
 induction f with
 | zero => intro m a r hf; have := needE_pos L m r; omega
 | succ f ih =>
  intro m a r hf g hg
  cases g with
  | zero => have := needE_pos L m r; omega
  | succ g =>
   match m with
   | 0 =>
    have e1 : rankE 0 = 5 := rfl
    have e2 : rankE 2 = 4 := rfl
    have e3 : rankE 1 = 1 := rfl
    unfold needE at hf hg
    unfold exprF
    rw [ih 2 0 r (by unfold needE; omega) g (by unfold needE; omega)]
    have := needE_on (L := L) (on_expr num L g 2 0 r) 1
    exact ih _ _ _ (by omega) g (by omega)
   | 1 =>
    have e2 : rankE 2 = 4 := rfl
    have e3 : rankE 1 = 1 := rfl
    unfold needE at hf hg
    unfold exprF
    by_cases h : (r.is L 2 [43] || r.is L 2 [45]) = true
    ·have hs : r.bad = false ∧ r.pos < L.length := by
      rcases Bool.or_eq_true_iff.1 h with h | h <;> exact r.is_in h
     have n2 := needE_skip hs.2 2
     rw [if_pos h, if_pos h, ih 2 0 r.skip (by omega) g (by omega)]
     have n1 := needE_on (L := L) ((on_expr num L g 2 0 r.skip).trans (Rd.on_node _ ⟨if r.is L 2 [45] = true then 3 else 2, a, (exprF num L g 2 0 r.skip).1, 0, noText, (false, 0, 0)⟩)) 1
     have n3 := needE_skip hs.2 1
     unfold needE at n3
     exact ih _ _ _ (by omega) g (by omega)
    ·rw [if_neg h, if_neg h]
   | 2 =>
    have e1 : rankE 2 = 4 := rfl
    have e2 : rankE 4 = 3 := rfl
    have e3 : rankE 3 = 1 := rfl
    unfold needE at hf hg
    unfold exprF
    rw [ih 4 0 r (by unfold needE; omega) g (by unfold needE; omega)]
    have := needE_on (L := L) (on_expr num L g 4 0 r) 3
    exact ih _ _ _ (by omega) g (by omega)
   | 3 =>
    have e2 : rankE 4 = 3 := rfl
    have e3 : rankE 3 = 1 := rfl
    unfold needE at hf hg
    unfold exprF
    by_cases h : (r.is L 2 [42] || r.is L 2 [47]) = true
    ·have hs : r.bad = false ∧ r.pos < L.length := by
      rcases Bool.or_eq_true_iff.1 h with h | h <;> exact r.is_in h
     have n2 := needE_skip hs.2 4
     rw [if_pos h, if_pos h, ih 4 0 r.skip (by omega) g (by omega)]
     have n1 := needE_on (L := L) ((on_expr num L g 4 0 r.skip).trans (Rd.on_node _ ⟨if r.is L 2 [47] = true then 5 else 4, a, (exprF num L g 4 0 r.skip).1, 0, noText, (false, 0, 0)⟩)) 3
     have n3 := needE_skip hs.2 3
     unfold needE at n3
     exact ih _ _ _ (by omega) g (by omega)
    ·rw [if_neg h, if_neg h]
   | 4 =>
    have e1 : rankE 4 = 3 := rfl
    have e2 : rankE 5 = 2 := rfl
    unfold needE at hf hg
    unfold exprF
    by_cases h : r.is L 2 [45] = true
    ·have n2 := needE_skip (r.is_in h).2 4
     rw [if_pos h, if_pos h, ih 4 0 r.skip (by omega) g (by omega)]
    ·rw [if_neg h, if_neg h]
     exact ih 5 0 r (by unfold needE; omega) g (by unfold needE; omega)
   | 5 =>
    have e1 : rankE 5 = 2 := rfl
    have e2 : rankE 6 = 1 := rfl
    unfold needE at hf hg
    unfold exprF
    rw [ih 6 0 r (by unfold needE; omega) g (by unfold needE; omega)]
   | m + 6 =>
    have e1 : rankE (m + 6) = 1 := rfl
    have e2 : rankE 0 = 5 := rfl
    unfold needE at hf hg
    unfold exprF
    by_cases h : r.is L 2 [40] = true
    ·have n2 := needE_skip (r.is_in h).2 0
     rw [if_pos h, if_pos h, ih 0 0 r.skip (by omega) g (by omega)]
    ·rw [if_neg h, if_neg h]
def exprI (num : ByteArray → Bool × Nat × Nat) (L : List Tok) (m : Nat) (a : Int) (r : Rd) : Int × Rd := exprF num L (needE L m r) m a r
theorem exprI_of (num : ByteArray → Bool × Nat × Nat) (L : List Tok) {f m : Nat} {a : Int} {r : Rd} (h : needE L m r ≤ f) : exprF num L f m a r = exprI num L m a r := expr_more num L f m a r h _ (Nat.le_refl _)
theorem on_exprI (num : ByteArray → Bool × Nat × Nat) (L : List Tok) (m : Nat) (a : Int) (r : Rd) : r.On (exprI num L m a r).2 := on_expr num L _ m a r
theorem expr_sum (num : ByteArray → Bool × Nat × Nat) (L : List Tok) (a : Int) (r : Rd) : exprI num L 0 a r = exprI num L 1 (exprI num L 2 0 r).1 (exprI num L 2 0 r).2 := by
 have e1 : rankE 0 = 5 := rfl
 have e2 : rankE 2 = 4 := rfl
 have e3 : rankE 1 = 1 := rfl
 have := needE_on (L := L) (on_exprI num L 2 0 r) 1
 conv => lhs; unfold exprI
 rw [show needE L 0 r = (needE L 0 r - 1) + 1 by have := needE_pos L 0 r; omega]
 unfold exprF
 rw [exprI_of num L (m := 2) (by unfold needE; omega), exprI_of num L (m := 1) (by unfold needE at this ⊢; omega)]
theorem expr_more_sum (num : ByteArray → Bool × Nat × Nat) (L : List Tok) (a : Int) (r : Rd) : exprI num L 1 a r = if (r.is L 2 [43] || r.is L 2 [45]) = true then
  exprI num L 1 ((exprI num L 2 0 r.skip).2.node ⟨if r.is L 2 [45] = true then 3 else 2, a, (exprI num L 2 0 r.skip).1, 0, noText, (false, 0, 0)⟩).1 ((exprI num L 2 0 r.skip).2.node ⟨if r.is L 2 [45] = true then 3 else 2, a, (exprI num L 2 0 r.skip).1, 0, noText, (false, 0, 0)⟩).2 else (a, r) := by
 have e2 : rankE 2 = 4 := rfl
 have e3 : rankE 1 = 1 := rfl
 conv => lhs; unfold exprI
 rw [show needE L 1 r = (needE L 1 r - 1) + 1 by have := needE_pos L 1 r; omega]
 unfold exprF
 by_cases h : (r.is L 2 [43] || r.is L 2 [45]) = true
 ·have hs : r.bad = false ∧ r.pos < L.length := by
   rcases Bool.or_eq_true_iff.1 h with h | h <;> exact r.is_in h
  have n2 := needE_skip hs.2 2
  have n3 := needE_skip hs.2 1
  have n1 := needE_on (L := L) ((on_exprI num L 2 0 r.skip).trans (Rd.on_node _ ⟨if r.is L 2 [45] = true then 3 else 2, a, (exprI num L 2 0 r.skip).1, 0, noText, (false, 0, 0)⟩)) 1
  rw [if_pos h, if_pos h, exprI_of num L (m := 2) (by unfold needE at n2 ⊢; omega), exprI_of num L (m := 1) (by unfold needE at n1 n3 ⊢; omega)]
 ·rw [if_neg h, if_neg h]
theorem expr_product (num : ByteArray → Bool × Nat × Nat) (L : List Tok) (a : Int) (r : Rd) : exprI num L 2 a r = exprI num L 3 (exprI num L 4 0 r).1 (exprI num L 4 0 r).2 := by
 have e1 : rankE 2 = 4 := rfl
 have e2 : rankE 4 = 3 := rfl
 have e3 : rankE 3 = 1 := rfl
 have := needE_on (L := L) (on_exprI num L 4 0 r) 3
 conv => lhs; unfold exprI
 rw [show needE L 2 r = (needE L 2 r - 1) + 1 by have := needE_pos L 2 r; omega]
 unfold exprF
 rw [exprI_of num L (m := 4) (by unfold needE; omega), exprI_of num L (m := 3) (by unfold needE at this ⊢; omega)]
theorem expr_more_product (num : ByteArray → Bool × Nat × Nat) (L : List Tok) (a : Int) (r : Rd) : exprI num L 3 a r = if (r.is L 2 [42] || r.is L 2 [47]) = true then
  exprI num L 3 ((exprI num L 4 0 r.skip).2.node ⟨if r.is L 2 [47] = true then 5 else 4, a, (exprI num L 4 0 r.skip).1, 0, noText, (false, 0, 0)⟩).1 ((exprI num L 4 0 r.skip).2.node ⟨if r.is L 2 [47] = true then 5 else 4, a, (exprI num L 4 0 r.skip).1, 0, noText, (false, 0, 0)⟩).2 else (a, r) := by
 have e2 : rankE 4 = 3 := rfl
 have e3 : rankE 3 = 1 := rfl
 conv => lhs; unfold exprI
 rw [show needE L 3 r = (needE L 3 r - 1) + 1 by have := needE_pos L 3 r; omega]
 unfold exprF
 by_cases h : (r.is L 2 [42] || r.is L 2 [47]) = true
 ·have hs : r.bad = false ∧ r.pos < L.length := by
   rcases Bool.or_eq_true_iff.1 h with h | h <;> exact r.is_in h
  have n2 := needE_skip hs.2 4
  have n3 := needE_skip hs.2 3
  have n1 := needE_on (L := L) ((on_exprI num L 4 0 r.skip).trans (Rd.on_node _ ⟨if r.is L 2 [47] = true then 5 else 4, a, (exprI num L 4 0 r.skip).1, 0, noText, (false, 0, 0)⟩)) 3
  rw [if_pos h, if_pos h, exprI_of num L (m := 4) (by unfold needE at n2 ⊢; omega), exprI_of num L (m := 3) (by unfold needE at n1 n3 ⊢; omega)]
 ·rw [if_neg h, if_neg h]
theorem expr_factor (num : ByteArray → Bool × Nat × Nat) (L : List Tok) (a : Int) (r : Rd) : exprI num L 4 a r = if r.is L 2 [45] = true then (exprI num L 4 0 r.skip).2.node ⟨6, (exprI num L 4 0 r.skip).1, 0, 0, noText, (false, 0, 0)⟩ else exprI num L 5 0 r := by
 have e1 : rankE 4 = 3 := rfl
 have e2 : rankE 5 = 2 := rfl
 conv => lhs; unfold exprI
 rw [show needE L 4 r = (needE L 4 r - 1) + 1 by have := needE_pos L 4 r; omega]
 unfold exprF
 by_cases h : r.is L 2 [45] = true
 ·have n2 := needE_skip (r.is_in h).2 4
  rw [if_pos h, if_pos h, exprI_of num L (m := 4) (by unfold needE at n2 ⊢; omega)]
 ·rw [if_neg h, if_neg h, exprI_of num L (m := 5) (by unfold needE; omega)]
theorem expr_power (num : ByteArray → Bool × Nat × Nat) (L : List Tok) (a : Int) (r : Rd) : exprI num L 5 a r = (exprI num L 6 0 r).2.powT L (exprI num L 6 0 r).1 := by
 have e1 : rankE 5 = 2 := rfl
 have e2 : rankE 6 = 1 := rfl
 conv => lhs; unfold exprI
 rw [show needE L 5 r = (needE L 5 r - 1) + 1 by have := needE_pos L 5 r; omega]
 unfold exprF
 rw [exprI_of num L (m := 6) (by unfold needE; omega)]
theorem expr_atom (num : ByteArray → Bool × Nat × Nat) (L : List Tok) (a : Int) (r : Rd) : exprI num L 6 a r = if r.is L 2 [40] = true then ((exprI num L 0 0 r.skip).1, (exprI num L 0 0 r.skip).2.want L 2 [41]) else r.leaf num L := by
 have e1 : rankE 6 = 1 := rfl
 have e2 : rankE 0 = 5 := rfl
 conv => lhs; unfold exprI
 rw [show needE L 6 r = (needE L 6 r - 1) + 1 by have := needE_pos L 6 r; omega]
 unfold exprF
 by_cases h : r.is L 2 [40] = true
 ·have n2 := needE_skip (r.is_in h).2 0
  rw [if_pos h, if_pos h, exprI_of num L (m := 0) (by unfold needE at n2 ⊢; omega)]
 ·rw [if_neg h, if_neg h]
end
section
open Go.Lib
def Seg (l : List Nd) (s i : Nat) : Prop := ∀ P : Nat → Nat → Prop,
 (∀ i n, l[i]? = some n → (n.kind = 0 ∨ n.kind = 1) → P i i) →
 (∀ s i n, P s i → l[i + 1]? = some n → (n.kind = 6 ∨ n.kind = 7) → n.a = (i : Int) → P s (i + 1)) →
 (∀ s j i n, P s j → P (j + 1) i → l[i + 1]? = some n → 2 ≤ n.kind → n.kind ≤ 5 → n.a = (j : Int) → n.b = (i : Int) → P s (i + 1)) → P s i
theorem Seg.leaf {l : List Nd} {i : Nat} {n : Nd} (h : l[i]? = some n) (hk : n.kind = 0 ∨ n.kind = 1) : Seg l i i := fun _ h1 _ _ => h1 i n h hk
theorem Seg.one {l : List Nd} {s i : Nat} {n : Nd} (hs : Seg l s i) (h : l[i + 1]? = some n) (hk : n.kind = 6 ∨ n.kind = 7) (ha : n.a = (i : Int)) : Seg l s (i + 1) := fun P h1 h2 h3 => h2 s i n (hs P h1 h2 h3) h hk ha
theorem Seg.two {l : List Nd} {s j i : Nat} {n : Nd} (hs : Seg l s j) (ht : Seg l (j + 1) i) (h : l[i + 1]? = some n) (h2 : 2 ≤ n.kind) (h5 : n.kind ≤ 5) (ha : n.a = (j : Int)) (hb : n.b = (i : Int)) : Seg l s (i + 1) := fun P h1 h2' h3 => h3 s j i n (hs P h1 h2' h3) (ht P h1 h2' h3) h h2 h5 ha hb
theorem get_more {l m : List Nd} {i : Nat} {n : Nd} (h : l[i]? = some n) : (l ++ m)[i]? = some n := by
 rw [List.getElem?_append_left (List.getElem?_eq_some_iff.1 h).1]; exact h
theorem Seg.more {l : List Nd} (m : List Nd) {s i : Nat} (h : Seg l s i) : Seg (l ++ m) s i :=
 h (fun s i => Seg (l ++ m) s i) (fun _ _ h hk => Seg.leaf (get_more h) hk) (fun _ _ _ hs h hk ha => hs.one (get_more h) hk ha) (fun _ _ _ _ hs ht h h2 h5 ha hb => hs.two ht (get_more h) h2 h5 ha hb)
theorem Seg.le {l : List Nd} {s i : Nat} (h : Seg l s i) : s ≤ i ∧ i < l.length :=
 h (fun s i => s ≤ i ∧ i < l.length) (fun _ _ h _ => ⟨Nat.le_refl _, (List.getElem?_eq_some_iff.1 h).1⟩) (fun _ _ _ hs h _ _ => ⟨by omega, (List.getElem?_eq_some_iff.1 h).1⟩) (fun _ _ _ _ hs ht h _ _ _ _ => ⟨by omega, (List.getElem?_eq_some_iff.1 h).1⟩)
def Read (r : Rd) (x : Int) (r' : Rd) : Prop := ∃ i : Nat, x = (i : Int) ∧ r'.all.length = i + 1 ∧ Seg r'.all r.all.length i
theorem leaf_read (num : ByteArray → Bool × Nat × Nat) (L : List Tok) (r : Rd) : Read r (r.leaf num L).1 (r.leaf num L).2 := by
 have key : ∀ (q : Rd) (n : Nd), (∃ m, q.all = r.all ++ m ∧ m = []) → (n.kind = 0 ∨ n.kind = 1) → Read r (q.node n).1 (q.node n).2 := by
  rintro q n ⟨m, hm, rfl⟩ hk
  rw [List.append_nil] at hm
  refine ⟨q.all.length, rfl, ?_, ?_⟩
  ·show (q.all ++ [n]).length = _; simp
  ·show Seg (q.all ++ [n]) r.all.length q.all.length
   rw [hm]
   exact Seg.leaf (n := n) (by rw [List.getElem?_append_right (Nat.le_refl _), Nat.sub_self]; rfl) hk
 have hn : ∃ m, (r.nameT L).2.all = r.all ++ m ∧ m = [] := by
  refine ⟨[], ?_, rfl⟩
  rw [List.append_nil]
  unfold Rd.nameT
  split
  ·rfl
  ·split
   ·rfl
   ·split <;> rfl
 unfold Rd.leaf
 by_cases hb : r.bad = true
 ·rw [if_pos hb]; exact key _ _ hn (.inl rfl)
 ·rw [if_neg hb]
  split
  ·split
   ·exact key _ _ ⟨[], by rw [List.append_nil]; rfl, rfl⟩ (.inr rfl)
   ·exact key _ _ hn (.inl rfl)
  ·exact key _ _ hn (.inl rfl)
theorem powE_read {L : List Tok} {r0 r : Rd} {a fac : Int} (h : Read r0 a r) (hb : (r.powE L a fac).2.bad = false) : Read r0 (r.powE L a fac).1 (r.powE L a fac).2 := by
 obtain ⟨i, rfl, hl, hs⟩ := h
 unfold Rd.powE at hb ⊢
 split at hb
 ·exact absurd hb (by simp [Rd.wrong])
 ·rename_i h0
  rw [if_neg h0]
  split at hb
  ·exact absurd hb (by simp [Rd.wrong])
  ·rename_i t ht
   split at hb
   ·exact absurd hb (by simp [Rd.wrong])
   ·rename_i h1
    split at hb
    ·exact absurd hb (by simp [Rd.wrong])
    ·rename_i h2
     rw [if_neg h1, if_neg h2]
     refine ⟨i + 1, ?_, ?_, ?_⟩
     ·show ((r.all.length : Nat) : Int) = _; rw [hl]
     ·show (r.all ++ [_]).length = _; rw [List.length_append, hl]; rfl
     ·refine Seg.one (n := ⟨7, (i : Int), 0, fac * expI t.2.1, noText, (false, 0, 0)⟩) (hs.more _) ?_ (.inr rfl) rfl
      show (r.all ++ [_])[i + 1]? = _
      rw [← hl, List.getElem?_append_right (Nat.le_refl _), Nat.sub_self]; rfl
theorem Rd.good_of {r r' : Rd} (h : r.On r') (hb : r'.bad = false) : r.bad = false := by
 cases e : r.bad with
 | false => rfl
 | true => rw [(h.bad e).1] at hb; exact absurd hb (by simp)
theorem powT_read {L : List Tok} {r0 r : Rd} {a : Int} (h : Read r0 a r) (hb : (r.powT L a).2.bad = false) : Read r0 (r.powT L a).1 (r.powT L a).2 := by
 unfold Rd.powT at hb ⊢
 split at hb
 ·rename_i h1
  rw [if_pos h1]
  split at hb
  ·rename_i h2
   rw [if_pos h2]; exact powE_read (r := r.skip.skip) h hb
  ·rename_i h2
   rw [if_neg h2]; exact powE_read (r := r.skip) h hb
 ·rename_i h1
  rw [if_neg h1]; exact h
theorem two_read {r0 r q : Rd} {a x : Int} {n : Nd} (h : Read r0 a r) (k : Read r x q) (hq : ∃ m, q.all = r.all ++ m) (h2 : 2 ≤ n.kind) (h5 : n.kind ≤ 5) (ha : n.a = a) (hb : n.b = x) : Read r0 (q.node n).1 (q.node n).2 := by
 obtain ⟨j, rfl, hl, hs⟩ := h
 obtain ⟨i, rfl, hl2, hs2⟩ := k
 obtain ⟨m, hm⟩ := hq
 refine ⟨i + 1, ?_, ?_, ?_⟩
 ·show ((q.all.length : Nat) : Int) = _; rw [hl2]
 ·show (q.all ++ [_]).length = _; rw [List.length_append, hl2]; rfl
 ·show Seg (q.all ++ [n]) _ _
  rw [hl] at hs2
  have hs1 := hs.more m
  rw [← hm] at hs1
  refine Seg.two (hs1.more _) (hs2.more _) ?_ h2 h5 ha hb
  rw [← hl2, List.getElem?_append_right (Nat.le_refl _), Nat.sub_self]; rfl
theorem expr_read (num : ByteArray → Bool × Nat × Nat) (L : List Tok) : ∀ (f m : Nat) (a : Int) (r : Rd), needE L m r ≤ f → (exprF num L f m a r).2.bad = false →
  (m ≠ 1 → m ≠ 3 → Read r (exprF num L f m a r).1 (exprF num L f m a r).2) ∧ (m = 1 ∨ m = 3 → ∀ r0, Read r0 a r → Read r0 (exprF num L f m a r).1 (exprF num L f m a r).2) := by
 intro f
 induction f with
 | zero => intro m a r hf; have := needE_pos L m r; omega
 | succ f ih =>
  intro m a r hf hb
  match m with
  | 0 =>
   have e1 : rankE 0 = 5 := rfl
   have e2 : rankE 2 = 4 := rfl
   have e3 : rankE 1 = 1 := rfl
   unfold needE at hf
   unfold exprF at hb ⊢
   have n1 := needE_on (L := L) (on_expr num L f 2 0 r) 1
   have g := Rd.good_of (on_expr num L f 1 _ _) hb
   have h1 := (ih 2 0 r (by unfold needE; omega) g).1 (by omega) (by omega)
   exact ⟨fun _ _ => (ih 1 _ _ (by omega) hb).2 (.inl rfl) r h1, fun h => by omega⟩
  | 1 =>
   have e2 : rankE 2 = 4 := rfl
   have e3 : rankE 1 = 1 := rfl
   unfold needE at hf
   refine ⟨fun h => absurd rfl h, fun _ r0 h0 => ?_⟩
   unfold exprF at hb ⊢
   by_cases h : (r.is L 2 [43] || r.is L 2 [45]) = true
   ·rw [if_pos h] at hb ⊢
    have hs : r.bad = false ∧ r.pos < L.length := by
     rcases Bool.or_eq_true_iff.1 h with h | h <;> exact r.is_in h
    have n2 := needE_skip hs.2 2
    have n3 := needE_skip hs.2 1
    have o := (on_expr num L f 2 0 r.skip).trans (Rd.on_node _ ⟨if r.is L 2 [45] = true then 3 else 2, a, (exprF num L f 2 0 r.skip).1, 0, noText, (false, 0, 0)⟩)
    have n1 := needE_on (L := L) o 1
    have g := Rd.good_of (on_expr num L f 1 _ _) hb
    have h1 := (ih 2 0 r.skip (by omega) g).1 (by omega) (by omega)
    obtain ⟨mm, hmm⟩ := (on_expr num L f 2 0 r.skip).all
    have h2 := two_read (n := ⟨if r.is L 2 [45] = true then 3 else 2, a, (exprF num L f 2 0 r.skip).1, 0, noText, (false, 0, 0)⟩) h0 (r := r) h1 ⟨mm, hmm⟩ (by dsimp only; split <;> omega) (by dsimp only; split <;> omega) rfl rfl
    exact (ih 1 _ _ (by unfold needE at n3 n1 ⊢; omega) hb).2 (.inl rfl) r0 h2
   ·rw [if_neg h]; exact h0
  | 2 =>
   have e1 : rankE 2 = 4 := rfl
   have e2 : rankE 4 = 3 := rfl
   have e3 : rankE 3 = 1 := rfl
   unfold needE at hf
   unfold exprF at hb ⊢
   have n1 := needE_on (L := L) (on_expr num L f 4 0 r) 3
   have g := Rd.good_of (on_expr num L f 3 _ _) hb
   have h1 := (ih 4 0 r (by unfold needE; omega) g).1 (by omega) (by omega)
   exact ⟨fun _ _ => (ih 3 _ _ (by omega) hb).2 (.inr rfl) r h1, fun h => by omega⟩
  | 3 =>
   have e2 : rankE 4 = 3 := rfl
   have e3 : rankE 3 = 1 := rfl
   unfold needE at hf
   refine ⟨fun _ h => absurd rfl h, fun _ r0 h0 => ?_⟩
   unfold exprF at hb ⊢
   by_cases h : (r.is L 2 [42] || r.is L 2 [47]) = true
   ·rw [if_pos h] at hb ⊢
    have hs : r.bad = false ∧ r.pos < L.length := by
     rcases Bool.or_eq_true_iff.1 h with h | h <;> exact r.is_in h
    have n2 := needE_skip hs.2 4
    have n3 := needE_skip hs.2 3
    have o := (on_expr num L f 4 0 r.skip).trans (Rd.on_node _ ⟨if r.is L 2 [47] = true then 5 else 4, a, (exprF num L f 4 0 r.skip).1, 0, noText, (false, 0, 0)⟩)
    have n1 := needE_on (L := L) o 3
    have g := Rd.good_of (on_expr num L f 3 _ _) hb
    have h1 := (ih 4 0 r.skip (by omega) g).1 (by omega) (by omega)
    obtain ⟨mm, hmm⟩ := (on_expr num L f 4 0 r.skip).all
    have h2 := two_read (n := ⟨if r.is L 2 [47] = true then 5 else 4, a, (exprF num L f 4 0 r.skip).1, 0, noText, (false, 0, 0)⟩) h0 (r := r) h1 ⟨mm, hmm⟩ (by dsimp only; split <;> omega) (by dsimp only; split <;> omega) rfl rfl
    exact (ih 3 _ _ (by unfold needE at n3 n1 ⊢; omega) hb).2 (.inr rfl) r0 h2
   ·rw [if_neg h]; exact h0
  | 4 =>
   have e1 : rankE 4 = 3 := rfl
   have e2 : rankE 5 = 2 := rfl
   unfold needE at hf
   refine ⟨fun _ _ => ?_, fun h => by omega⟩
   unfold exprF at hb ⊢
   by_cases h : r.is L 2 [45] = true
   ·rw [if_pos h] at hb ⊢
    have n2 := needE_skip (r.is_in h).2 4
    obtain ⟨i, h1, h2, h3⟩ := (ih 4 0 r.skip (by omega) hb).1 (by omega) (by omega)
    refine ⟨i + 1, ?_, ?_, ?_⟩
    ·show (((exprF num L f 4 0 r.skip).2.all.length : Nat) : Int) = _; rw [h2]
    ·show ((exprF num L f 4 0 r.skip).2.all ++ [_]).length = _; rw [List.length_append, h2]; rfl
    ·refine Seg.one (n := ⟨6, (exprF num L f 4 0 r.skip).1, 0, 0, noText, (false, 0, 0)⟩) (h3.more _) ?_ (.inl rfl) h1
     show ((exprF num L f 4 0 r.skip).2.all ++ [_])[i + 1]? = _
     rw [← h2, List.getElem?_append_right (Nat.le_refl _), Nat.sub_self]; rfl
   ·rw [if_neg h] at hb ⊢
    exact (ih 5 0 r (by unfold needE; omega) hb).1 (by omega) (by omega)
  | 5 =>
   have e1 : rankE 5 = 2 := rfl
   have e2 : rankE 6 = 1 := rfl
   unfold needE at hf
   refine ⟨fun _ _ => ?_, fun h => by omega⟩
   unfold exprF at hb ⊢
   have g := Rd.good_of (Rd.on_powT L _ _) hb
   exact powT_read ((ih 6 0 r (by unfold needE; omega) g).1 (by omega) (by omega)) hb
  | m + 6 =>
   have e1 : rankE (m + 6) = 1 := rfl
   have e2 : rankE 0 = 5 := rfl
   unfold needE at hf
   refine ⟨fun _ _ => ?_, fun h => by omega⟩
   unfold exprF at hb ⊢
   by_cases h : r.is L 2 [40] = true
   ·rw [if_pos h] at hb ⊢
    have n2 := needE_skip (r.is_in h).2 0
    have g := Rd.good_of (Rd.on_want L _ 2 [41]) hb
    obtain ⟨i, h1, h2, h3⟩ := (ih 0 0 r.skip (by omega) g).1 (by omega) (by omega)
    have hw : ((exprF num L f 0 0 r.skip).2.want L 2 [41]).all = (exprF num L f 0 0 r.skip).2.all := by unfold Rd.want; split <;> rfl
    exact ⟨i, h1, by rw [← h2, ← hw], by rw [hw]; exact h3⟩
   ·rw [if_neg h]; exact leaf_read num L r
end
section
open Go.Lib
theorem seg_parts {l : List Nd} {b i : Nat} (h : Seg l b i) : ∀ p n, b ≤ p → p ≤ i → l[p]? = some n → 2 ≤ n.kind → (b : Int) ≤ n.a ∧ n.a < p ∧ (n.kind ≤ 5 → (b : Int) ≤ n.b ∧ n.b < p) := by
 refine (h (fun b i => Seg l b i ∧ ∀ p n, b ≤ p → p ≤ i → l[p]? = some n → 2 ≤ n.kind → (b : Int) ≤ n.a ∧ n.a < p ∧ (n.kind ≤ 5 → (b : Int) ≤ n.b ∧ n.b < p)) ?_ ?_ ?_).2
 ·intro i n hn hk
  refine ⟨Seg.leaf hn hk, fun p m h1 h2 hm hk2 => ?_⟩
  obtain rfl : p = i := by omega
  rw [hn] at hm
  obtain rfl := Option.some.inj hm
  omega
 ·intro b i n ⟨hs, ih⟩ hn hk ha
  have hle := hs.le
  refine ⟨hs.one hn hk ha, fun p m h1 h2 hm hk2 => ?_⟩
  by_cases hp : p ≤ i
  ·exact ih p m h1 hp hm hk2
  ·obtain rfl : p = i + 1 := by omega
   rw [hn] at hm
   obtain rfl := Option.some.inj hm
   rw [ha]
   exact ⟨by omega, by omega, fun h => by omega⟩
 ·intro b j i n ⟨hs, ih⟩ ⟨ht, ih2⟩ hn h2 h5 ha hb
  have hle := hs.le
  have hle2 := ht.le
  refine ⟨hs.two ht hn h2 h5 ha hb, fun p m h1 h2' hm hk2 => ?_⟩
  by_cases hp : p ≤ j
  ·exact ih p m h1 hp hm hk2
  ·by_cases hp2 : p ≤ i
   ·obtain ⟨q1, q2, q3⟩ := ih2 p m (by omega) hp2 hm hk2
    exact ⟨by omega, q2, fun h => by have := q3 h; omega⟩
   ·obtain rfl : p = i + 1 := by omega
    rw [hn] at hm
    obtain rfl := Option.some.inj hm
    rw [ha, hb]
    exact ⟨by omega, by omega, fun _ => by omega⟩
end
end Go.Proofs.YtaeladkcmpdkhaaGreatDoor
