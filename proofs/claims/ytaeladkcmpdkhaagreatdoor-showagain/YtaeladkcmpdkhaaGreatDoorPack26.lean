/-
  Texts of mine in build order. No conditions of their own.
-/
import Derived.Test.YtaeladkcmpdkhaaGreatDoorPack25
namespace Go.Proofs.YtaeladkcmpdkhaaGreatDoor
section
open Go.Lib
def prX (t : Bool × Nat × Nat) : ByteArray := ⟨(decR (rv t.1 t.2.1 t.2.2)).toArray⟩
def exX (k : Nat) : ByteArray := ⟨(decOf k).toArray⟩
theorem nameF_word {s : ByteArray} : ∀ f i, nameF s f i = true → s.size < i + f → wordF s f i = s.size ∨ s.size < i := by
 intro f
 induction f with
 | zero => intro i _ h; exact .inr (by omega)
 | succ f ih =>
  intro i h hf
  unfold nameF at h
  by_cases hi : i < s.size
  ·rw [if_pos hi] at h
   split at h
   ·exact absurd h (by simp)
   ·rename_i hc
    have hk : kindAt s i = 1 ∨ kindAt s i = 2 := by unfold kindAt; rw [if_pos hi]; omega
    have hz := stepAt_size hi
    have es : stepAt s i = nextN s i := by unfold stepAt; rw [if_pos hi]
    unfold wordF
    rw [if_pos hk]
    rw [← es] at h
    rcases ih _ h (by omega) with q | q
    ·exact .inl q
    ·omega
  ·rcases Nat.lt_or_ge s.size i with q | q
   ·exact .inr q
   ·left
    obtain rfl : i = s.size := by omega
    unfold wordF
    rw [if_neg (by unfold kindAt; rw [if_neg hi]; omega)]
theorem name_right {x : ByteArray} (h : nameB x = true) : RightT 0 x := by
 unfold nameB at h
 simp only [Bool.and_eq_true, decide_eq_true_eq] at h
 obtain ⟨⟨⟨h1, h2⟩, -⟩, h3⟩ := h
 have hk : kindAt x 0 = 1 := by
  unfold nameF at h3
  rw [if_pos (by omega)] at h3
  split at h3
  ·exact absurd h3 (by simp)
  ·rename_i hc
   unfold kindAt
   rw [if_pos (by omega)]
   omega
 have hw : wordEnd x 0 = x.size := by
  rcases nameF_word _ 0 h3 (by omega) with q | q
  ·exact q
  ·omega
 refine ⟨by omega, ?_⟩
 unfold tokenI
 rw [if_pos hk, hw, if_neg (by omega)]
 simp
theorem number_right {x : ByteArray} (h : numB x = true) : RightT 1 x := by
 rw [numB_may] at h
 simp only [Bool.and_eq_true, decide_eq_true_eq] at h
 obtain ⟨h1, h2⟩ := h
 have hl : longB (above x) (below x) = false := by
  unfold mayB at h1
  simp only [Bool.and_eq_true, Bool.not_eq_true'] at h1
  exact h1.1.1
 have hp : plainB (above x) = true := by
  unfold mayB at h1
  simp only [Bool.and_eq_true] at h1
  exact h1.1.2
 have hz : 0 < digEnd x 0 := by
  rw [← above_size]
  rcases Nat.eq_zero_or_pos (above x).size with e | e
  ·exfalso
   rw [size_zero e] at hp
   unfold plainB at hp
   rw [ByteArray.toList_eq] at hp
   exact absurd hp (by decide)
  ·exact e
 have hk : kindAt x 0 = 2 := by
  by_cases q : kindAt x 0 = 2
  ·exact q
  ·rw [digEnd_here q] at hz; omega
 have hs : 0 < x.size := (kindAt_digit.1 hk).1
 refine ⟨hs, ?_⟩
 rw [token_number hk, hl, if_neg (by simp), if_pos h1, h2, extract_all]
theorem num_part {l : List UInt8} (h : Num l) (hl : l.length ≤ 40) : partB ⟨l.toArray⟩ = true := by
 obtain ⟨h1, h2, h3⟩ := h
 have hz : (⟨l.toArray⟩ : ByteArray).size = l.length := List.size_toArray
 have hp : 0 < l.length := List.length_pos_iff.2 h1
 have get : ∀ j (hj : j < l.length), bt ⟨l.toArray⟩ j = (l[j]).toNat := fun j hj => by
  rw [bt_get (by rw [hz]; exact hj)]; rfl
 have hk : ∀ j, j < l.length → kindAt ⟨l.toArray⟩ j = 2 := fun j hj => by
  rw [kindAt_digit, hz, get j hj]
  exact ⟨hj, h2 _ (List.getElem_mem hj)⟩
 have hd : ∀ k j, j + k = l.length → digEnd ⟨l.toArray⟩ j = l.length := by
  intro k
  induction k with
  | zero =>
   intro j hj
   rw [digEnd_here (fun e => by have := (kindAt_digit.1 e).1; rw [hz] at this; omega)]; omega
  | succ k ih =>
   intro j hj
   rw [digEnd_step (hk j (by omega))]
   exact ih (j + 1) (by omega)
 unfold partB
 rw [hz, hd l.length 0 (by omega), decide_eq_true (show 1 ≤ l.length ∧ l.length ≤ 40 by omega), decide_eq_true rfl]
 by_cases h0 : bt ⟨l.toArray⟩ 0 = 48
 ·have : l.head? = some 48 := by
   rw [List.head?_eq_getElem?, List.getElem?_eq_getElem hp]
   congr 1
   apply UInt8.toNat_inj.1
   rw [← get 0 hp, h0]; rfl
  have := h3 this
  rw [decide_eq_true (show l.length = 1 by omega)]; rfl
 ·rw [decide_eq_true h0]; simp
theorem cut_none {l : List UInt8} (h : ∀ c ∈ l, c ≠ 124) : cutI ⟨l.toArray⟩ = l.length := by
 have hz : (⟨l.toArray⟩ : ByteArray).size = l.length := List.size_toArray
 rw [← hz]
 refine cutI_at (Nat.le_refl _) (fun j hj e => ?_) (.inl rfl)
 rw [bt_get hj] at e
 have hjl : j < l.length := by rw [← hz]; exact hj
 exact h _ (List.getElem_mem hjl) (UInt8.toNat_inj.1 e)
theorem no_stroke {l : List UInt8} (h : DigS l) : ∀ c ∈ l, c ≠ 124 := fun c hc e => by
 have := h c hc
 rw [e] at this
 exact absurd this.2 (by decide)
theorem numB_one {l : List UInt8} (h : Num l) (hl : l.length ≤ 40) : numB ⟨l.toArray⟩ = true := by
 unfold numB
 rw [if_pos ((cut_none (no_stroke h.2.1)).trans (show l.length = (⟨l.toArray⟩ : ByteArray).size from List.size_toArray.symm))]
 exact num_part h hl
theorem numB_two {l m : List UInt8} (h : Num l) (hl : l.length ≤ 40) (k : Num m) (hm : m.length ≤ 40) (h1 : m ≠ [48]) : numB ⟨(l ++ 124 :: m).toArray⟩ = true := by
 have hz : (⟨(l ++ 124 :: m).toArray⟩ : ByteArray).size = l.length + (m.length + 1) := by
  show (l ++ 124 :: m).toArray.size = _
  rw [List.size_toArray, List.length_append, List.length_cons]
 have hc : cutI ⟨(l ++ 124 :: m).toArray⟩ = l.length := by
  refine cutI_at (by omega) (fun j hj e => ?_) (.inr ?_)
  ·rw [bt_get (by omega)] at e
   have : (l ++ 124 :: m)[j]'(by rw [List.length_append]; omega) = l[j] := List.getElem_append_left hj
   have e2 : (l[j]).toNat = 124 := by rw [← this]; exact e
   exact no_stroke h.2.1 _ (List.getElem_mem hj) (UInt8.toNat_inj.1 e2)
  ·rw [bt_get (by omega)]
   have : (l ++ 124 :: m)[l.length]'(by rw [List.length_append, List.length_cons]; omega) = 124 := by simp
   show ((l ++ 124 :: m)[l.length]'_).toNat = 124
   rw [this]; rfl
 have e1 : (⟨(l ++ 124 :: m).toArray⟩ : ByteArray).extract 0 l.length = ⟨l.toArray⟩ := by
  apply ByteArray.ext
  rw [ByteArray.data_extract]
  apply Array.toList_inj.1
  rw [Array.toList_extract]
  simp
 have e2 : (⟨(l ++ 124 :: m).toArray⟩ : ByteArray).extract (l.length + 1) (l.length + (m.length + 1)) = ⟨m.toArray⟩ := by
  apply ByteArray.ext
  rw [ByteArray.data_extract]
  apply Array.toList_inj.1
  rw [Array.toList_extract, List.extract_eq_take_drop]
  show ((l ++ 124 :: m).drop (l.length + 1)).take _ = m
  rw [List.drop_append, List.drop_of_length_le (by omega), List.nil_append, Nat.add_sub_cancel_left]
  show m.take _ = m
  exact List.take_of_length_le (by omega)
 unfold numB
 rw [hc, hz, if_neg (by omega), e1, e2, num_part h hl, num_part k hm, ByteArray.toList_eq]
 have : (m == [48]) = false := by rw [beq_eq_false_iff_ne]; exact h1
 show (true && true && !(m == [48])) = true
 rw [this]; rfl
theorem print_num {s : Bool} {xs ys : List Int} (h : numR s xs ys = true) : numB (prX (s, val xs, val ys)) = true ∧ numT (prX (s, val xs, val ys)) = (s, val xs, val ys) := by
 unfold numR at h
 simp only [Bool.and_eq_true, Bool.not_eq_true'] at h
 obtain ⟨⟨⟨h0, h1⟩, h2⟩, h3⟩ := h
 unfold shortB at h1 h2
 simp only [Bool.and_eq_true, decide_eq_true_eq] at h1 h2
 unfold rghB at h3
 have h3 := decide_eq_true_iff.1 h3
 have e0 : ¬ (rv s (val xs) (val ys)).num < 0 := decide_eq_false_iff_not.1 (h3.1.trans h0)
 have eN : (rv s (val xs) (val ys)).num.natAbs = val xs := by rw [← val_natOf (rv s (val xs) (val ys)).num.natAbs, h3.2.1]
 have eD : (rv s (val xs) (val ys)).den = val ys := by rw [← val_natOf (rv s (val xs) (val ys)).den, h3.2.2]
 have hT : tri (rv s (val xs) (val ys)) = (s, val xs, val ys) := by
  unfold tri
  rw [eN, eD, h3.1]
 have hRS : RS 5 (rv s (val xs) (val ys)) := by
  refine ⟨?_, ?_⟩
  ·rw [← natOf_len, h3.2.1]; exact h1.1
  ·rw [← natOf_len, h3.2.2]; exact h2.1
 obtain ⟨p1, -⟩ := par_decR hRS (by decide) (by decide)
 refine ⟨?_, ?_⟩
 ·unfold prX decR
  dsimp only
  have ei : decI (rv s (val xs) (val ys)).num = decOf (val xs) := by unfold decI; rw [if_neg e0, eN]
  rw [ei, eD]
  split
  ·exact numB_one (num_decOf _) h1.2
  ·rename_i hd
   refine numB_two (num_decOf _) h1.2 (num_decOf _) h2.2 (fun e => hd ?_)
   have := congrArg valD e
   rw [valD_decOf] at this
   have hp := (rv s (val xs) (val ys)).den_pos
   rw [eD, this] at hp
   exact absurd hp (by decide)
 ·show parT (decR (rv s (val xs) (val ys))) = _
  rw [p1, hT]
theorem dec_one_digit {k : Nat} (h : k < 10) : decOf k = [UInt8.ofNat (48 + k % 10)] := by
 rcases Nat.eq_zero_or_pos k with rfl | h0
 ·rfl
 ·rw [decOf_pos h0, dg_pos h0, show k / 10 = 0 by omega, dg_zero]; rfl
theorem dec_two_digits {k : Nat} (h0 : 10 ≤ k) (h : k < 100) : decOf k = [UInt8.ofNat (48 + k / 10 % 10), UInt8.ofNat (48 + k % 10)] := by
 rw [decOf_pos (by omega), dg_pos (by omega), dg_pos (show 0 < k / 10 by omega), show k / 10 / 10 = 0 by omega, dg_zero]; rfl
theorem exp_text (k : Nat) (hk : k ≤ 20) : expI (exX k) = k ∧ numB (exX k) = true := by
 have hl : (decOf k).length ≤ 40 := Nat.le_trans (decOf_len_le (k := 2) (by omega) (by decide)) (by decide)
 refine ⟨?_, numB_one (num_decOf k) hl⟩
 have gt : ∀ (l : List UInt8) (j : Nat) (hj : j < l.length), bt ⟨l.toArray⟩ j = (l[j]).toNat := fun l j hj => by
  rw [bt_get (by show j < l.toArray.size; rw [List.size_toArray]; exact hj)]; rfl
 unfold exX
 rcases Nat.lt_or_ge k 10 with h | h
 ·rw [dec_one_digit h]
  unfold expI
  rw [if_pos (show (⟨[UInt8.ofNat (48 + k % 10)].toArray⟩ : ByteArray).size = 1 from rfl), gt _ 0 (by simp)]
  show ((UInt8.ofNat (48 + k % 10)).toNat : Int) - 48 = k
  rw [digit_nat]; omega
 ·rw [dec_two_digits h (by omega)]
  have b0 : bt ⟨[UInt8.ofNat (48 + k / 10 % 10), UInt8.ofNat (48 + k % 10)].toArray⟩ 0 = 48 + k / 10 % 10 := by
   rw [gt _ 0 (by simp)]
   show (UInt8.ofNat (48 + k / 10 % 10)).toNat = _
   exact digit_nat _
  have b1 : bt ⟨[UInt8.ofNat (48 + k / 10 % 10), UInt8.ofNat (48 + k % 10)].toArray⟩ 1 = 48 + k % 10 := by
   rw [gt _ 1 (by simp)]
   show (UInt8.ofNat (48 + k % 10)).toNat = _
   exact digit_nat _
  unfold expI
  rw [if_neg (show ¬ (⟨[UInt8.ofNat (48 + k / 10 % 10), UInt8.ofNat (48 + k % 10)].toArray⟩ : ByteArray).size = 1 from by show ¬ 2 = 1; decide), b0, b1, if_pos ⟨rfl, by omega, by omega⟩]
  omega
def TokR (t : Int × ByteArray) : Prop := RightT t.1 t.2 ∧ t.2.size ≤ 90
theorem nameR {x : ByteArray} (h : nameB x = true) : TokR (0, x) := ⟨name_right h, by have := name_short h; show x.size ≤ 90; omega⟩
theorem numbR {x : ByteArray} (h : numB x = true) : TokR (1, x) := by
 refine ⟨number_right h, ?_⟩
 show x.size ≤ 90
 unfold numB at h
 split at h
 ·unfold partB at h
  simp only [Bool.and_eq_true, decide_eq_true_eq] at h
  omega
 ·simp only [Bool.and_eq_true] at h
  obtain ⟨⟨h1, h2⟩, -⟩ := h
  unfold partB at h1 h2
  simp only [Bool.and_eq_true, decide_eq_true_eq] at h1 h2
  have := h1.1.1.2
  have := h2.1.1.2
  rw [ByteArray.size_extract] at *
  omega
end
section
open Go.Lib
def nlP : Int × ByteArray := (3, ⟨#[10]⟩)
def commaP : List ByteArray → List (Int × ByteArray)
 | [] => [(2, ⟨#[59]⟩), nlP]
 | x :: l => (2, ⟨#[44]⟩) :: spP :: (0, x) :: commaP l
def listP (key : ByteArray) : List ByteArray → List (Int × ByteArray)
 | [] => []
 | x :: l => (0, key) :: spP :: (0, x) :: commaP l
def letB : ByteArray := ⟨#[108, 101, 116]⟩
def exprP (l : List Nd) (i : Nat) : List (Int × ByteArray) := partP prX exX l (i + 1) i 1
def oneP (l : List Nd) (x : ByteArray × Int) : List (Int × ByteArray) := (0, letB) :: spP :: (0, x.1) :: spP :: (2, ⟨#[61]⟩) :: spP :: (exprP l x.2.toNat ++ [(2, ⟨#[59]⟩), nlP])
def letsP (l : List Nd) (lets : List (ByteArray × Int)) : List (Int × ByteArray) := lets.flatMap (oneP l)
def progP (ins outs : List ByteArray) (lets : List (ByteArray × Int)) (l : List Nd) : List (Int × ByteArray) := listP inB ins ++ (letsP l lets ++ listP outB outs)
def progX (ins outs : List ByteArray) (lets : List (ByteArray × Int)) (l : List Nd) : ByteArray := joinP (progP ins outs lets l)
def nodeX (l : List Nd) (i : Nat) : ByteArray := joinP (exprP l i)
theorem fill_ref {m : Nw} (h : fillR m = true) (k : m.kind = 0) : nameB m.name = true := by
 unfold fillR at h
 rw [if_pos k] at h
 simp only [Bool.and_eq_true] at h
 exact h.1.1.1.1
theorem fill_const {m : Nw} (h : fillR m = true) (k : m.kind = 1) : numB (prX m.nd.num) = true := by
 unfold fillR at h
 rw [if_neg (by omega), if_pos k] at h
 simp only [Bool.and_eq_true] at h
 exact (print_num h.1.1.1.1).1
theorem fill_pow {m : Nw} (h : fillR m = true) (k : m.kind = 7) : m.exp.natAbs ≤ 20 := by
 unfold fillR at h
 rw [if_neg (by omega), if_neg (by omega), if_neg (by omega), if_neg (by omega), if_pos k] at h
 simp only [Bool.and_eq_true, decide_eq_true_eq] at h
 omega
end
section
open Go.Lib
def Fits (x : List (Int × ByteArray)) (n z : Nat) : Prop := x.length ≤ n ∧ (joinP x).size ≤ z
theorem Fits.app {x y : List (Int × ByteArray)} {n z m u : Nat} (h : Fits x n z) (k : Fits y m u) : Fits (x ++ y) (n + m) (z + u) := by
 refine ⟨by rw [List.length_append]; exact Nat.add_le_add h.1 k.1, ?_⟩
 rw [joinP_app, ByteArray.size_append]
 exact Nat.add_le_add h.2 k.2
theorem Fits.cons {t : Int × ByteArray} {y : List (Int × ByteArray)} {z m u : Nat} (h : t.2.size ≤ z) (k : Fits y m u) : Fits (t :: y) (m + 1) (z + u) := by
 refine ⟨by rw [List.length_cons]; exact Nat.add_le_add_right k.1 1, ?_⟩
 show (t.2 ++ joinP y).size ≤ _
 rw [ByteArray.size_append]
 exact Nat.add_le_add h k.2
theorem Fits.nil : Fits [] 0 0 := ⟨Nat.le_refl _, Nat.le_refl _⟩
theorem Fits.le {x : List (Int × ByteArray)} {n z m u : Nat} (h : Fits x n z) (h1 : n ≤ m) (h2 : z ≤ u) : Fits x m u := ⟨Nat.le_trans h.1 h1, Nat.le_trans h.2 h2⟩
theorem Fits.wrap {x : List (Int × ByteArray)} {n z : Nat} (h : Fits x n z) (b : Bool) : Fits (wrapP b x) (n + 2) (z + 2) := by
 unfold wrapP
 split
 ·have k : Fits ((2, ⟨#[40]⟩) :: (x ++ [((2 : Int), (⟨#[41]⟩ : ByteArray))])) (n + (0 + 1) + 1) (1 + (z + (1 + 0))) := Fits.cons (Nat.le_refl _) (h.app (Fits.cons (t := (2, ⟨#[41]⟩)) (Nat.le_refl _) Fits.nil))
  exact k.le (by omega) (by omega)
 ·exact h.le (by omega) (by omega)
theorem op_size (k : Int) : (opB k).size ≤ 1 := by
 unfold opB
 repeat' split
 all_goals exact Nat.le_refl _
theorem part_size {ms : List Nw} (hf : ∀ m ∈ ms, fillR m = true) {b i : Nat} (h : Seg (ms.map Nw.nd) b i) : ∀ f, i + 1 ≤ f → ∀ least, Fits (partP prX exX (ms.map Nw.nd) f i least) (7 * (i + 1 - b)) (100 * (i + 1 - b)) := by
 have get : ∀ {i : Nat} {n : Nd}, (ms.map Nw.nd)[i]? = some n → ∃ m, fillR m = true ∧ m.nd = n := fun {i n} hn => by
  rw [List.getElem?_map] at hn
  cases hm : ms[i]? with
  | none => rw [hm] at hn; exact absurd hn (by simp)
  | some m => rw [hm] at hn; exact ⟨m, hf m (List.mem_of_getElem? hm), by simpa using hn⟩
 refine (h (fun b i => Seg (ms.map Nw.nd) b i ∧ ∀ f, i + 1 ≤ f → ∀ least, Fits (partP prX exX (ms.map Nw.nd) f i least) (7 * (i + 1 - b)) (100 * (i + 1 - b))) ?_ ?_ ?_).2
 ·intro i n hn hk
  refine ⟨Seg.leaf hn hk, fun f hf least => ?_⟩
  cases f with
  | zero => omega
  | succ f =>
   obtain ⟨m, hfm, rfl⟩ := get hn
   rw [partP_step hn]
   have B : Fits (bodyP prX exX (ms.map Nw.nd) f m.nd) (0 + 1) (90 + 0) := by
    unfold bodyP
    rcases hk with k | k
    ·rw [if_pos k]
     exact Fits.cons (t := (0, m.nd.name)) (nameR (fill_ref hfm k)).2 Fits.nil
    ·rw [if_neg (by omega), if_pos k]
     exact Fits.cons (t := (1, prX m.nd.num)) (numbR (fill_const hfm k)).2 Fits.nil
   exact (B.wrap _).le (by omega) (by omega)
 ·intro b i n ⟨hs, ih⟩ hn hk ha
  refine ⟨hs.one hn hk ha, fun f hf least => ?_⟩
  have hle := hs.le
  cases f with
  | zero => omega
  | succ f =>
   obtain ⟨m, hfm, rfl⟩ := get hn
   rw [partP_step hn]
   have hN : m.nd.a.toNat = i := by rw [ha]; exact Int.toNat_natCast i
   have B : Fits (bodyP prX exX (ms.map Nw.nd) f m.nd) (7 * (i + 1 - b) + 3) (100 * (i + 1 - b) + 92) := by
    unfold bodyP
    rcases hk with k | k
    ·rw [if_neg (by omega), if_neg (by omega), if_pos k, hN]
     exact (Fits.cons (t := (2, ⟨#[45]⟩)) (z := 1) (Nat.le_refl _) (ih f (by omega) 3)).le (by omega) (by omega)
    ·rw [if_neg (by omega), if_neg (by omega), if_neg (by omega), if_pos k, hN]
     have he : (exX m.nd.exp.natAbs).size ≤ 90 := (numbR (exp_text _ (fill_pow hfm k)).2).2
     have S : Fits (if m.nd.exp < 0 then [((2 : Int), (⟨#[45]⟩ : ByteArray))] else []) (0 + 1) (1 + 0) := by
      split
      ·exact Fits.cons (t := (2, ⟨#[45]⟩)) (Nat.le_refl _) Fits.nil
      ·exact Fits.nil.le (by omega) (by omega)
     exact ((ih f (by omega) 5).app (Fits.cons (t := (2, ⟨#[94]⟩)) (z := 1) (Nat.le_refl _) (S.app (Fits.cons (t := (1, exX m.nd.exp.natAbs)) he Fits.nil)))).le (by omega) (by omega)
   exact (B.wrap _).le (by omega) (by omega)
 ·intro b j i n ⟨hs, ih⟩ ⟨ht, ih2⟩ hn h2 h5 ha hb'
  refine ⟨hs.two ht hn h2 h5 ha hb', fun f hf least => ?_⟩
  have hle := hs.le
  have hle2 := ht.le
  cases f with
  | zero => omega
  | succ f =>
   rw [partP_step hn]
   have hN : n.a.toNat = j := by rw [ha]; exact Int.toNat_natCast j
   have hM : n.b.toNat = i := by rw [hb']; exact Int.toNat_natCast i
   have B : Fits (bodyP prX exX (ms.map Nw.nd) f n) (7 * (i + 1 - b) + 3) (100 * (i + 1 - b) + 3) := by
    unfold bodyP
    rw [if_neg (by omega), if_neg (by omega), if_neg (by omega), if_neg (by omega), hN, hM]
    exact ((ih f (by omega) _).app (Fits.cons (t := spP) (z := 1) (Nat.le_refl _) (Fits.cons (t := (2, opB n.kind)) (z := 1) (op_size _) (Fits.cons (t := spP) (z := 1) (Nat.le_refl _) (ih2 f (by omega) _))))).le (by omega) (by omega)
   exact (B.wrap _).le (by omega) (by omega)
theorem lets_size {ms : List Nw} (hf : ∀ m ∈ ms, fillR m = true) : ∀ (lets : List (ByteArray × Int)) (b e : Nat), LetsEnd (ms.map Nw.nd) b lets e → Fits (letsP (ms.map Nw.nd) lets) (8 * lets.length + 7 * (e - b)) (60 * lets.length + 100 * (e - b)) := by
 intro lets
 induction lets with
 | nil => intro b e _; exact Fits.nil.le (by omega) (by omega)
 | cons x lets ih =>
  rintro b e ⟨i, hx, hn, hs, he⟩
  have hle := hs.le
  have hee := lets_le lets _ _ he
  have hz : x.1.size ≤ 40 := by have := name_short hn; omega
  have E := part_size hf hs (i + 1) (Nat.le_refl _) 1
  have O : Fits (oneP (ms.map Nw.nd) x) (7 * (i + 1 - b) + 8) (100 * (i + 1 - b) + 50) := by
   unfold oneP exprP
   rw [hx, Int.toNat_natCast]
   exact (Fits.cons (t := (0, letB)) (z := 3) (Nat.le_refl _) (Fits.cons (t := spP) (z := 1) (Nat.le_refl _) (Fits.cons (t := (0, x.1)) hz (Fits.cons (t := spP) (z := 1) (Nat.le_refl _) (Fits.cons (t := (2, ⟨#[61]⟩)) (z := 1) (Nat.le_refl _) (Fits.cons (t := spP) (z := 1) (Nat.le_refl _) (E.app (Fits.cons (t := (2, ⟨#[59]⟩)) (z := 1) (Nat.le_refl _) (Fits.cons (t := nlP) (z := 1) (Nat.le_refl _) Fits.nil))))))))).le (by omega) (by omega)
  rw [List.length_cons]
  exact (O.app (ih (i + 1) e he)).le (by omega) (by omega)
theorem rgt_parts {ms : List Nw} {ins outs : List ByteArray} {lets : List (ByteArray × Int)} (h : rgtB ins outs lets ms = true) : (∀ m ∈ ms, fillR m = true) ∧ (∀ x ∈ ins, nameB x = true) ∧ (∀ x ∈ outs, nameB x = true) ∧ LetsEnd (ms.map Nw.nd) 0 lets (ms.map Nw.nd).length ∧ ins ≠ [] ∧ outs ≠ [] ∧ ms.length ≤ 400 ∧ ins.length ≤ 40 ∧ lets.length ≤ 40 ∧ outs.length ≤ 40 ∧ lowB (ms.map Nw.nd) = true := by
 unfold rgtB fewB at h
 simp only [Bool.and_eq_true, decide_eq_true_eq, List.all_eq_true] at h
 obtain ⟨⟨⟨⟨⟨⟨⟨⟨⟨h1, h2⟩, h3⟩, h4⟩, h5⟩, h6⟩, h7⟩, h8⟩, h9⟩, h10⟩ := h
 have hg := gr_all ms lets 0 (Int.le_refl _) h9
 refine ⟨fun m hm => ?_, h7, h8, by rw [List.length_map]; exact grown_lets h9, fun e => by rw [e] at h5; exact absurd h5 (by simp), fun e => by rw [e] at h6; exact absurd h6 (by simp), h1, h2, h3, h4, h10⟩
 obtain ⟨i, hi, rfl⟩ := List.getElem_of_mem hm
 obtain ⟨m', e, hf, -⟩ := hg i (by omega) hi
 rw [List.getElem?_eq_getElem hi] at e
 rw [Option.some.inj e]; exact hf
end
section
open Go.Lib
def partX (l : List Nd) (i : Nat) (k : Int) (least : Nat) : ByteArray := if bindK k < least then ⟨#[40]⟩ ++ (nodeX l i ++ ⟨#[41]⟩) else nodeX l i
def opS (k : Int) : ByteArray := ⟨#[32]⟩ ++ (opB k ++ ⟨#[32]⟩)
theorem part_more {pr : Bool × Nat × Nat → ByteArray} {ex : Nat → ByteArray} {l : List Nd} {b i : Nat} (h : Seg l b i) : ∀ f, i + 1 ≤ f → ∀ g, i + 1 ≤ g → ∀ least, partP pr ex l f i least = partP pr ex l g i least := by
 refine (h (fun b i => Seg l b i ∧ ∀ f, i + 1 ≤ f → ∀ g, i + 1 ≤ g → ∀ least, partP pr ex l f i least = partP pr ex l g i least) ?_ ?_ ?_).2
 ·intro i n hn hk
  refine ⟨Seg.leaf hn hk, fun f hf g hg least => ?_⟩
  obtain ⟨f, rfl⟩ : ∃ f', f = f' + 1 := ⟨f - 1, by omega⟩
  obtain ⟨g, rfl⟩ : ∃ g', g = g' + 1 := ⟨g - 1, by omega⟩
  rw [partP_step hn, partP_step hn]
  unfold bodyP
  rcases hk with e | e
  ·rw [if_pos e, if_pos e]
  ·have k0 : ¬ n.kind = 0 := by omega
   rw [if_neg k0, if_neg k0, if_pos e, if_pos e]
 ·intro b i n ⟨hs, ih⟩ hn hk ha
  refine ⟨hs.one hn hk ha, fun f hf g hg least => ?_⟩
  obtain ⟨f, rfl⟩ : ∃ f', f = f' + 1 := ⟨f - 1, by omega⟩
  obtain ⟨g, rfl⟩ : ∃ g', g = g' + 1 := ⟨g - 1, by omega⟩
  have hN : n.a.toNat = i := by rw [ha]; exact Int.toNat_natCast i
  have k0 : ¬ n.kind = 0 := by omega
  have k1 : ¬ n.kind = 1 := by omega
  rw [partP_step hn, partP_step hn]
  unfold bodyP
  rw [if_neg k0, if_neg k0, if_neg k1, if_neg k1, hN, ih f (by omega) g (by omega) 3, ih f (by omega) g (by omega) 5]
  rcases hk with e | e
  ·rw [if_pos e, if_pos e]
  ·have k6 : ¬ n.kind = 6 := by omega
   rw [if_neg k6, if_neg k6, if_pos e, if_pos e]
 ·intro b j i n ⟨hs, ih⟩ ⟨ht, ih2⟩ hn h2 h5 ha hb
  refine ⟨hs.two ht hn h2 h5 ha hb, fun f hf g hg least => ?_⟩
  have hle2 := ht.le
  obtain ⟨f, rfl⟩ : ∃ f', f = f' + 1 := ⟨f - 1, by omega⟩
  obtain ⟨g, rfl⟩ : ∃ g', g = g' + 1 := ⟨g - 1, by omega⟩
  have hN : n.a.toNat = j := by rw [ha]; exact Int.toNat_natCast j
  have hM : n.b.toNat = i := by rw [hb]; exact Int.toNat_natCast i
  have k0 : ¬ n.kind = 0 := by omega
  have k1 : ¬ n.kind = 1 := by omega
  have k6 : ¬ n.kind = 6 := by omega
  have k7 : ¬ n.kind = 7 := by omega
  rw [partP_step hn, partP_step hn]
  unfold bodyP
  rw [if_neg k0, if_neg k0, if_neg k1, if_neg k1, if_neg k6, if_neg k6, if_neg k7, if_neg k7, hN, hM, ih f (by omega) g (by omega), ih2 f (by omega) g (by omega)]
theorem joinP_one (k : Int) (x : ByteArray) (l : List (Int × ByteArray)) : joinP ((k, x) :: l) = x ++ joinP l := rfl
theorem joinP_nil : joinP [] = ⟨#[]⟩ := rfl
theorem joinP_last (k : Int) (x : ByteArray) : joinP [(k, x)] = x := by show x ++ ⟨#[]⟩ = x; exact ByteArray.append_empty
theorem join_wrap (b : Bool) (x : List (Int × ByteArray)) : joinP (wrapP b x) = if b = true then ⟨#[40]⟩ ++ (joinP x ++ ⟨#[41]⟩) else joinP x := by
 unfold wrapP
 split
 ·rw [joinP_one, joinP_app, joinP_last]
 ·rfl
theorem nodeX_body {l : List Nd} {i : Nat} {n : Nd} (h : l[i]? = some n) : nodeX l i = joinP (bodyP prX exX l i n) := by
 unfold nodeX exprP
 rw [partP_step h, join_wrap, if_neg]
 have := bindK_range n.kind
 rw [decide_eq_true_eq]; omega
theorem join_part {l : List Nd} {b i : Nat} (h : Seg l b i) {n : Nd} (hn : l[i]? = some n) {f : Nat} (hf : i + 1 ≤ f) (least : Nat) : joinP (partP prX exX l f i least) = partX l i n.kind least := by
 rw [part_more h f hf (i + 1) (Nat.le_refl _), partP_step hn, join_wrap, ← nodeX_body hn]
 unfold partX
 by_cases hb : bindK n.kind < least
 ·rw [if_pos (by simpa using hb), if_pos hb]
 ·rw [if_neg (by simpa using hb), if_neg hb]
theorem nodeX_ref {l : List Nd} {i : Nat} {n : Nd} (h : l[i]? = some n) (hk : n.kind = 0) : nodeX l i = n.name := by
 rw [nodeX_body h]; unfold bodyP; rw [if_pos hk, joinP_last]
theorem nodeX_num {l : List Nd} {i : Nat} {n : Nd} (h : l[i]? = some n) (hk : n.kind = 1) : nodeX l i = prX n.num := by
 rw [nodeX_body h]; unfold bodyP; rw [if_neg (by omega), if_pos hk, joinP_last]
theorem nodeX_neg {l : List Nd} {b i : Nat} {n n0 : Nd} (hs : Seg l b i) (h : l[i + 1]? = some n) (h0 : l[i]? = some n0) (hk : n.kind = 6) (ha : n.a = (i : Int)) : nodeX l (i + 1) = ⟨#[45]⟩ ++ partX l i n0.kind 3 := by
 have hN : n.a.toNat = i := by rw [ha]; exact Int.toNat_natCast i
 rw [nodeX_body h]; unfold bodyP; rw [if_neg (by omega), if_neg (by omega), if_pos hk, hN, joinP_one, join_part hs h0 (Nat.le_refl _)]
theorem nodeX_pow {l : List Nd} {b i : Nat} {n n0 : Nd} (hs : Seg l b i) (h : l[i + 1]? = some n) (h0 : l[i]? = some n0) (hk : n.kind = 7) (ha : n.a = (i : Int)) : nodeX l (i + 1) = partX l i n0.kind 5 ++ (⟨#[94]⟩ ++ ((if n.exp < 0 then ⟨#[45]⟩ else ⟨#[]⟩) ++ exX n.exp.natAbs)) := by
 have hN : n.a.toNat = i := by rw [ha]; exact Int.toNat_natCast i
 rw [nodeX_body h]; unfold bodyP; rw [if_neg (by omega), if_neg (by omega), if_neg (by omega), if_pos hk, hN, joinP_app, join_part hs h0 (Nat.le_refl _), joinP_one, joinP_app, joinP_last]
 split
 ·rw [joinP_last]
 ·rw [joinP_nil]
theorem nodeX_two {l : List Nd} {b j i : Nat} {n n0 n1 : Nd} (hs : Seg l b j) (ht : Seg l (j + 1) i) (h : l[i + 1]? = some n) (h0 : l[j]? = some n0) (h1 : l[i]? = some n1) (h2 : 2 ≤ n.kind) (h5 : n.kind ≤ 5) (ha : n.a = (j : Int)) (hb : n.b = (i : Int)) : nodeX l (i + 1) = partX l j n0.kind (bindK n.kind) ++ (opS n.kind ++ partX l i n1.kind (bindK n.kind + 1)) := by
 have hN : n.a.toNat = j := by rw [ha]; exact Int.toNat_natCast j
 have hM : n.b.toNat = i := by rw [hb]; exact Int.toNat_natCast i
 have hle2 := ht.le
 rw [nodeX_body h]; unfold bodyP; rw [if_neg (by omega), if_neg (by omega), if_neg (by omega), if_neg (by omega), hN, hM, joinP_app, join_part hs h0 (by omega), show spP = (3, ⟨#[32]⟩) from rfl, joinP_one, joinP_one, joinP_one, join_part ht h1 (Nat.le_refl _)]
 unfold opS
 simp only [ByteArray.append_assoc]
theorem partX_size {ms : List Nw} (hf : ∀ m ∈ ms, fillR m = true) {b i : Nat} (h : Seg (ms.map Nw.nd) b i) {n : Nd} (hn : (ms.map Nw.nd)[i]? = some n) (least : Nat) : (partX (ms.map Nw.nd) i n.kind least).size ≤ 100 * ms.length := by
 have := (part_size hf h (i + 1) (Nat.le_refl _) least).2
 rw [join_part h hn (Nat.le_refl _)] at this
 have hle := h.le
 rw [List.length_map] at hle
 omega
theorem nodeX_size {ms : List Nw} (hf : ∀ m ∈ ms, fillR m = true) {b i : Nat} (h : Seg (ms.map Nw.nd) b i) : (nodeX (ms.map Nw.nd) i).size ≤ 100 * ms.length := by
 have := (part_size hf h (i + 1) (Nat.le_refl _) 1).2
 have hle := h.le
 rw [List.length_map] at hle
 unfold nodeX exprP
 omega
theorem Seg.inner {l : List Nd} {b i : Nat} (h : Seg l b i) : ∀ j, b ≤ j → j ≤ i → ∃ c, b ≤ c ∧ Seg l c j := by
 refine (h (fun b i => Seg l b i ∧ ∀ j, b ≤ j → j ≤ i → ∃ c, b ≤ c ∧ Seg l c j) ?_ ?_ ?_).2
 ·intro i n hn hk
  refine ⟨Seg.leaf hn hk, fun j h1 h2 => ?_⟩
  obtain rfl : j = i := by omega
  exact ⟨j, Nat.le_refl _, Seg.leaf hn hk⟩
 ·intro b i n ⟨hs, ih⟩ hn hk ha
  refine ⟨hs.one hn hk ha, fun j h1 h2 => ?_⟩
  rcases Nat.lt_or_ge i j with hj | hj
  ·obtain rfl : j = i + 1 := by omega
   exact ⟨b, Nat.le_refl _, hs.one hn hk ha⟩
  ·exact ih j h1 hj
 ·intro b k i n ⟨hs, ih⟩ ⟨ht, ih2⟩ hn h2 h5 ha hb
  have hle := hs.le
  refine ⟨hs.two ht hn h2 h5 ha hb, fun j h1 h2' => ?_⟩
  rcases Nat.lt_or_ge i j with hj | hj
  ·obtain rfl : j = i + 1 := by omega
   exact ⟨b, Nat.le_refl _, hs.two ht hn h2 h5 ha hb⟩
  ·rcases Nat.lt_or_ge k j with hj2 | hj2
   ·obtain ⟨c, hc, hS⟩ := ih2 j (by omega) hj
    exact ⟨c, by omega, hS⟩
   ·exact ih j h1 hj2
theorem LetsEnd.seg {l : List Nd} : ∀ {m : List (ByteArray × Int)} {b e : Nat}, LetsEnd l b m e → ∀ j, b ≤ j → j < e → ∃ c, Seg l c j := by
 intro m
 induction m with
 | nil =>
  intro b e h j h1 h2
  have : b = e := h
  omega
 | cons x m ih =>
  rintro b e ⟨i, hx, hn, hs, he⟩ j h1 h2
  rcases Nat.lt_or_ge i j with hj | hj
  ·exact ih he j (by omega) h2
  ·obtain ⟨c, -, hS⟩ := hs.inner j h1 hj
   exact ⟨c, hS⟩
def mrX : List ByteArray → ByteArray
 | [] => ⟨#[]⟩
 | x :: l => ⟨#[44, 32]⟩ ++ (x ++ mrX l)
def nmX : List ByteArray → ByteArray
 | [] => ⟨#[]⟩
 | x :: l => x ++ mrX l
def lineX (word rest : ByteArray) : ByteArray := word ++ (⟨#[32]⟩ ++ (rest ++ ⟨#[59, 10]⟩))
theorem two_bytes (a b : UInt8) : (⟨#[a]⟩ : ByteArray) ++ ⟨#[b]⟩ = ⟨#[a, b]⟩ := rfl
theorem join_comma (l : List ByteArray) : joinP (commaP l) = mrX l ++ ⟨#[59, 10]⟩ := by
 induction l with
 | nil =>
  show joinP [(2, ⟨#[59]⟩), (3, ⟨#[10]⟩)] = ⟨#[]⟩ ++ ⟨#[59, 10]⟩
  rw [joinP_one, joinP_last]
  exact (ByteArray.empty_append (b := ⟨#[59, 10]⟩)).symm
 | cons x l ih =>
  show joinP ((2, ⟨#[44]⟩) :: (3, ⟨#[32]⟩) :: (0, x) :: commaP l) = (⟨#[44, 32]⟩ ++ (x ++ mrX l)) ++ ⟨#[59, 10]⟩
  rw [joinP_one, joinP_one, joinP_one, ih, ← two_bytes 44 32]
  simp only [ByteArray.append_assoc]
theorem join_list (key : ByteArray) {l : List ByteArray} (h : l ≠ []) : joinP (listP key l) = lineX key (nmX l) := by
 cases l with
 | nil => exact absurd rfl h
 | cons x l =>
  show joinP ((0, key) :: (3, ⟨#[32]⟩) :: (0, x) :: commaP l) = key ++ (⟨#[32]⟩ ++ ((x ++ mrX l) ++ ⟨#[59, 10]⟩))
  rw [joinP_one, joinP_one, joinP_one, join_comma]
  simp only [ByteArray.append_assoc]
def letX (l : List Nd) (x : ByteArray × Int) : ByteArray := lineX letB (x.1 ++ (⟨#[32, 61, 32]⟩ ++ nodeX l x.2.toNat))
def letsX (l : List Nd) : List (ByteArray × Int) → ByteArray
 | [] => ⟨#[]⟩
 | x :: m => letX l x ++ letsX l m
theorem join_one (l : List Nd) (x : ByteArray × Int) : joinP (oneP l x) = letX l x := by
 have e : oneP l x = (0, letB) :: (3, ⟨#[32]⟩) :: (0, x.1) :: (3, ⟨#[32]⟩) :: (2, ⟨#[61]⟩) :: (3, ⟨#[32]⟩) :: (exprP l x.2.toNat ++ [(2, ⟨#[59]⟩), (3, ⟨#[10]⟩)]) := rfl
 rw [e, joinP_one, joinP_one, joinP_one, joinP_one, joinP_one, joinP_one, joinP_app, joinP_one, joinP_last]
 unfold letX lineX nodeX
 rw [show (⟨#[32, 61, 32]⟩ : ByteArray) = ⟨#[32]⟩ ++ (⟨#[61]⟩ ++ ⟨#[32]⟩) from rfl, ← two_bytes 59 10]
 simp only [ByteArray.append_assoc]
theorem join_lets (l : List Nd) (m : List (ByteArray × Int)) : joinP (letsP l m) = letsX l m := by
 induction m with
 | nil => rfl
 | cons x m ih =>
  show joinP (oneP l x ++ letsP l m) = letX l x ++ letsX l m
  rw [joinP_app, join_one, ih]
theorem progX_lines {ins outs : List ByteArray} (hi : ins ≠ []) (ho : outs ≠ []) (lets : List (ByteArray × Int)) (l : List Nd) : progX ins outs lets l = lineX inB (nmX ins) ++ (letsX l lets ++ lineX outB (nmX outs)) := by
 unfold progX progP
 rw [joinP_app, joinP_app, join_list _ hi, join_list _ ho, join_lets]
theorem letsX_app (l : List Nd) (m m' : List (ByteArray × Int)) : letsX l (m ++ m') = letsX l m ++ letsX l m' := by
 induction m with
 | nil => exact (ByteArray.empty_append (b := letsX l m')).symm
 | cons x m ih => show letX l x ++ letsX l (m ++ m') = (letX l x ++ letsX l m) ++ letsX l m'; rw [ih, ByteArray.append_assoc]
end
section
open Go.RowKit Go.Lib
def AnsB (w : World) (x : ByteArray) (e : Ending) (w' : World) : Prop := e = .returned (.string x) ∧ Below w.heap.size w w'
section
variable {w : World} {a : Option Addr} {n c : Nat} {ms : List Mn} {i : Nat} {m : Mn} {ua : Option Addr} {un uc : Nat} {va : Option Addr} {vn vc : Nat}
end
end
end Go.Proofs.YtaeladkcmpdkhaaGreatDoor
