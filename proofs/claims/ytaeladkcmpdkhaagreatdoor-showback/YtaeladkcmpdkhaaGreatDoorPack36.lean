/-
  Texts of mine in build order. No conditions of their own.
-/
import Derived.Test.YtaeladkcmpdkhaaGreatDoorPack34
import Derived.Test.YtaeladkcmpdkhaaGreatDoorPack35
namespace Go.Proofs.YtaeladkcmpdkhaaGreatDoor
section
open Go.Lib
theorem toks_comma (l : List ByteArray) : toksP (commaP l) = commaT l := by
 induction l with
 | nil => rfl
 | cons x l ih =>
  unfold commaP
  rw [toksP_cons (by decide), show spP = (3, ⟨#[32]⟩) from rfl, toksP_blank, toksP_cons (by decide), ih]; rfl
theorem toks_list (key : ByteArray) (l : List ByteArray) : toksP (listP key l) = listT key l := by
 cases l with
 | nil => rfl
 | cons x l =>
  unfold listP
  rw [toksP_cons (by decide), show spP = (3, ⟨#[32]⟩) from rfl, toksP_blank, toksP_cons (by decide), toks_comma]; rfl
theorem toks_one (l : List Nd) (x : ByteArray × Int) : toksP (oneP l x) = oneG (fun i => toksP (exprP l i)) x := by
 unfold oneP
 rw [toksP_cons (by decide), show spP = (3, ⟨#[32]⟩) from rfl, toksP_blank, toksP_cons (by decide), toksP_blank, toksP_cons (by decide), toksP_blank, toksP_app]; rfl
theorem toks_lets (l : List Nd) (lets : List (ByteArray × Int)) : toksP (letsP l lets) = letsG (fun i => toksP (exprP l i)) lets := by
 induction lets with
 | nil => rfl
 | cons x lets ih =>
  show toksP (oneP l x ++ letsP l lets) = oneG _ x ++ letsG _ lets
  rw [toksP_app, toks_one, ih]
theorem toks_prog (ins outs : List ByteArray) (lets : List (ByteArray × Int)) (l : List Nd) : toksP (progP ins outs lets l) = listT inB ins ++ (letsG (fun i => toksP (exprP l i)) lets ++ listT outB outs) := by
 unfold progP
 rw [toksP_app, toksP_app, toks_list, toks_list, toks_lets]
theorem ok_nl : okP nlP := .inl ⟨rfl, .inr rfl⟩
theorem adj_nl {l : List (Int × ByteArray)} (k : AdjP l) : AdjP (nlP :: l) := ⟨ok_nl, fun e => by rcases e with e | e <;> exact absurd (show (3 : Int) = _ from e) (by decide), k⟩
theorem comma_adj {l : List ByteArray} (h : ∀ x ∈ l, nameB x = true) {z : List (Int × ByteArray)} (hz : AdjP z) : AdjP (commaP l ++ z) ∧ stops (commaP l ++ z) := by
 induction l with
 | nil => exact ⟨adj_mark (.inr (.inr (.inr (.inr (.inr (.inr (.inr (.inr (.inl rfl))))))))) (adj_nl hz), stops_mark (.inr (.inr (.inr (.inr (.inr (.inr (.inr (.inr (.inl rfl))))))))) _⟩
 | cons x l ih =>
  obtain ⟨h1, h2⟩ := ih (fun y hy => h y (List.mem_cons_of_mem _ hy))
  exact ⟨adj_mark (.inr (.inr (.inr (.inr (.inr (.inr (.inr (.inl rfl)))))))) (adj_sp (adj_word (.inl rfl) (name_right (h x (List.mem_cons_self ..))) h2 h1)), stops_mark (.inr (.inr (.inr (.inr (.inr (.inr (.inr (.inl rfl)))))))) _⟩
theorem list_adj {key : ByteArray} (hk : RightT 0 key) {l : List ByteArray} (h : ∀ x ∈ l, nameB x = true) {z : List (Int × ByteArray)} (hz : AdjP z) : AdjP (listP key l ++ z) := by
 cases l with
 | nil => exact hz
 | cons x l =>
  obtain ⟨h1, h2⟩ := comma_adj (fun y hy => h y (List.mem_cons_of_mem _ hy)) hz
  exact adj_word (.inl rfl) hk (stops_sp _) (adj_sp (adj_word (.inl rfl) (name_right (h x (List.mem_cons_self ..))) h2 h1))
theorem lets_adj {ms : List Nw} (hf : ∀ m ∈ ms, fillR m = true) {lets : List (ByteArray × Int)} (h : ∀ x ∈ lets, nameB x.1 = true) {z : List (Int × ByteArray)} (hz : AdjP z) : AdjP (letsP (ms.map Nw.nd) lets ++ z) := by
 induction lets with
 | nil => exact hz
 | cons x lets ih =>
  have h1 := ih (fun y hy => h y (List.mem_cons_of_mem _ hy))
  have e : letsP (ms.map Nw.nd) (x :: lets) ++ z = (0, letB) :: spP :: (0, x.1) :: spP :: (2, ⟨#[61]⟩) :: spP :: (exprP (ms.map Nw.nd) x.2.toNat ++ ((2, ⟨#[59]⟩) :: nlP :: (letsP (ms.map Nw.nd) lets ++ z))) := by
   show (oneP (ms.map Nw.nd) x ++ letsP (ms.map Nw.nd) lets) ++ z = _
   unfold oneP
   simp only [List.append_assoc, List.cons_append, List.nil_append]
  rw [e]
  have m59 : markB 59 := .inr (.inr (.inr (.inr (.inr (.inr (.inr (.inr (.inl rfl))))))))
  have m61 : markB 61 := .inr (.inr (.inr (.inr (.inr (.inr (.inr (.inr (.inr rfl))))))))
  exact adj_word (.inl rfl) keys_right.2.2.1 (stops_sp _) (adj_sp (adj_word (.inl rfl) (name_right (h x (List.mem_cons_self ..))) (stops_sp _) (adj_sp (adj_mark m61 (adj_sp (part_adj hf _ _ _ _ (adj_mark m59 (adj_nl h1)) (stops_mark m59 _)))))))
theorem prog_adj {ms : List Nw} (hf : ∀ m ∈ ms, fillR m = true) {ins outs : List ByteArray} {lets : List (ByteArray × Int)} (hi : ∀ x ∈ ins, nameB x = true) (ho : ∀ x ∈ outs, nameB x = true) (hl : ∀ x ∈ lets, nameB x.1 = true) : AdjP (progP ins outs lets (ms.map Nw.nd)) := by
 have h1 : AdjP (listP outB outs) := by
  have := list_adj keys_right.2.1.1 ho (z := []) trivial
  rwa [List.append_nil] at this
 exact list_adj keys_right.1.1 hi (lets_adj hf hl h1)
theorem exprP_reads {ms : List Nw} (hf : ∀ m ∈ ms, fillR m = true) : ReadsAs numT (ms.map Nw.nd) (fun i => toksP (exprP (ms.map Nw.nd) i)) := by
 intro b i hs L r hb hp
 refine whole_read (fun n hn => ?_) hs hb hp
 obtain ⟨m, hm, rfl⟩ := List.mem_map.1 hn
 exact fill_fields (hf m hm)
end
section
open Go.Lib
theorem comma_size {l : List ByteArray} (h : ∀ x ∈ l, nameB x = true) : Fits (commaP l) (3 * l.length + 2) (42 * l.length + 2) := by
 induction l with
 | nil => exact Fits.cons (t := (2, ⟨#[59]⟩)) (z := 1) (Nat.le_refl _) (Fits.cons (t := nlP) (z := 1) (Nat.le_refl _) Fits.nil)
 | cons x l ih =>
  have hx : x.size ≤ 40 := by have := name_short (h x (List.mem_cons_self ..)); omega
  rw [List.length_cons]
  exact (Fits.cons (t := (2, ⟨#[44]⟩)) (z := 1) (Nat.le_refl _) (Fits.cons (t := spP) (z := 1) (Nat.le_refl _) (Fits.cons (t := (0, x)) hx (ih fun y hy => h y (List.mem_cons_of_mem _ hy))))).le (by omega) (by omega)
theorem list_size {key : ByteArray} (hk : key.size ≤ 3) {l : List ByteArray} (h : ∀ x ∈ l, nameB x = true) : Fits (listP key l) (3 * l.length + 3) (42 * l.length + 6) := by
 cases l with
 | nil => exact Fits.nil.le (by omega) (by omega)
 | cons x l =>
  have hx : x.size ≤ 40 := by have := name_short (h x (List.mem_cons_self ..)); omega
  rw [List.length_cons]
  exact (Fits.cons (t := (0, key)) hk (Fits.cons (t := spP) (z := 1) (Nat.le_refl _) (Fits.cons (t := (0, x)) hx (comma_size fun y hy => h y (List.mem_cons_of_mem _ hy))))).le (by omega) (by omega)
theorem show_parse {ms : List Nw} {ins outs : List ByteArray} {lets : List (ByteArray × Int)} (h : rgtB ins outs lets ms = true) : parseI (progX ins outs lets (ms.map Nw.nd)) = (⟨ins, lets, outs, ms.map Nw.nd⟩, (0, 0), 0) ∧ (progX ins outs lets (ms.map Nw.nd)).size ≤ 60000 := by
 obtain ⟨hf, hi, ho, hl, hi0, ho0, n1, n2, n3, n4, hlow⟩ := rgt_parts h
 have hln := hl.names
 have A := prog_adj hf hi ho hln
 have hz : Fits (progP ins outs lets (ms.map Nw.nd)) 3400 46000 := by
  have S := (list_size (key := inB) (by decide) hi).app ((lets_size hf lets 0 _ hl).app (list_size (key := outB) (by decide) ho))
  rw [List.length_map] at S
  exact S.le (by omega) (by omega)
 have ht := toksP_length (progP ins outs lets (ms.map Nw.nd))
 obtain ⟨r, hr, hk⟩ := lexI_pieces A (by have := hz.1; omega) (by have := hz.2; omega)
 have P := progG_read (exprP_reads hf) hi0 hi ho0 ho hl (L := r) (by rw [hk, toks_prog])
 refine ⟨?_, by have := hz.2; unfold progX; omega⟩
 unfold parseI progX
 rw [hr]
 dsimp only
 rw [if_neg (by simp), P]
 dsimp only
 rw [if_neg (by simp), if_neg]
 intro hb
 unfold lngB at hb
 rw [decide_eq_false (by rw [List.length_map]; omega), decide_eq_false (by omega), decide_eq_false (by omega), decide_eq_false (by omega)] at hb
 unfold lowB at hlow
 simp only [Bool.false_or] at hb
 rw [hb] at hlow
 exact absurd hlow (by simp)
end
end Go.Proofs.YtaeladkcmpdkhaaGreatDoor
