/-
  Texts of mine in build order. No conditions of their own.
-/
import Derived.Test.YtaeladkcmpdkhaaGreatDoorPack31
import Derived.Test.YtaeladkcmpdkhaaGreatDoorPack34
import Derived.Test.YtaeladkcmpdkhaaGreatDoorPack40
import Derived.Test.YtaeladkcmpdkhaaGreatDoorPack53
namespace Go.Proofs.YtaeladkcmpdkhaaGreatDoor
section
open Go.RowKit Go.Lib
theorem OwnC.atg {T : TypeId} {k : Nat} {W w : World} {a : Option Addr} {n c : Nat} {cs : List Value} (h : OwnC T k W w (.slice a n c) n cs) (hn : 0 < n) : ∃ g, a = some ⟨g, 0, none⟩ := by
 rcases h.1.2 with ⟨e, -⟩ | ⟨g, cap, cur, e, -⟩
 ·injection e with _ e2; omega
 ·injection e with e1; exact ⟨g, e1⟩
section
variable {w : World} {a : Option Addr} {n c : Nat} {ms : List Mn} {i : Nat} {m : Mn} {ua : Option Addr} {un uc : Nat} {va : Option Addr} {vn vc : Nat}
end
end
section
open Go.Lib
def b40 (s : ByteArray) (i : Nat) : Nat := (s.data.toList.drop i).countP (· == 40)
theorem b40_less (s : ByteArray) {i j : Nat} (h : i ≤ j) : b40 s j ≤ b40 s i := by
 unfold b40
 rw [show j = i + (j - i) by omega, ← List.drop_drop]
 exact (List.drop_sublist _ _).countP_le
theorem b40_app (x y : ByteArray) : b40 (x ++ y) 0 = b40 x 0 + b40 y 0 := by
 unfold b40
 rw [List.drop_zero, List.drop_zero, List.drop_zero, ByteArray.data_append, Array.toList_append, List.countP_append]
theorem b40_token {s : ByteArray} {i e : Nat} (hi : i < e) (_he : e ≤ s.size) (h : (s.extract i e).data.toList = [40]) : b40 s i = 1 + b40 s e := by
 unfold b40
 rw [ByteArray.data_extract, Array.toList_extract, List.extract_eq_take_drop] at h
 have hd : s.data.toList.drop i = [40] ++ s.data.toList.drop e := by
  conv => lhs; rw [← List.take_append_drop (e - i) (s.data.toList.drop i)]
  rw [h, List.drop_drop, show i + (e - i) = e by omega]
 rw [hd, List.countP_append]; rfl
theorem lex_opens (s : ByteArray) : ∀ f i out, cntP (ktx (lexF s f i out).1) ≤ cntP (ktx out) + b40 s i := by
 intro f
 induction f with
 | zero => intro i out; unfold lexF; exact Nat.le_add_right _ _
 | succ f ih =>
  intro i out
  unfold lexF
  by_cases hi : i < s.size
  ·rw [if_pos hi]
   by_cases h3 : kindAt s i = 3
   ·rw [if_pos h3]
    exact Nat.le_trans (ih (i + 1) out) (Nat.add_le_add_left (b40_less s (Nat.le_succ i)) _)
   rw [if_neg h3]
   by_cases h4 : 4000 ≤ out.length
   ·rw [if_pos h4]; exact Nat.zero_le _
   rw [if_neg h4]
   by_cases h5 : (tokenI s i).2.2.2 ≠ 0
   ·rw [if_pos h5]; exact Nat.zero_le _
   rw [if_neg h5]
   have h5' := Decidable.not_not.1 h5
   obtain ⟨e1, e2⟩ := tokenI_end hi h5'
   obtain ⟨-, htx⟩ := tokenI_ok h5'
   have := ih (tokenI s i).2.2.1 (out ++ [((tokenI s i).1, (tokenI s i).2.1, (placeI s i).1, (placeI s i).2)])
   have hk : ktx (out ++ [((tokenI s i).1, (tokenI s i).2.1, (placeI s i).1, (placeI s i).2)]) = ktx out ++ [((tokenI s i).1, (tokenI s i).2.1)] := by unfold ktx; rw [List.map_append]; rfl
   rw [hk, cntP_app] at this
   have hc : cntP [((tokenI s i).1, (tokenI s i).2.1)] = if isO ((tokenI s i).1, (tokenI s i).2.1) = true then 1 else 0 := by rw [cntP_cons]; rfl
   rw [hc] at this
   by_cases ho : isO ((tokenI s i).1, (tokenI s i).2.1) = true
   ·rw [if_pos ho] at this
    have hx : (tokenI s i).2.1.data.toList = [40] := by
     unfold isO at ho
     rw [Bool.and_eq_true] at ho
     exact eq_of_beq ho.2
    rw [htx] at hx
    have := b40_token e1 e2 hx
    omega
   ·rw [if_neg ho] at this
    have := b40_less s (Nat.le_of_lt e1)
    omega
  ·rw [if_neg hi]; exact Nat.le_add_right _ _
theorem lexI_opens (s : ByteArray) : cntP (ktx (lexI s).1) ≤ b40 s 0 := by
 unfold lexI
 split
 ·exact Nat.zero_le _
 ·have := lex_opens s (s.size + 1) 0 []
  have e : cntP (ktx ([] : List Tok)) = 0 := rfl
  omega
theorem parse_opens {pr : Bool × Nat × Nat → ByteArray} {ex : Nat → ByteArray} {s : ByteArray} {p : Pg} {l c : Int} (h : parseI s = (p, (l, c), 0)) : OL pr ex p.all p.lets ≤ b40 s 0 := by
 unfold parseI at h
 split at h
 ·rename_i h1
  injection h with _ h2
  injection h2 with _ h3
  exact absurd h3 h1
 ·split at h
  ·rename_i hb
   split at h
   ·injection h with _ h2
    injection h2 with _ h3
    exact absurd h3 (by decide)
   ·injection h with _ h2
    injection h2 with _ h3
    exact absurd h3 (by decide)
  ·rename_i hb
   split at h
   ·injection h with _ h2
    injection h2 with _ h3
    exact absurd h3 (by decide)
   ·injection h with h1 h2
    have hb' : (progI numT (lexI s).1).2.bad = false := by simpa using hb
    have := prog_readc (pr := pr) (ex := ex) hb'
    rw [h1] at this
    exact Nat.le_trans this (lexI_opens s)
end
section
open Go.Lib
theorem name_bytes {s : ByteArray} : ∀ f i, nameF s f i = true → s.size < i + f → ∀ j, i ≤ j → j < s.size → bt s j ≠ 40 := by
 intro f
 induction f with
 | zero => intro i _ h j h1 h2; omega
 | succ f ih =>
  intro i h hf j h1 h2
  have hi : i < s.size := by omega
  unfold nameF at h
  rw [if_pos hi] at h
  split at h
  ·exact absurd h (by simp)
  ·rename_i hc
   have hz := stepAt_size hi
   have es : stepAt s i = nextN s i := by unfold stepAt; rw [if_pos hi]
   rw [es] at hz
   have hr : nextR s i ≠ 65533 := by
    intro e
    rw [e, kind_err] at hc
    omega
   rcases Nat.lt_or_ge j (i + nextN s i) with hj | hj
   ·rcases Nat.eq_or_lt_of_le h1 with e | hlt
    ·subst e
     intro e40
     have hb := next_byte (s := s) (i := i) (by omega)
     rw [hb.1, e40] at hc
     exact hc (.inl (by decide))
    ·have := next_inner (s := s) (i := i) (k := j) hlt hj
     omega
   ·exact ih (i + nextN s i) h (by omega) j hj h2
theorem b40_none {s : ByteArray} (h : ∀ j, j < s.size → bt s j ≠ 40) : b40 s 0 = 0 := by
 unfold b40
 rw [List.drop_zero, List.countP_eq_zero]
 intro c hc e
 obtain ⟨j, hj, rfl⟩ := List.getElem_of_mem hc
 have hz : j < s.size := by rw [Array.length_toList] at hj; exact hj
 apply h j hz
 rw [bt_get hz]
 have : s.data.toList[j] = 40 := eq_of_beq e
 show (s.data[j]).toNat = 40
 rw [← Array.getElem_toList hj, this]; rfl
theorem name_none {x : ByteArray} (h : nameB x = true) : b40 x 0 = 0 := by
 unfold nameB at h
 simp only [Bool.and_eq_true] at h
 exact b40_none (fun j hj => name_bytes _ 0 h.2 (by omega) j (Nat.zero_le _) hj)
theorem digits_none {l : List UInt8} (h : ∀ c ∈ l, (48 ≤ c.toNat ∧ c.toNat ≤ 57) ∨ c = 124 ∨ c = 45) : b40 ⟨l.toArray⟩ 0 = 0 := by
 unfold b40
 rw [List.drop_zero, List.countP_eq_zero]
 intro c hc e
 have e : c = 40 := eq_of_beq e
 subst e
 rcases h 40 (by simpa using hc) with q | q | q
 ·exact absurd q.1 (by decide)
 ·exact absurd q (by decide)
 ·exact absurd q (by decide)
theorem pr_none (t : Bool × Nat × Nat) : b40 (prX t) 0 = 0 := by
 unfold prX
 refine digits_none (fun c hc => ?_)
 have dg : ∀ n : Nat, ∀ c ∈ decOf n, 48 ≤ c.toNat ∧ c.toNat ≤ 57 := fun n => (num_decOf n).2.1
 have di : ∀ z : Int, ∀ c ∈ decI z, (48 ≤ c.toNat ∧ c.toNat ≤ 57) ∨ c = 124 ∨ c = 45 := fun z c hc => by
  unfold decI at hc
  split at hc
  ·rcases List.mem_cons.1 hc with e | hc
   ·exact .inr (.inr e)
   ·exact .inl (dg _ c hc)
  ·exact .inl (dg _ c hc)
 unfold decR at hc
 split at hc
 ·exact di _ c hc
 ·rcases List.mem_append.1 hc with hc | hc
  ·exact di _ c hc
  ·rcases List.mem_cons.1 hc with e | hc
   ·exact .inr (.inl e)
   ·exact .inl (dg _ c hc)
theorem ex_none (k : Nat) : b40 (exX k) 0 = 0 := by
 unfold exX
 exact digits_none (fun c hc => .inl ((num_decOf k).2.1 c hc))
theorem b40_cons (k : Int) (x : ByteArray) (l : List (Int × ByteArray)) : b40 (joinP ((k, x) :: l)) 0 = b40 x 0 + b40 (joinP l) 0 := b40_app x (joinP l)
theorem b40_wrap (b : Bool) (x : List (Int × ByteArray)) : b40 (joinP (wrapP b x)) 0 = (if b = true then 1 else 0) + b40 (joinP x) 0 := by
 unfold wrapP
 split
 ·rw [b40_cons, joinP_app, b40_app]
  show 1 + (_ + 0) = _
  omega
 ·rw [Nat.zero_add]
theorem part_b40 {ms : List Nw} (hf : ∀ m ∈ ms, fillR m = true) : ∀ f i least, b40 (joinP (partP prX exX (ms.map Nw.nd) f i least)) 0 = cntP (partP prX exX (ms.map Nw.nd) f i least) := by
 intro f
 induction f with
 | zero => intro i least; rfl
 | succ f ih =>
  intro i least
  cases hn : (ms.map Nw.nd)[i]? with
  | none =>
   have e : partP prX exX (ms.map Nw.nd) (f + 1) i least = [] := by unfold partP; rw [hn]
   rw [e]; rfl
  | some n =>
   rw [partP_step hn, b40_wrap, cnt_wrap]
   rw [List.getElem?_map] at hn
   cases hm : ms[i]? with
   | none => rw [hm] at hn; exact absurd hn (by simp)
   | some m =>
    rw [hm] at hn
    obtain rfl : m.nd = n := by simpa using hn
    have hfm := hf m (List.mem_of_getElem? hm)
    congr 1
    have o45 : isO (2, ⟨#[45]⟩) = false := rfl
    have o94 : isO (2, ⟨#[94]⟩) = false := rfl
    have b45 : b40 ⟨#[45]⟩ 0 = 0 := rfl
    have b94 : b40 ⟨#[94]⟩ 0 = 0 := rfl
    have b32 : b40 ⟨#[32]⟩ 0 = 0 := rfl
    have z : b40 (joinP []) 0 = 0 := rfl
    have z' : cntP [] = 0 := rfl
    have o1 : ∀ x : ByteArray, isO (1, x) = false := fun _ => rfl
    have o0 : ∀ x : ByteArray, isO (0, x) = false := fun _ => rfl
    have o3 : ∀ x : ByteArray, isO (3, x) = false := fun _ => rfl
    have e1 : b40 (opB m.nd.kind) 0 = 0 := by
     unfold opB
     repeat' split
     all_goals rfl
    have e2 : isO (2, opB m.nd.kind) = false := by
     unfold isO opB
     repeat' split
     all_goals rfl
    unfold bodyP
    split
    ·rename_i k0
     have q := name_none (fill_ref hfm k0)
     have q' : b40 m.nd.name 0 = 0 := q
     simp only [b40_cons, cntP_cons, q', z, z', o0, Bool.false_eq_true, if_false]
    ·split
     ·simp only [b40_cons, cntP_cons, pr_none, z, z', o1, Bool.false_eq_true, if_false]
     ·split
      ·simp only [b40_cons, cntP_cons, ih, o45, b45, Bool.false_eq_true, if_false]
      ·split
       ·split
        ·simp only [joinP_app, b40_app, cntP_app, ih, b40_cons, cntP_cons, ex_none, o45, b45, o94, b94, z, z', o1, Bool.false_eq_true, if_false]
        ·simp only [joinP_app, b40_app, cntP_app, ih, b40_cons, cntP_cons, ex_none, o94, b94, z, z', o1, Bool.false_eq_true, if_false]
       ·rw [show spP = (3, ⟨#[32]⟩) from rfl]
        simp only [joinP_app, b40_app, cntP_app, ih, b40_cons, cntP_cons, b32, e1, e2, o3, Bool.false_eq_true, if_false]
theorem node_b40 {ms : List Nw} (hf : ∀ m ∈ ms, fillR m = true) (i : Nat) : b40 (nodeX (ms.map Nw.nd) i) 0 = OP prX exX (ms.map Nw.nd) i 1 := part_b40 hf _ i 1
end
section
open Go.Lib
def xB : ByteArray := ⟨#[120]⟩
def qB : ByteArray := ⟨#[113]⟩
def hdB : ByteArray := ⟨#[105, 110, 32, 120, 59, 32, 108, 101, 116, 32, 113, 32, 61, 32]⟩
def tlB : ByteArray := ⟨#[59, 32, 111, 117, 116, 32, 120, 59]⟩
def needX (s : ByteArray) : ByteArray := hdB ++ s ++ tlB
def needP (E : List (Int × ByteArray)) : List (Int × ByteArray) := (0, inB) :: spP :: (0, xB) :: (2, ⟨#[59]⟩) :: spP :: (0, letB) :: spP :: (0, qB) :: spP :: (2, ⟨#[61]⟩) :: spP :: (E ++ [(2, ⟨#[59]⟩), spP, (0, outB), spP, (0, xB), (2, ⟨#[59]⟩)])
theorem nmx_name : nameB xB = true := by kernel_rfl
theorem nmq_name : nameB qB = true := by kernel_rfl
theorem join_need (E : List (Int × ByteArray)) : joinP (needP E) = needX (joinP E) := by
 have e : needP E = (0, inB) :: (3, ⟨#[32]⟩) :: (0, xB) :: (2, ⟨#[59]⟩) :: (3, ⟨#[32]⟩) :: (0, letB) :: (3, ⟨#[32]⟩) :: (0, qB) :: (3, ⟨#[32]⟩) :: (2, ⟨#[61]⟩) :: (3, ⟨#[32]⟩) :: (E ++ [(2, ⟨#[59]⟩), (3, ⟨#[32]⟩), (0, outB), (3, ⟨#[32]⟩), (0, xB), (2, ⟨#[59]⟩)]) := rfl
 have t : joinP [((2 : Int), (⟨#[59]⟩ : ByteArray)), (3, ⟨#[32]⟩), (0, outB), (3, ⟨#[32]⟩), (0, xB), (2, ⟨#[59]⟩)] = tlB := by kernel_rfl
 rw [e]
 simp only [joinP_one, joinP_app, t]
 unfold needX
 rw [show hdB = inB ++ (⟨#[32]⟩ ++ (xB ++ (⟨#[59]⟩ ++ (⟨#[32]⟩ ++ (letB ++ (⟨#[32]⟩ ++ (qB ++ (⟨#[32]⟩ ++ (⟨#[61]⟩ ++ ⟨#[32]⟩))))))))) from rfl]
 simp only [ByteArray.append_assoc]
theorem toks_need (E : List (Int × ByteArray)) : toksP (needP E) = listT inB [xB] ++ (((0, ⟨#[108, 101, 116]⟩) :: (0, qB) :: (2, ⟨#[61]⟩) :: (toksP E ++ [((2 : Int), (⟨#[59]⟩ : ByteArray))])) ++ listT outB [xB]) := by
 have t : toksP [((2 : Int), (⟨#[59]⟩ : ByteArray)), spP, (0, outB), spP, (0, xB), (2, ⟨#[59]⟩)] = ((2 : Int), (⟨#[59]⟩ : ByteArray)) :: listT outB [xB] := rfl
 have e : toksP (needP E) = (0, inB) :: (0, xB) :: (2, ⟨#[59]⟩) :: (0, letB) :: (0, qB) :: (2, ⟨#[61]⟩) :: toksP (E ++ [((2 : Int), (⟨#[59]⟩ : ByteArray)), spP, (0, outB), spP, (0, xB), (2, ⟨#[59]⟩)]) := rfl
 rw [e, toksP_app, t]
 show _ = [(0, inB), (0, xB), (2, ⟨#[59]⟩)] ++ _
 simp only [List.cons_append, List.nil_append, List.append_assoc]
 rfl
theorem adj_need {ms : List Nw} (hf : ∀ m ∈ ms, fillR m = true) (i : Nat) : AdjP (needP (exprP (ms.map Nw.nd) i)) := by
 have m59 : markB 59 := .inr (.inr (.inr (.inr (.inr (.inr (.inr (.inr (.inl rfl))))))))
 have m61 : markB 61 := .inr (.inr (.inr (.inr (.inr (.inr (.inr (.inr (.inr rfl))))))))
 have nx := name_right nmx_name
 have nq := name_right nmq_name
 have A : AdjP [((2 : Int), (⟨#[59]⟩ : ByteArray)), spP, (0, outB), spP, (0, xB), (2, ⟨#[59]⟩)] :=
  adj_mark m59 (adj_sp (adj_word (.inl rfl) keys_right.2.1.1 (stops_sp _) (adj_sp (adj_word (.inl rfl) nx (stops_mark m59 _) (adj_mark m59 trivial)))))
 exact adj_word (.inl rfl) keys_right.1.1 (stops_sp _) (adj_sp (adj_word (.inl rfl) nx (stops_mark m59 _) (adj_mark m59 (adj_sp (adj_word (.inl rfl) keys_right.2.2.1 (stops_sp _) (adj_sp (adj_word (.inl rfl) nq (stops_sp _) (adj_sp (adj_mark m61 (adj_sp (part_adj hf _ _ _ _ A (stops_mark m59 _))))))))))))
theorem need_parse {ms : List Nw} (hf : ∀ m ∈ ms, fillR m = true) (hn : ms.length ≤ 400) (hlow : lowB (ms.map Nw.nd) = true) {b i : Nat} (hs : Seg (ms.map Nw.nd) b i) : parseI (needX (nodeX (ms.map Nw.nd) i)) = (⟨[xB], [(qB, ((i + 1 - b : Nat) : Int) - 1)], [xB], own1 (ms.map Nw.nd) b i⟩, (0, 0), 0) ∧ (needX (nodeX (ms.map Nw.nd) i)).size ≤ 60000 := by
 have hle := hs.le
 have HF : ∀ n ∈ ms.map Nw.nd, FieldsP numT prX exX n := fun n hn => by
  obtain ⟨m, hm, rfl⟩ := List.mem_map.1 hn
  exact fill_fields (hf m hm)
 have hl1 := own1_length (b := b) hle.2
 have Z := part_size hf hs (i + 1) (Nat.le_refl _) 1
 rw [List.length_map] at hle
 have hz : (needX (nodeX (ms.map Nw.nd) i)).size ≤ 60000 := by
  unfold needX nodeX exprP
  rw [ByteArray.size_append, ByteArray.size_append]
  have e1 : hdB.size = 14 := rfl
  have e2 : tlB.size = 8 := rfl
  have := Z.2
  omega
 have ht : (toksP (needP (exprP (ms.map Nw.nd) i))).length ≤ 4000 := by
  refine Nat.le_trans (toksP_length _) ?_
  unfold needP exprP
  simp only [List.length_cons, List.length_append, List.length_nil]
  have := Z.1
  omega
 have hj : joinP (needP (exprP (ms.map Nw.nd) i)) = needX (nodeX (ms.map Nw.nd) i) := join_need _
 obtain ⟨r, hr, hk⟩ := lexI_pieces (adj_need hf i) ht (by rw [hj]; exact hz)
 rw [hj] at hr
 have P := one_read (num := numT) (E := toksP (exprP (ms.map Nw.nd) i)) (ns := own1 (ms.map Nw.nd) b i) (L := r) (fun q hb ha hp => by
   have R := whole_read HF hs hb hp
   rw [ha] at R
   have e : ((([] : List Nd).length : Nat) : Int) - b = -(b : Int) := by rw [List.length_nil]; omega
   rw [e] at R
   exact R) (ins := [xB]) (outs := [xB]) (nm := qB) (by simp) (fun x hx => by obtain rfl := List.mem_singleton.1 hx; exact nmx_name) (by simp) (fun x hx => by obtain rfl := List.mem_singleton.1 hx; exact nmx_name) nmq_name (by rw [hk, toks_need])
 refine ⟨?_, hz⟩
 have hlw : ∀ j, j < (ms.map Nw.nd).length → tallI (ms.map Nw.nd) j ≤ 60 := fun j hj => by
  unfold lowB at hlow
  rw [Bool.not_eq_true'] at hlow
  have := List.any_eq_false.1 hlow j (List.mem_range.2 hj)
  simp only [decide_eq_true_eq] at this
  omega
 have hl2 := own1_low hs hlw
 unfold parseI
 rw [hr]
 dsimp only
 rw [if_neg (by simp), P]
 dsimp only
 rw [if_neg (by simp), if_neg, hl1]
 intro hb
 unfold lngB at hb
 have hall : ((List.range (own1 (ms.map Nw.nd) b i).length).any fun k => decide (60 < tallI (own1 (ms.map Nw.nd) b i) k)) = false := by
  rw [List.any_eq_false]
  intro k hk
  have := hl2 k (List.mem_range.1 hk)
  rw [decide_eq_true_eq]
  omega
 rw [hall, decide_eq_false (by rw [hl1]; omega)] at hb
 exact absurd hb (by simp)
theorem need_other {ms : List Nw} (hf : ∀ m ∈ ms, fillR m = true) {b i : Nat} (hs : Seg (ms.map Nw.nd) b i) {t : ByteArray} (ht : b40 t 0 < b40 (nodeX (ms.map Nw.nd) i) 0) {p : Pg} {l c : Int} (hp : parseI (needX t) = (p, (l, c), 0)) : p.lets ≠ [(qB, ((i + 1 - b : Nat) : Int) - 1)] ∨ p.all ≠ own1 (ms.map Nw.nd) b i := by
 by_cases h1 : p.lets = [(qB, ((i + 1 - b : Nat) : Int) - 1)]
 ·refine .inr fun h2 => ?_
  have hle := hs.le
  have o := parse_opens (pr := prX) (ex := exX) hp
  rw [h1, h2] at o
  have e1 : OL prX exX (own1 (ms.map Nw.nd) b i) [(qB, ((i + 1 - b : Nat) : Int) - 1)] = OP prX exX (ms.map Nw.nd) i 1 := by
   show OP prX exX (own1 (ms.map Nw.nd) b i) (((i + 1 - b : Nat) : Int) - 1).toNat 1 + 0 = _
   rw [show (((i + 1 - b : Nat) : Int) - 1).toNat = i - b by omega, Nat.add_zero]
   unfold OP
   rw [part_more (own1_seg hs b i (Nat.le_refl _) (Nat.le_refl _)) (i - b + 1) (Nat.le_refl _) (i + 1) (by omega), own1_part hs (i + 1) (i - b) 1 (by omega), show b + (i - b) = i by omega]
  rw [e1, ← node_b40 hf i] at o
  unfold needX at o
  rw [b40_app, b40_app, show b40 hdB 0 = 0 from rfl, show b40 tlB 0 = 0 from rfl] at o
  omega
 ·exact .inl h1
end
section
open Go.Lib
def runB : Nat → List UInt8 → Option Nat
 | d, [] => some d
 | d, c :: l => if c = 40 then runB (d + 1) l else if c = 41 then (if d = 0 then none else runB (d - 1) l) else runB d l
theorem runB_app (l m : List UInt8) : ∀ d, runB d (l ++ m) = (runB d l).bind fun e => runB e m := by
 induction l with
 | nil => intro d; rfl
 | cons c l ih =>
  intro d
  show (if c = 40 then runB (d + 1) (l ++ m) else if c = 41 then (if d = 0 then none else runB (d - 1) (l ++ m)) else runB d (l ++ m)) = Option.bind (if c = 40 then runB (d + 1) l else if c = 41 then (if d = 0 then none else runB (d - 1) l) else runB d l) _
  rw [ih, ih, ih]
  repeat' split
  all_goals rfl
def BalB (x : ByteArray) : Prop := ∀ d, runB d x.data.toList = some d
theorem BalB.app {x y : ByteArray} (h : BalB x) (h' : BalB y) : BalB (x ++ y) := by
 intro d
 have e : (x ++ y).data.toList = x.data.toList ++ y.data.toList := by simp
 rw [e, runB_app, h d]
 exact h' d
theorem runB_none {l : List UInt8} (h : ∀ c ∈ l, c ≠ 40 ∧ c ≠ 41) : ∀ d, runB d l = some d := by
 induction l with
 | nil => intro d; rfl
 | cons c l ih =>
  intro d
  have hc := h c List.mem_cons_self
  show (if c = 40 then _ else if c = 41 then _ else runB d l) = _
  rw [if_neg hc.1, if_neg hc.2]
  exact ih (fun x hx => h x (List.mem_cons_of_mem _ hx)) d
theorem BalB.of_none {x : ByteArray} (h : ∀ c ∈ x.data.toList, c ≠ 40 ∧ c ≠ 41) : BalB x := runB_none h
theorem name_bal {s : ByteArray} : ∀ f i, nameF s f i = true → s.size < i + f → ∀ j, i ≤ j → j < s.size → bt s j ≠ 41 := by
 intro f
 induction f with
 | zero => intro i _ h j h1 h2; omega
 | succ f ih =>
  intro i h hf j h1 h2
  have hi : i < s.size := by omega
  unfold nameF at h
  rw [if_pos hi] at h
  split at h
  ·exact absurd h (by simp)
  ·rename_i hc
   have hz := stepAt_size hi
   have es : stepAt s i = nextN s i := by unfold stepAt; rw [if_pos hi]
   rw [es] at hz
   have hr : nextR s i ≠ 65533 := by
    intro e
    rw [e, kind_err] at hc
    omega
   rcases Nat.lt_or_ge j (i + nextN s i) with hj | hj
   ·rcases Nat.eq_or_lt_of_le h1 with e | hlt
    ·subst e
     intro e41
     have hb := next_byte (s := s) (i := i) (by omega)
     rw [hb.1, e41] at hc
     exact hc (.inl (by decide))
    ·have := next_inner (s := s) (i := i) (k := j) hlt hj
     omega
   ·exact ih (i + nextN s i) h (by omega) j hj h2
theorem name_balB {x : ByteArray} (h : nameB x = true) : BalB x := by
 unfold nameB at h
 simp only [Bool.and_eq_true] at h
 refine BalB.of_none fun c hc => ?_
 obtain ⟨j, hj, rfl⟩ := List.getElem_of_mem hc
 have hz : j < x.size := by rw [Array.length_toList] at hj; exact hj
 have a := name_bytes _ 0 h.2 (by omega) j (Nat.zero_le _) hz
 have b := name_bal _ 0 h.2 (by omega) j (Nat.zero_le _) hz
 rw [bt_get hz] at a b
 have e : x.data.toList[j] = x[j] := by rw [Array.getElem_toList]; rfl
 rw [e]
 exact ⟨fun q => a (by rw [q]; rfl), fun q => b (by rw [q]; rfl)⟩
theorem digits_bal {l : List UInt8} (h : ∀ c ∈ l, (48 ≤ c.toNat ∧ c.toNat ≤ 57) ∨ c = 124 ∨ c = 45) : BalB ⟨l.toArray⟩ := by
 refine BalB.of_none fun c hc => ?_
 rcases h c (by simpa using hc) with q | rfl | rfl
 ·constructor
  ·rintro rfl; exact absurd q.1 (by decide)
  ·rintro rfl; exact absurd q.1 (by decide)
 ·exact ⟨by decide, by decide⟩
 ·exact ⟨by decide, by decide⟩
theorem pr_bal (t : Bool × Nat × Nat) : BalB (prX t) := by
 unfold prX
 refine digits_bal (fun c hc => ?_)
 have dg : ∀ n : Nat, ∀ c ∈ decOf n, 48 ≤ c.toNat ∧ c.toNat ≤ 57 := fun n => (num_decOf n).2.1
 have di : ∀ z : Int, ∀ c ∈ decI z, (48 ≤ c.toNat ∧ c.toNat ≤ 57) ∨ c = 124 ∨ c = 45 := fun z c hc => by
  unfold decI at hc
  split at hc
  ·rcases List.mem_cons.1 hc with e | hc
   ·exact .inr (.inr e)
   ·exact .inl (dg _ c hc)
  ·exact .inl (dg _ c hc)
 unfold decR at hc
 split at hc
 ·exact di _ c hc
 ·rcases List.mem_append.1 hc with hc | hc
  ·exact di _ c hc
  ·rcases List.mem_cons.1 hc with e | hc
   ·exact .inr (.inl e)
   ·exact .inl (dg _ c hc)
theorem ex_bal (k : Nat) : BalB (exX k) := by
 unfold exX
 exact digits_bal (fun c hc => .inl ((num_decOf k).2.1 c hc))
theorem bal_one {k : Int} {x : ByteArray} (h : BalB x) : BalB (joinP [(k, x)]) := h.app (show BalB ⟨#[]⟩ from fun _ => rfl)
theorem bal_cons {k : Int} {x : ByteArray} {l : List (Int × ByteArray)} (h : BalB x) (h' : BalB (joinP l)) : BalB (joinP ((k, x) :: l)) := h.app h'
theorem bal_joined {l m : List (Int × ByteArray)} (h : BalB (joinP l)) (h' : BalB (joinP m)) : BalB (joinP (l ++ m)) := by rw [joinP_app]; exact h.app h'
theorem bal_wrap (b : Bool) {x : List (Int × ByteArray)} (h : BalB (joinP x)) : BalB (joinP (wrapP b x)) := by
 unfold wrapP
 split
 ·rw [show joinP ((2, ⟨#[40]⟩) :: (x ++ [(2, ⟨#[41]⟩)])) = (⟨#[40]⟩ : ByteArray) ++ joinP (x ++ [(2, ⟨#[41]⟩)]) from rfl, joinP_app]
  intro d
  have e : ((⟨#[40]⟩ : ByteArray) ++ (joinP x ++ joinP [(2, ⟨#[41]⟩)])).data.toList = 40 :: ((joinP x).data.toList ++ (joinP [((2 : Int), (⟨#[41]⟩ : ByteArray))]).data.toList) := by simp
  rw [e]
  show runB (d + 1) _ = _
  rw [runB_app, h (d + 1)]
  rfl
 ·exact h
theorem part_bal {ms : List Nw} (hf : ∀ m ∈ ms, fillR m = true) : ∀ f i least, BalB (joinP (partP prX exX (ms.map Nw.nd) f i least)) := by
 intro f
 induction f with
 | zero => intro i least d; rfl
 | succ f ih =>
  intro i least
  cases hn : (ms.map Nw.nd)[i]? with
  | none =>
   have e : partP prX exX (ms.map Nw.nd) (f + 1) i least = [] := by unfold partP; rw [hn]
   rw [e]; exact fun _ => rfl
  | some n =>
   rw [partP_step hn]
   refine bal_wrap _ ?_
   rw [List.getElem?_map] at hn
   cases hm : ms[i]? with
   | none => rw [hm] at hn; exact absurd hn (by simp)
   | some m =>
    rw [hm] at hn
    obtain rfl : m.nd = n := by simpa using hn
    have hfm := hf m (List.mem_of_getElem? hm)
    have b45 : BalB ⟨#[45]⟩ := fun _ => rfl
    have b94 : BalB ⟨#[94]⟩ := fun _ => rfl
    have b32 : BalB ⟨#[32]⟩ := fun _ => rfl
    have bop : BalB (opB m.nd.kind) := by
     unfold opB
     repeat' split
     all_goals exact fun _ => rfl
    unfold bodyP
    split
    ·rename_i k0
     have q : BalB m.nd.name := name_balB (fill_ref hfm k0)
     exact bal_one q
    ·split
     ·exact bal_one (pr_bal _)
     ·split
      ·exact bal_cons b45 (ih _ _)
      ·split
       ·split
        ·exact bal_joined (ih _ _) (bal_cons b94 (bal_cons b45 (bal_one (ex_bal _))))
        ·exact bal_joined (ih _ _) (bal_cons b94 (bal_one (ex_bal _)))
       ·exact bal_joined (ih _ _) (bal_cons b32 (bal_cons bop (bal_cons b32 (ih _ _))))
theorem node_bal {ms : List Nw} (hf : ∀ m ∈ ms, fillR m = true) (i : Nat) : BalB (nodeX (ms.map Nw.nd) i) := part_bal hf _ i 1
def cnL : List UInt8 → Int
 | [] => 0
 | c :: l => (if c = 40 then 1 else if c = 41 then -1 else 0) + cnL l
theorem run_match (l : List UInt8) : ∀ (c d d' : Nat), runB (d + c + 1) l = some d' → d' ≤ d → ∃ q, q < l.length ∧ l[q]? = some 41 ∧ (c : Int) + 1 + cnL (l.take (q + 1)) = 0 := by
 induction l with
 | nil =>
  intro c d d' h hd
  have : d + c + 1 = d' := by simpa [runB] using h
  omega
 | cons a l ih =>
  intro c d d' h hd
  change (if a = 40 then runB (d + c + 1 + 1) l else if a = 41 then (if d + c + 1 = 0 then none else runB (d + c + 1 - 1) l) else runB (d + c + 1) l) = some d' at h
  by_cases h0 : a = 40
  ·rw [if_pos h0] at h
   obtain ⟨q, q1, q2, q3⟩ := ih (c + 1) d d' (by rw [← h]; rfl) hd
   refine ⟨q + 1, by simpa using q1, by simpa using q2, ?_⟩
   rw [List.take_succ_cons]
   show _ + ((if a = 40 then 1 else if a = 41 then -1 else 0) + cnL (l.take (q + 1))) = _
   rw [if_pos h0]
   omega
  ·rw [if_neg h0] at h
   by_cases h1 : a = 41
   ·rw [if_pos h1, if_neg (by omega)] at h
    rcases Nat.eq_zero_or_pos c with hc | hc
    ·refine ⟨0, by simp, by simp [h1], ?_⟩
     rw [List.take_succ_cons, List.take_zero]
     show _ + ((if a = 40 then 1 else if a = 41 then -1 else 0) + 0) = _
     rw [if_neg h0, if_pos h1]
     omega
    ·obtain ⟨q, q1, q2, q3⟩ := ih (c - 1) d d' (by rw [← h]; congr 1; omega) hd
     refine ⟨q + 1, by simpa using q1, by simpa using q2, ?_⟩
     rw [List.take_succ_cons]
     show _ + ((if a = 40 then 1 else if a = 41 then -1 else 0) + cnL (l.take (q + 1))) = _
     rw [if_neg h0, if_pos h1]
     omega
   ·rw [if_neg h1] at h
    obtain ⟨q, q1, q2, q3⟩ := ih c d d' h hd
    refine ⟨q + 1, by simpa using q1, by simpa using q2, ?_⟩
    rw [List.take_succ_cons]
    show _ + ((if a = 40 then 1 else if a = 41 then -1 else 0) + cnL (l.take (q + 1))) = _
    rw [if_neg h0, if_neg h1]
    omega
theorem run_split {l : List UInt8} {d d' : Nat} (h : runB d l = some d') (p : Nat) : ∃ e, runB d (l.take p) = some e ∧ runB e (l.drop p) = some d' := by
 rw [← List.take_append_drop p l, runB_app] at h
 cases hr : runB d (l.take p) with
 | none => rw [hr] at h; exact absurd h (by simp)
 | some e => rw [hr] at h; exact ⟨e, rfl, h⟩
def cnB (x : ByteArray) (p : Nat) : Nat → Int
 | 0 => 0
 | k + 1 => cnB x p k + (if bt x (p + k) = 40 then 1 else if bt x (p + k) = 41 then -1 else 0)
theorem cnL_app (l m : List UInt8) : cnL (l ++ m) = cnL l + cnL m := by
 induction l with
 | nil => show cnL m = 0 + cnL m; omega
 | cons c l ih => show _ + cnL (l ++ m) = _ + cnL l + cnL m; rw [ih]; omega
theorem cnB_list {x : ByteArray} {p : Nat} : ∀ k, p + k ≤ x.size → cnB x p k = cnL ((x.data.toList.drop p).take k) := by
 intro k
 induction k with
 | zero => intro _; rfl
 | succ k ih =>
  intro hk
  have hlt : p + k < x.data.toList.length := by rw [Array.length_toList]; exact hk
  have e : (x.data.toList.drop p)[k]? = some x[p + k] := by
   rw [List.getElem?_drop, List.getElem?_eq_getElem hlt, Array.getElem_toList]
   rfl
  rw [List.take_add_one, e, cnL_app, ← ih (by omega)]
  show _ + _ = _ + ((if x[p + k] = 40 then 1 else if x[p + k] = 41 then -1 else 0) + 0)
  rw [bt_get (by exact hk)]
  have i1 : (x[p + k].toNat = 40) = (x[p + k] = 40) := propext ⟨fun q => UInt8.toNat_inj.1 q, fun q => by rw [q]; rfl⟩
  have i2 : (x[p + k].toNat = 41) = (x[p + k] = 41) := propext ⟨fun q => UInt8.toNat_inj.1 q, fun q => by rw [q]; rfl⟩
  rw [Int.add_zero]
  simp only [i1, i2]
theorem bal_match {x : ByteArray} (h : BalB x) {p : Nat} (hp : p < x.size) (h40 : bt x p = 40) : ∃ k, 0 < k ∧ p + k < x.size ∧ bt x (p + k) = 41 ∧ cnB x p (k + 1) = 0 ∧ ∀ j, j < k → ¬ (bt x (p + j) = 41 ∧ cnB x p (j + 1) = 0) := by
 have hex : ∃ k, p + k < x.size ∧ bt x (p + k) = 41 ∧ cnB x p (k + 1) = 0 := by
  obtain ⟨e, -, h2⟩ := run_split (h 0) p
  have hlt : p < x.data.toList.length := by rw [Array.length_toList]; exact hp
  have hd : x.data.toList.drop p = 40 :: x.data.toList.drop (p + 1) := by
   rw [List.drop_eq_getElem_cons hlt]
   congr 1
   rw [Array.getElem_toList]
   rw [bt_get hp] at h40
   exact UInt8.toNat_inj.1 h40
  rw [hd] at h2
  change runB (e + 1) _ = some 0 at h2
  obtain ⟨q, q1, q2, q3⟩ := run_match _ 0 e 0 h2 (Nat.zero_le _)
  rw [List.length_drop, Array.length_toList] at q1
  have q1 : p + (q + 1) < x.size := by
   have : x.data.size = x.size := rfl
   omega
  refine ⟨q + 1, q1, ?_, ?_⟩
  ·rw [List.getElem?_drop] at q2
   obtain ⟨hl, he⟩ := List.getElem?_eq_some_iff.1 q2
   rw [Array.getElem_toList] at he
   rw [bt_get q1]
   have : x[p + (q + 1)] = 41 := by rw [← he]; congr 1; omega
   rw [this]; rfl
  ·rw [cnB_list (q + 1 + 1) (by omega), hd, List.take_succ_cons]
   show (if (40 : UInt8) = 40 then (1 : Int) else _) + cnL _ = 0
   rw [if_pos rfl]
   omega
 obtain ⟨k, hk, hmin⟩ : ∃ k, (p + k < x.size ∧ bt x (p + k) = 41 ∧ cnB x p (k + 1) = 0) ∧ ∀ j, j < k → ¬ (p + j < x.size ∧ bt x (p + j) = 41 ∧ cnB x p (j + 1) = 0) := by
  obtain ⟨k0, hk0⟩ := hex
  induction k0 using Nat.strongRecOn with
  | _ k0 ih =>
   by_cases hx : ∃ j, j < k0 ∧ (p + j < x.size ∧ bt x (p + j) = 41 ∧ cnB x p (j + 1) = 0)
   ·obtain ⟨j, hj, hj2⟩ := hx
    exact ih j hj hj2
   ·exact ⟨k0, hk0, fun j hj q => hx ⟨j, hj, q⟩⟩
 refine ⟨k, ?_, hk.1, hk.2.1, hk.2.2, fun j hj q => hmin j hj ⟨by omega, q⟩⟩
 rcases Nat.eq_zero_or_pos k with e | e
 ·rw [e, Nat.add_zero, h40] at hk
  exact absurd hk.2.1 (by decide)
 ·exact e
theorem ext_one {x : ByteArray} {p : Nat} {c : UInt8} (hp : p < x.size) (h : bt x p = c.toNat) : x.extract p (p + 1) = ⟨#[c]⟩ := by
 have hz : x.data.size = x.size := rfl
 apply ByteArray.ext
 rw [ByteArray.data_extract]
 apply Array.ext
 ·rw [Array.size_extract]; simp; omega
 ·intro i h1 h2
  have : i = 0 := by simp at h2; exact h2
  subst this
  rw [Array.getElem_extract]
  rw [bt_get hp] at h
  have : x[p] = c := UInt8.toNat_inj.1 h
  simp only [Nat.add_zero]
  exact this
theorem b40_pair {x : ByteArray} {p k : Nat} (hk : 0 < k) (hz : p + k < x.size) (h40 : bt x p = 40) (h41 : bt x (p + k) = 41) : b40 (x.extract 0 p ++ (x.extract (p + 1) (p + k) ++ x.extract (p + k + 1) x.size)) 0 + 1 = b40 x 0 := by
 have e : x = x.extract 0 p ++ (x.extract p (p + 1) ++ (x.extract (p + 1) (p + k) ++ (x.extract (p + k) (p + k + 1) ++ x.extract (p + k + 1) x.size))) := by
  have J : ∀ a b c : Nat, a ≤ b → b ≤ c → x.extract a b ++ x.extract b c = x.extract a c := fun a b c h1 h2 => by
   rw [ByteArray.extract_append_extract, Nat.min_eq_left h1, Nat.max_eq_right h2]
  rw [J (p + k) _ _ (by omega) (by omega), J (p + 1) _ _ (by omega) (by omega), J p _ _ (by omega) (by omega), J 0 _ _ (by omega) (by omega), ByteArray.extract_zero_size]
 have o1 : x.extract p (p + 1) = ⟨#[40]⟩ := ext_one (by omega) h40
 have o2 : x.extract (p + k) (p + k + 1) = ⟨#[41]⟩ := ext_one hz h41
 conv => rhs; rw [e, o1, o2]
 simp only [b40_app]
 have z1 : b40 ⟨#[40]⟩ 0 = 1 := rfl
 have z2 : b40 ⟨#[41]⟩ 0 = 0 := rfl
 omega
end
section
open Go.Lib
def cutX (s : ByteArray) (p k : Nat) : ByteArray := s.extract 0 p ++ s.extract (p + 1) (p + k) ++ s.extract (p + k + 1) s.size
theorem need_size (s : ByteArray) : (needX s).size = 14 + s.size + 8 := by
 unfold needX
 rw [ByteArray.size_append, ByteArray.size_append]
 rfl
theorem cut_size {s : ByteArray} {p k : Nat} (h : p + k < s.size) : (cutX s p k).size ≤ s.size := by
 unfold cutX
 rw [ByteArray.size_append, ByteArray.size_append, ByteArray.size_extract, ByteArray.size_extract, ByteArray.size_extract]
 omega
theorem need_facts {ins outs : List ByteArray} {lets : List (ByteArray × Int)} {ms : List Nw} (h : rgtB ins outs lets ms = true) (hn : ms.length ≤ 40) {i : Nat} (hi : i < ms.length) :
  BalB (nodeX (ms.map Nw.nd) i) ∧ (nodeX (ms.map Nw.nd) i).size ≤ 4000 ∧ ∃ p1 : Pg, parseI (needX (nodeX (ms.map Nw.nd) i)) = (p1, (0, 0), 0) ∧ (p1.ins.length ≤ 100000 ∧ p1.lets.length ≤ 100000 ∧ p1.outs.length ≤ 100000 ∧ p1.all.length ≤ 100000) ∧
   ∀ p k, 0 < k → p + k < (nodeX (ms.map Nw.nd) i).size → bt (nodeX (ms.map Nw.nd) i) p = 40 → bt (nodeX (ms.map Nw.nd) i) (p + k) = 41 → ∃ (p2 : Pg) (L C E : Int), parseI (needX (cutX (nodeX (ms.map Nw.nd) i) p k)) = (p2, (L, C), E) ∧ (E = 0 → ¬ SameP p1.ins p2.ins p1.outs p2.outs p1.lets p2.lets (p1.all.map rawOf) (p2.all.map rawOf)) := by
 obtain ⟨hf, -, -, hl, -, -, -, -, -, -, hlow⟩ := rgt_parts h
 obtain ⟨b, s⟩ := hl.seg i (Nat.zero_le _) (by rw [List.length_map]; exact hi)
 have hz := nodeX_size hf s
 have hle := s.le
 refine ⟨node_bal hf i, by omega, _, (need_parse hf (by omega) hlow s).1, ⟨by simp, by simp, by simp, ?_⟩, fun p k hk hpk h40 h41 => ?_⟩
 ·show (own1 _ _ _).length ≤ _
  rw [own1_length (b := b) hle.2]
  rw [List.length_map] at hle
  omega
 ·obtain ⟨p2, ⟨L, C⟩, E, hP⟩ : ∃ p2 LC E, parseI (needX (cutX (nodeX (ms.map Nw.nd) i) p k)) = (p2, LC, E) := ⟨_, _, _, rfl⟩
  refine ⟨p2, L, C, E, hP, fun hE q => ?_⟩
  subst hE
  have hb : b40 (cutX (nodeX (ms.map Nw.nd) i) p k) 0 < b40 (nodeX (ms.map Nw.nd) i) 0 := by
   have := b40_pair hk hpk h40 h41
   unfold cutX
   rw [ByteArray.append_assoc]
   omega
  obtain ⟨-, -, q3, q4⟩ := q
  have q5 := congrArg (List.map Nw.nd) q4
  rw [raw_nd, raw_nd] at q5
  rcases need_other hf s hb hP with e | e
  ·exact e q3.symm
  ·exact e q5.symm
def posL (s : ByteArray) (j : Nat) : List Int := ((List.range j).filter (fun i => decide (bt s i = 40))).map (fun i : Nat => (i : Int))
theorem posL_open {s : ByteArray} {j : Nat} (h : bt s j = 40) : posL s (j + 1) = posL s j ++ [(j : Int)] := by
 unfold posL
 rw [List.range_succ, List.filter_append, List.filter_cons_of_pos (by simp [h]), List.filter_nil, List.map_append]
 rfl
theorem posL_not {s : ByteArray} {j : Nat} (h : ¬ bt s j = 40) : posL s (j + 1) = posL s j := by
 unfold posL
 rw [List.range_succ, List.filter_append, List.filter_cons_of_neg (by simp [h]), List.filter_nil, List.append_nil]
theorem posL_get {s : ByteArray} {j n : Nat} (h : n < (posL s j).length) : ∃ p : Nat, (posL s j)[n]? = some (p : Int) ∧ p < j ∧ bt s p = 40 := by
 have e := List.getElem?_eq_getElem h
 have hm := List.getElem_mem h
 unfold posL at hm
 obtain ⟨p, hp, hq⟩ := List.mem_map.1 hm
 obtain ⟨hp1, hp2⟩ := List.mem_filter.1 hp
 refine ⟨p, ?_, List.mem_range.1 hp1, of_decide_eq_true hp2⟩
 rw [e]
 exact congrArg some hq.symm
theorem posL_length (s : ByteArray) (j : Nat) : (posL s j).length ≤ j := by
 unfold posL
 rw [List.length_map]
 have := List.length_filter_le (fun i => decide (bt s i = 40)) (List.range j)
 rw [List.length_range] at this
 exact this
theorem cnB_le (x : ByteArray) (p k : Nat) : -(k : Int) ≤ cnB x p k ∧ cnB x p k ≤ k := by
 induction k with
 | zero => exact ⟨by show -(0 : Int) ≤ 0; decide, by show (0 : Int) ≤ 0; decide⟩
 | succ k ih =>
  have e : cnB x p (k + 1) = cnB x p k + (if bt x (p + k) = 40 then 1 else if bt x (p + k) = 41 then -1 else 0) := rfl
  rw [e]
  split
  ·omega
  ·split <;> omega
end
end Go.Proofs.YtaeladkcmpdkhaaGreatDoor
