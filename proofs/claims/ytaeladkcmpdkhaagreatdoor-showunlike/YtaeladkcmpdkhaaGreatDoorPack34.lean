/-
  Texts of mine in build order. No conditions of their own.
-/
import Derived.Test.YtaeladkcmpdkhaaGreatDoorPack26
import Derived.Test.YtaeladkcmpdkhaaGreatDoorPack33
namespace Go.Proofs.YtaeladkcmpdkhaaGreatDoor
section
open Go.Lib
theorem fill_fields {m : Nw} (h : fillR m = true) : FieldsP numT prX exX m.nd := by
 have none0 : noneB m = true → (m.neg, val m.xs, val m.ys) = (false, 0, 0) := fun hn => by
  unfold noneB at hn
  simp only [Bool.and_eq_true, Bool.not_eq_true', decide_eq_true_eq] at hn
  rw [hn.1.1, List.eq_nil_of_length_eq_zero hn.1.2, List.eq_nil_of_length_eq_zero hn.2]; rfl
 have emp : emptyB m.name = true → m.name = noText := fun he => by
  unfold emptyB at he
  rw [ByteArray.toList_eq, beq_iff_eq] at he
  apply ByteArray.ext
  apply Array.toList_inj.1
  exact he
 unfold fillR at h
 by_cases k0 : m.kind = 0
 ·rw [if_pos k0] at h
  simp only [Bool.and_eq_true, beq_iff_eq] at h
  obtain ⟨⟨⟨⟨h1, h2⟩, h3⟩, h4⟩, h5⟩ := h
  refine .inl ⟨k0, h1, ?_⟩
  unfold Nw.nd
  rw [k0, h2, h3, h4, none0 h5]
 rw [if_neg k0] at h
 by_cases k1 : m.kind = 1
 ·rw [if_pos k1] at h
  simp only [Bool.and_eq_true, beq_iff_eq] at h
  obtain ⟨⟨⟨⟨h1, h2⟩, h3⟩, h4⟩, h5⟩ := h
  refine .inr (.inl ⟨k1, (print_num h1).2, ?_⟩)
  unfold Nw.nd
  rw [k1, h2, h3, h4, emp h5]
 rw [if_neg k1] at h
 by_cases k2 : m.kind = 2 ∨ m.kind = 3 ∨ m.kind = 4 ∨ m.kind = 5
 ·rw [if_pos k2] at h
  simp only [Bool.and_eq_true, beq_iff_eq] at h
  obtain ⟨⟨h1, h2⟩, h3⟩ := h
  refine .inr (.inr (.inl ⟨by show 2 ≤ m.kind; omega, by show m.kind ≤ 5; omega, ?_⟩))
  unfold Nw.nd
  rw [h1, emp h2, none0 h3]
 rw [if_neg k2] at h
 by_cases k6 : m.kind = 6
 ·rw [if_pos k6] at h
  simp only [Bool.and_eq_true, beq_iff_eq] at h
  obtain ⟨⟨⟨h1, h2⟩, h3⟩, h4⟩ := h
  refine .inr (.inr (.inr (.inl ⟨k6, ?_⟩)))
  unfold Nw.nd
  rw [k6, h1, h2, emp h3, none0 h4]
 rw [if_neg k6] at h
 by_cases k7 : m.kind = 7
 ·rw [if_pos k7] at h
  simp only [Bool.and_eq_true, beq_iff_eq, decide_eq_true_eq] at h
  obtain ⟨⟨⟨h1, h2⟩, h3⟩, h4⟩ := h
  refine .inr (.inr (.inr (.inr ⟨k7, (exp_text _ (by show m.exp.natAbs ≤ 20; omega)).1, ?_⟩)))
  unfold Nw.nd
  rw [k7, h2, emp h3, none0 h4]
 rw [if_neg k7] at h
 exact absurd h (by simp)
theorem keys_right : TokR (0, inB) ∧ TokR (0, outB) ∧ TokR (0, ⟨#[108, 101, 116]⟩) := by
 refine ⟨⟨⟨by decide, by kernel_rfl⟩, by decide⟩, ⟨⟨by decide, by kernel_rfl⟩, by decide⟩, ⟨⟨by decide, by kernel_rfl⟩, by decide⟩⟩
end
section
open Go.Lib
theorem ok_mark {c : UInt8} (h : markB c) : okP (2, ⟨#[c]⟩) := .inr (.inl ⟨rfl, c, h, rfl⟩)
theorem ok_sp : okP spP := .inl ⟨rfl, .inl rfl⟩
theorem adj_mark {c : UInt8} (h : markB c) {l : List (Int × ByteArray)} (k : AdjP l) : AdjP ((2, ⟨#[c]⟩) :: l) := ⟨ok_mark h, fun e => by rcases e with e | e <;> exact absurd (show (2 : Int) = _ from e) (by decide), k⟩
theorem adj_sp {l : List (Int × ByteArray)} (k : AdjP l) : AdjP (spP :: l) := ⟨ok_sp, fun e => by rcases e with e | e <;> exact absurd (show (3 : Int) = _ from e) (by decide), k⟩
theorem adj_word {k : Int} {x : ByteArray} (hk : k = 0 ∨ k = 1) (h : RightT k x) {l : List (Int × ByteArray)} (hs : stops l) (ha : AdjP l) : AdjP ((k, x) :: l) := ⟨.inr (.inr ⟨hk, h⟩), fun _ => hs, ha⟩
theorem stops_mark {c : UInt8} (h : markB c) (l : List (Int × ByteArray)) : stops ((2, ⟨#[c]⟩) :: l) := .inr ⟨rfl, c, h, rfl⟩
theorem stops_sp (l : List (Int × ByteArray)) : stops (spP :: l) := .inl ⟨rfl, .inl rfl⟩
theorem op_mark (k : Int) : ∃ c, markB c ∧ opB k = ⟨#[c]⟩ := by
 unfold opB
 repeat' split
 ·exact ⟨43, .inr (.inr (.inl rfl)), rfl⟩
 ·exact ⟨45, .inr (.inr (.inr (.inl rfl))), rfl⟩
 ·exact ⟨42, .inr (.inr (.inr (.inr (.inl rfl)))), rfl⟩
 ·exact ⟨47, .inr (.inr (.inr (.inr (.inr (.inl rfl))))), rfl⟩
theorem part_adj {ms : List Nw} (hf : ∀ m ∈ ms, fillR m = true) : ∀ f i least (z : List (Int × ByteArray)), AdjP z → stops z → AdjP (partP prX exX (ms.map Nw.nd) f i least ++ z) := by
 intro f
 induction f with
 | zero => intro i least z h _; exact h
 | succ f ih =>
  intro i least z hz hs
  cases hn : (ms.map Nw.nd)[i]? with
  | none =>
   have e : partP prX exX (ms.map Nw.nd) (f + 1) i least = [] := by unfold partP; rw [hn]
   rw [e]; exact hz
  | some n =>
   rw [partP_step hn]
   rw [List.getElem?_map] at hn
   cases hm : ms[i]? with
   | none => rw [hm] at hn; exact absurd hn (by simp)
   | some m =>
    rw [hm] at hn
    obtain rfl : m.nd = n := by simpa using hn
    have hfm := hf m (List.mem_of_getElem? hm)
    have body : ∀ z, AdjP z → stops z → AdjP (bodyP prX exX (ms.map Nw.nd) f m.nd ++ z) := by
     intro z hz hs
     unfold bodyP
     split
     ·rename_i k0
      exact adj_word (.inl rfl) (name_right (fill_ref hfm k0)) hs hz
     ·split
      ·rename_i k0 k1
       exact adj_word (.inr rfl) (number_right (fill_const hfm k1)) hs hz
      ·split
       ·exact adj_mark (.inr (.inr (.inr (.inl rfl)))) (ih _ 3 z hz hs)
       ·split
        ·rename_i k7
         rw [List.append_assoc]
         have hx := number_right (exp_text _ (fill_pow hfm k7)).2
         refine ih _ 5 _ ?_ (stops_mark (.inr (.inr (.inr (.inr (.inr (.inr (.inl rfl))))))) _)
         refine adj_mark (c := 94) (.inr (.inr (.inr (.inr (.inr (.inr (.inl rfl))))))) ?_
         show AdjP ((_ ++ _) ++ z)
         rw [List.append_assoc]
         split
         ·exact adj_mark (c := 45) (.inr (.inr (.inr (.inl rfl)))) (adj_word (.inr rfl) hx hs hz)
         ·exact adj_word (.inr rfl) hx hs hz
        ·rw [List.append_assoc]
         obtain ⟨c, hc, ec⟩ := op_mark m.nd.kind
         rw [ec]
         exact ih _ _ _ (adj_sp (adj_mark hc (adj_sp (ih _ _ z hz hs)))) (stops_sp _)
    unfold wrapP
    split
    ·rw [List.cons_append, List.append_assoc]
     exact adj_mark (.inl rfl) (body _ (adj_mark (.inr (.inl rfl)) hz) (stops_mark (.inr (.inl rfl)) z))
    ·exact body z hz hs
end
end Go.Proofs.YtaeladkcmpdkhaaGreatDoor
