/-
  Texts of mine in build order. No conditions of their own.
-/
import Derived.Test.YtaeladkcmpdkhaaGreatDoorPack31
import Derived.Test.YtaeladkcmpdkhaaGreatDoorPack36
namespace Go.Proofs.YtaeladkcmpdkhaaGreatDoor
section
open Go.RowKit Go.Lib
theorem raw_fill {m : Nw} (h : fillR m = true) : rawOf m.nd = m := by
 have key : natOf (val m.xs) = m.xs ∧ natOf (val m.ys) = m.ys := by
  have none0 : noneB m = true → natOf (val m.xs) = m.xs ∧ natOf (val m.ys) = m.ys := fun hn => by
   unfold noneB at hn
   simp only [Bool.and_eq_true, decide_eq_true_eq] at hn
   rw [List.eq_nil_of_length_eq_zero hn.1.2, List.eq_nil_of_length_eq_zero hn.2]
   exact ⟨natOf_zero, natOf_zero⟩
  unfold fillR at h
  by_cases k0 : m.kind = 0
  ·rw [if_pos k0] at h
   simp only [Bool.and_eq_true] at h
   exact none0 h.2
  rw [if_neg k0] at h
  by_cases k1 : m.kind = 1
  ·rw [if_pos k1] at h
   simp only [Bool.and_eq_true] at h
   have h1 := h.1.1.1.1
   unfold numR rghB at h1
   simp only [Bool.and_eq_true] at h1
   have h2 := decide_eq_true_iff.1 h1.2
   have e1 : (rv m.neg (val m.xs) (val m.ys)).num.natAbs = val m.xs := by rw [← val_natOf (rv m.neg (val m.xs) (val m.ys)).num.natAbs, h2.2.1]
   have e2 : (rv m.neg (val m.xs) (val m.ys)).den = val m.ys := by rw [← val_natOf (rv m.neg (val m.xs) (val m.ys)).den, h2.2.2]
   exact ⟨by rw [← e1]; exact h2.2.1, by rw [← e2]; exact h2.2.2⟩
  rw [if_neg k1] at h
  by_cases k2 : m.kind = 2 ∨ m.kind = 3 ∨ m.kind = 4 ∨ m.kind = 5
  ·rw [if_pos k2] at h
   simp only [Bool.and_eq_true] at h
   exact none0 h.2
  rw [if_neg k2] at h
  by_cases k6 : m.kind = 6
  ·rw [if_pos k6] at h
   simp only [Bool.and_eq_true] at h
   exact none0 h.2
  rw [if_neg k6] at h
  by_cases k7 : m.kind = 7
  ·rw [if_pos k7] at h
   simp only [Bool.and_eq_true] at h
   exact none0 h.2
  rw [if_neg k7] at h
  exact absurd h (by simp)
 unfold rawOf Nw.nd
 dsimp only
 rw [key.1, key.2]
theorem raw_fills {l : List Nw} (h : ∀ m ∈ l, fillR m = true) : (l.map Nw.nd).map rawOf = l := by
 rw [List.map_map]
 conv => rhs; rw [← List.map_id l]
 exact List.map_congr_left fun m hm => raw_fill (h m hm)
end
end Go.Proofs.YtaeladkcmpdkhaaGreatDoor
