/-
  A law of no function: what is left of a slice of words behind some of them.
-/
import Derived.Test.YtapfoefeplmgnaaWords2
namespace Go.Proofs.Ytapfoefeplmgnaa
open Go.RowKit

theorem IsWords.drop {w : World} {x : Addr} {n c : Nat} {zs : List Int} (h : IsWords w (.slice (some x) n c) zs) (k : Nat) (hk : k ≤ n) (hs : x.spot = none) : IsWords w (.slice (some ⟨x.block, x.off + k, none⟩) (n - k) (c - k)) (zs.drop k) := by
  have hl := h.len
  rcases h with ⟨e, rfl⟩ | ⟨y, cap, e, h1, h2, hc⟩
  · simp at e
  · simp only [Value.slice.injEq, Option.some.injEq] at e
    obtain ⟨rfl, rfl, rfl⟩ := e
    have e2 : (zs.drop k).length = zs.length - k := by rw [List.length_drop]
    refine .inr ⟨_, c - k, by rw [e2], by omega, by omega, fun i hi => ?_⟩
    rw [e2] at hi
    have hci := hc (k + i) (by omega)
    rw [show zs.getD (k + i) 0 = (zs.drop k).getD i 0 by simp [List.getD_eq_getElem?_getD]] at hci
    rw [← hci]
    rw [Go.WideShapes.add_plain]
    have : x = ⟨x.block, x.off, none⟩ := by cases x; simp at hs; simp [hs]
    rw [this, Go.WideShapes.add_plain, Nat.add_assoc]
end Go.Proofs.Ytapfoefeplmgnaa
