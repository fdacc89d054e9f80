/-
  Laws of no function: lists of words that a call made, in blocks above its variables'. No conditions of the program.
-/
import Derived.Test.YtnmohojmoienbaaWords2
import Derived.Test.YtnmohojmoienbaaBox
namespace Go.Proofs.Ytnmohojmoienbaa
open Go.RowKit

/-- As Own, in blocks from B on alone. -/
def OwnA (W : World) (B : Nat) (w : World) (v : Value) (n : Nat) (xs : List Int) : Prop := w.ownsRow B 49 1 v n (xs.map (Value.int .u32)) ∧ Below W.heap.size W w
theorem Own.above {W V w : World} {v : Value} {n : Nat} {xs : List Int} (h : Own V w v n xs) (hb : Below W.heap.size W V) : OwnA W V.heap.size w v n xs := ⟨h.1, below_more hb h.2⟩
/-- A store into a block below those. -/
theorem OwnA.set {W w : World} {B : Nat} {v : Value} {n : Nat} {xs : List Int} (h : OwnA W B w v n xs) {k : Nat} (h1 : W.heap.size ≤ k) (h2 : k < B) (i : Nat) (x : Value) : OwnA W B (w.setCell ⟨k, i, none⟩ x) v n xs := by
  refine ⟨⟨h.1.1, ?_⟩, h.2.setCell h1 _⟩
  rcases h.1.2 with h0 | ⟨g, cap, cur, e, h3, hg, h4⟩
  · exact .inl h0
  · refine .inr ⟨g, cap, cur, e, h3, ?_, h4⟩
    rw [Below.heap_setCell w ⟨k, i, none⟩ x g (by simp; omega)]; exact hg
theorem OwnA.drew {W w : World} {B : Nat} {v : Value} {n : Nat} {xs : List Int} (h : OwnA W B w v n xs) : OwnA W B w.drew v n xs := ⟨h.1, h.2.drew⟩
theorem OwnA.own {W w : World} {B : Nat} {v : Value} {n : Nat} {xs : List Int} (h : OwnA W B w v n xs) (hB : W.heap.size ≤ B) : Own W w v n xs := by
  refine ⟨⟨h.1.1, ?_⟩, h.2⟩
  rcases h.1.2 with h0 | ⟨g, cap, cur, e, h1, h2⟩
  · exact .inl h0
  · exact .inr ⟨g, cap, cur, e, Nat.le_trans hB h1, h2⟩
end Go.Proofs.Ytnmohojmoienbaa
