/-
  Laws of no function: a slice of words that begins a block from some number on. No conditions of the program.
-/
import Derived.Test.YtlokidddbkdclaaDoorNatB
namespace Go.Proofs.YtlokidddbkdclaaDoor
open Go.RowKit

/-- A slice of words that begins a block from n₀ on. -/
def Row (n₀ : Nat) (w : World) (v : Value) (n : Nat) (xs : List Int) : Prop := w.ownsRow n₀ 36 1 v n (xs.map (Value.int .u32))

theorem Own.row {W w : World} {v : Value} {n : Nat} {xs : List Int} (h : Own W w v n xs) {n₀ : Nat} (hn : n₀ ≤ W.heap.size) : Row n₀ w v n xs := by
  refine ⟨h.1.1, ?_⟩
  rcases h.1.2 with h0 | ⟨g, cap, cur, e, h1, h2⟩
  · exact .inl h0
  · exact .inr ⟨g, cap, cur, e, Nat.le_trans hn h1, h2⟩
theorem Row.own {W w : World} {v : Value} {n : Nat} {xs : List Int} {n₀ : Nat} (h : Row n₀ w v n xs) (hn : W.heap.size ≤ n₀) (hb : Below W.heap.size W w) : Own W w v n xs := by
  refine ⟨⟨h.1, ?_⟩, hb⟩
  rcases h.2 with h0 | ⟨g, cap, cur, e, h1, h2⟩
  · exact .inl h0
  · exact .inr ⟨g, cap, cur, e, Nat.le_trans hn h1, h2⟩
theorem Row.words {w : World} {v : Value} {n : Nat} {xs : List Int} {n₀ : Nat} (h : Row n₀ w v n xs) : IsWords w v xs := by
  have hl : xs.length = n := by have := h.1; simpa using this
  rcases h.2 with ⟨rfl, rfl⟩ | ⟨g, cap, cur, rfl, -, hg, hnc, hcm, -, -⟩
  · exact .inl ⟨rfl, List.eq_nil_of_length_eq_zero hl⟩
  · refine .inr ⟨⟨g, 0, none⟩, cap, by rw [hl], by omega, hcm, fun i hi => ?_⟩
    refine World.ownsRow.cells h (g := g) rfl i _ ?_
    simp [hi]
theorem Row.addr {w : World} {a : Option Addr} {n c m : Nat} {xs : List Int} {n₀ : Nat} (h : Row n₀ w (.slice a n c) m xs) : a = none ∨ ∃ g, a = some ⟨g, 0, none⟩ := by
  rcases h.2 with ⟨e, -⟩ | ⟨g, cap, cur, e, -⟩
  · simp only [Value.slice.injEq] at e; exact .inl e.1
  · simp only [Value.slice.injEq] at e; exact .inr ⟨g, e.1⟩
theorem Row.more {w w' : World} {v : Value} {n : Nat} {xs : List Int} {n₀ : Nat} (h : Row n₀ w v n xs) (hb : Below w.heap.size w w') : Row n₀ w' v n xs := by
  refine ⟨h.1, ?_⟩
  rcases h.2 with h0 | ⟨g, cap, cur, e, h1, hg, h2⟩
  · exact .inl h0
  · refine .inr ⟨g, cap, cur, e, h1, ?_, h2⟩
    rw [hb.block g (Array.getElem?_eq_some_iff.1 hg).1]; exact hg
theorem Row.keep {w w' : World} {v : Value} {n : Nat} {xs : List Int} {n₀ : Nat} (h : Row n₀ w v n xs) (hb : ∀ k, n₀ ≤ k → w'.heap[k]? = w.heap[k]?) : Row n₀ w' v n xs := by
  refine ⟨h.1, ?_⟩
  rcases h.2 with h0 | ⟨g, cap, cur, e, h1, hg, h2⟩
  · exact .inl h0
  · exact .inr ⟨g, cap, cur, e, h1, (hb g h1).trans hg, h2⟩
theorem Row.nil (n₀ : Nat) (w : World) : Row n₀ w (.slice none (nl 0) 0) (nl 0) (natOf 0) := by
  rw [nl_zero, natOf_zero]; exact World.ownsRow_nil _ _ _ _
/-- What lies in a block of its own stays while another row grows. -/
theorem Row.grown {w w' : World} {v : Value} {n : Nat} {xs : List Int} {n₀ : Nat} (h : Row n₀ w v n xs) {row : Option Nat} (hg : w.grownBy w' row) (hr : ∀ k, row = some k → k < n₀) : Row n₀ w' v n xs := by
  refine ⟨h.1, ?_⟩
  rcases h.2 with h0 | ⟨g, cap, cur, e, h1, hb, h2⟩
  · exact .inl h0
  · refine .inr ⟨g, cap, cur, e, h1, ?_, h2⟩
    rw [hg.block g (Array.getElem?_eq_some_iff.1 hb).1 (fun e1 => by have := hr g e1.symm; omega)]; exact hb
theorem Own.row_lt {W w : World} {v : Value} {n : Nat} {xs : List Int} (h : Own W w v n xs) (k : Nat) (hk : v.ownBlock = some k) : k < w.heap.size := (h.1.lt k hk).2
end Go.Proofs.YtlokidddbkdclaaDoor
