/-
  Laws of no function: ranging over a text while the call makes memory: what the call owns stays while the range goes on; what a sign at a byte is. No conditions of the program.
-/
import Derived.Test.YtnmohojmoienbaaWords2
import Derived.Lib.OthersKept
namespace Go.Proofs.Ytnmohojmoienbaa
open Go.RowKit Go.Lib

theorem Own.iterAt {W w : World} {v : Value} {n : Nat} {xs : List Int} (h : Own W w v n xs) {k : Nat} {s : ByteArray} {pos : Nat} (hk : w.heap[k]? = some (.stringIter s pos)) (hW : W.heap.size ≤ k) (pos' : Nat) :
    Own W (w.iterAt k s pos') v n xs := by
  refine ⟨⟨h.1.1, ?_⟩, below_iterAt h.2 hW s pos'⟩
  rcases h.1.2 with h0 | ⟨g, cap, cur, e, h1, hg, h2⟩
  · exact .inl h0
  · have hkg : g ≠ k := by
      intro e1
      rw [e1, hk] at hg
      cases hg
    exact .inr ⟨g, cap, cur, e, h1, (iterAt_other w k g s pos' hkg).trans hg, h2⟩

/-- A range's place stays while a callee makes memory. -/
theorem iter_more {w w' : World} {k : Nat} {s : ByteArray} {pos : Nat} (hk : w.heap[k]? = some (.stringIter s pos)) (hb : Below w.heap.size w w') : w'.heap[k]? = some (.stringIter s pos) :=
  (hb.block k (Array.getElem?_eq_some_iff.1 hk).1).trans hk

theorem iter_new (w : World) (s : ByteArray) : (w.iter s 0).heap[w.heap.size]? = some (.stringIter s 0) := World.iter_heap w s 0
theorem below_iter (w : World) (s : ByteArray) (pos : Nat) : Below w.heap.size w (w.iter s pos) := (Below.refl _ w).alloc (Nat.le_refl _) _

/-- A sign above the plain ones at a byte that is not plain. -/
theorem decode_not {s : ByteArray} {pos : Nat} (h : pos < s.size) {a b : Nat} (hb : b < 128) (hc : ¬ (a ≤ (s[pos]'h).toNat ∧ (s[pos]'h).toNat ≤ b)) : (Utf8.decode s pos).1 < a ∨ b < (Utf8.decode s pos).1 := by
  by_cases ha : (s[pos]'h).toNat < 128
  · rw [decode_ascii s pos h ha]; dsimp only; omega
  · have := (decode_high s pos h (by omega)).1; omega
end Go.Proofs.Ytnmohojmoienbaa
