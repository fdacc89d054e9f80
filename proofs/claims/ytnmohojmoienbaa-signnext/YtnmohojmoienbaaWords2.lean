/-
  Laws of no function, over slices of 32-bit words that a call owns: make, copy, a store into one word; what a callee's growth leaves. Conditions: Go's own limits on sizes.
-/
import Derived.Test.YtnmohojmoienbaaNatA
import Derived.Laws.CopyOwn
namespace Go.Proofs.Ytnmohojmoienbaa
open Go.RowKit

/-- What a call owns stays while a callee makes memory. -/
theorem Own.more {W w w' : World} {v : Value} {n : Nat} {xs : List Int} (h : Own W w v n xs) (hb : Below w.heap.size w w') : Own W w' v n xs := by
  refine ⟨⟨h.1.1, ?_⟩, h.2.trans (hb.mono h.2.size)⟩
  rcases h.1.2 with h0 | ⟨g, cap, cur, e, h1, hg, h2⟩
  · exact .inl h0
  · refine .inr ⟨g, cap, cur, e, h1, ?_, h2⟩
    rw [hb.block g (Array.getElem?_eq_some_iff.1 hg).1]; exact hg

/-- What a callee made, its caller owns. -/
theorem Own.outer {V W w : World} {v : Value} {n : Nat} {xs : List Int} (h : Own W w v n xs) (hb : Below V.heap.size V W) : Own V w v n xs := by
  refine ⟨⟨h.1.1, ?_⟩, below_more hb h.2⟩
  rcases h.1.2 with h0 | ⟨g, cap, cur, e, h1, h2⟩
  · exact .inl h0
  · exact .inr ⟨g, cap, cur, e, Nat.le_trans hb.size h1, h2⟩

theorem Own.nil {W w : World} (h : Below W.heap.size W w) : Own W w (.slice none 0 0) 0 [] := ⟨World.ownsRow_nil _ _ _ _, h⟩

/-- A word of what the call owns: it reads so, and may be written. -/
theorem Own.cell {W w : World} {g n c : Nat} {xs : List Int} (h : Own W w (.slice (some ⟨g, 0, none⟩) n c) n xs) (k : Nat) (hk : k < n) :
    w.cell? ⟨g, k, none⟩ = some (.int .u32 (xs.getD k 0)) ∧ w.frozen? ⟨g, k, none⟩ = false ∧ W.heap.size ≤ g ∧ g < w.heap.size := by
  have hl := h.length
  rcases h.1.2 with ⟨e, -⟩ | ⟨g', cap, cur, e, h1, hg, h2, h3, h4, h5⟩
  · simp at e
  · simp only [Value.slice.injEq, Option.some.injEq, Addr.mk.injEq] at e
    obtain ⟨⟨rfl, -⟩, -, rfl⟩ := e
    have hc := h.1.cells (g := g) rfl k (.int .u32 (xs.getD k 0)) (by simp [List.getD_eq_getElem?_getD, show k < xs.length by omega])
    rw [Go.WideShapes.add_plain, Nat.zero_add] at hc
    refine ⟨hc, ?_, h1, (Array.getElem?_eq_some_iff.1 hg).1⟩
    simp [World.frozen?, hg]

/-- What the call owns is at some block's beginning, where it has a word. -/
theorem Own.at0 {W w : World} {a : Option Addr} {n c : Nat} {xs : List Int} (h : Own W w (.slice a n c) n xs) (hn : 0 < n) : ∃ g, a = some ⟨g, 0, none⟩ := by
  rcases h.1.2 with ⟨e, -⟩ | ⟨g, cap, cur, e, -⟩
  · simp only [Value.slice.injEq] at e; omega
  · simp only [Value.slice.injEq] at e; exact ⟨g, e.1⟩

/-- One word is written. -/
theorem Own.set {W w : World} {g n c : Nat} {xs : List Int} (h : Own W w (.slice (some ⟨g, 0, none⟩) n c) n xs) (k : Nat) (y : Int) :
    Own W (w.setCell ⟨g, k, none⟩ (.int .u32 y)) (.slice (some ⟨g, 0, none⟩) n c) n (xs.set k y) := by
  have hl := h.length
  rcases h.1.2 with ⟨e, -⟩ | ⟨g', cap, cur, e, h1, hg, h2, h3, h4, h5⟩
  · simp at e
  · simp only [Value.slice.injEq, Option.some.injEq, Addr.mk.injEq] at e
    obtain ⟨⟨rfl, -⟩, -, rfl⟩ := e
    refine ⟨⟨by simp; omega, .inr ⟨g, c, cur.setIfInBounds k (.int .u32 y), rfl, h1, ?_, h2, h3, by simpa using h4, ?_⟩⟩, h.2.setCell h1 _⟩
    · have hlt := (Array.getElem?_eq_some_iff.1 hg).1
      have hv := (Array.getElem?_eq_some_iff.1 hg).2
      simp only [World.setCell]
      rw [Array.getElem?_eq_getElem (by simpa using hlt), Array.getElem_modify]
      simp [hv]
    · rw [Array.toList_setIfInBounds, List.take_set, h5, List.map_set]

end Go.Proofs.Ytnmohojmoienbaa
