/-
  Laws of no function: what reads as words (slices that came in, slices that a call made), how many words there are without the 0s at the end. Conditions: Go's own limits on sizes.
-/
import Derived.Test.YtnmohojmoienbaaLimbB
import Derived.Test.YtnmohojmoienbaaWords
import Derived.Test.YtnmohojmoienbaaBox
namespace Go.Proofs.Ytnmohojmoienbaa
open Go.RowKit

theorem wf_u32 {a : Int} (h : (Lit.int .u32 a).wf = true) : 0 ≤ a ∧ a < 4294967296 := by
  simp [Lit.wf, IntKind.min, IntKind.max, IntKind.signed, IntKind.bits] at h; omega

theorem bcell {W w1 : World} (hb : Below W.heap.size W w1) : (∀ b o, b < W.heap.size → w1.cell? ⟨b, o, none⟩ = W.cell? ⟨b, o, none⟩) ∧ (∀ b o, b < W.heap.size → w1.frozen? ⟨b, o, none⟩ = W.frozen? ⟨b, o, none⟩) :=
  ⟨fun b o h => hb.cell (p := ⟨b, o, none⟩) h, fun b o h => hb.frozen (p := ⟨b, o, none⟩) h⟩

/-- What the frame of a statement says of a slice of integers that came in. -/
def CameIn (k : IntKind) (w : World) (a : Option Addr) (len cap : Nat) (zs : List Int) : Prop :=
  (a = none ∧ len = 0 ∧ cap = 0 ∧ zs = []) ∨
  ∃ x, a = some x ∧ len ≤ cap ∧ cap ≤ maxLen ∧ zs.length = cap ∧ (∀ i, i < zs.length → w.cell? (x.add i) = some (.int k (zs.getD i 0))) ∧ ∀ n ∈ zs, (Lit.int k n).wf = true

theorem came_reads {k : IntKind} {w : World} {a : Option Addr} {len cap : Nat} {zs : List Int} (h : CameIn k w a len cap zs) :
    Reads k w a len (zs.take len) ∧ len ≤ 9223372036854775807 ∧ len ≤ cap ∧ ∀ n ∈ zs.take len, (Lit.int k n).wf = true := by
  rcases h with ⟨rfl, rfl, rfl, rfl⟩ | ⟨x, rfl, hl, hm, hz, hc, hw⟩
  · exact ⟨⟨rfl, .inl rfl⟩, by omega, by omega, by simp⟩
  · refine ⟨⟨by simp; omega, ?_⟩, by unfold maxLen at hm; omega, hl, fun n hn => hw n (List.mem_of_mem_take hn)⟩
    by_cases h0 : len = 0
    · exact .inl h0
    · obtain ⟨b, off, rfl, hc'⟩ := Go.ints_at hc (by omega)
      refine .inr ⟨b, off, rfl, fun i hi => ?_⟩
      rw [hc' i (by omega)]
      simp [List.getD_eq_getElem?_getD, hi]

theorem Reads.below {k : IntKind} {w w' : World} {a : Option Addr} {n : Nat} {zs : List Int} (h : Reads k w a n zs) (hb : Below w.heap.size w w') : Reads k w' a n zs := by
  refine ⟨h.1, h.2.imp id ?_⟩
  rintro ⟨b, off, rfl, hc⟩
  refine ⟨b, off, rfl, fun i hi => ?_⟩
  have hci := hc i hi
  rw [hb.cell (p := ⟨b, off + i, none⟩) (World.block_lt_of_cell? w _ hci)]
  exact hci

theorem IsWords.reads {w : World} {a : Option Addr} {n c : Nat} {zs : List Int} (h : IsWords w (.slice a n c) zs) : Reads .u32 w a n zs ∧ n ≤ 9223372036854775807 := by
  rcases h with ⟨e, rfl⟩ | ⟨x, cap, e, h1, h2, hc⟩
  · simp only [Value.slice.injEq] at e
    obtain ⟨rfl, rfl, rfl⟩ := e
    exact ⟨⟨rfl, .inl rfl⟩, by omega⟩
  · simp only [Value.slice.injEq] at e
    obtain ⟨rfl, rfl, rfl⟩ := e
    refine ⟨⟨rfl, ?_⟩, by unfold maxLen at h2; omega⟩
    by_cases h0 : zs.length = 0
    · exact .inl h0
    · obtain ⟨b, off, rfl, hc'⟩ := Go.ints_at hc (by omega)
      exact .inr ⟨b, off, rfl, hc'⟩

theorem came_words {w : World} {a : Option Addr} {len cap : Nat} {zs : List Int} (h : CameIn .u32 w a len cap zs) : IsWords w (.slice a len cap) (zs.take len) := by
  rcases h with ⟨rfl, rfl, rfl, rfl⟩ | ⟨x, rfl, hl, hm, hz, hc, hw⟩
  · exact .inl ⟨rfl, rfl⟩
  · have e : (zs.take len).length = len := by simp; omega
    refine .inr ⟨x, cap, by rw [e], by omega, hm, fun i hi => ?_⟩
    rw [e] at hi
    rw [hc i (by omega)]
    simp [List.getD_eq_getElem?_getD, hi]


theorem lowN_append (zs ys : List Int) : ∀ n, n ≤ zs.length → lowN (zs ++ ys) n = lowN zs n
  | 0, _ => rfl
  | n + 1, h => by
    have e : (zs ++ ys).getD n 0 = zs.getD n 0 := by
      simp [List.getD_eq_getElem?_getD, List.getElem?_append, show n < zs.length by omega]
    simp only [lowN, e, lowN_append zs ys n (by omega)]

theorem lowN_zeros (zs : List Int) (k : Nat) : ∀ j, j ≤ k → lowN (zs ++ List.replicate k 0) (zs.length + j) = lowN zs zs.length
  | 0, _ => lowN_append zs _ _ (Nat.le_refl _)
  | j + 1, h => by
    have e : (zs ++ List.replicate k (0 : Int)).getD (zs.length + j) 0 = 0 := by
      rw [List.getD_eq_getElem?_getD, List.getElem?_append_right (by omega)]
      simp [show j < k by omega]
    rw [← Nat.add_assoc, lowN_zero e, lowN_zeros zs k j (by omega)]

theorem lowN_last (zs : List Int) (x : Int) (hx : x ≠ 0) : lowN (zs ++ [x]) (zs.length + 1) = zs.length + 1 :=
  lowN_keep (by simpa [List.getD_eq_getElem?_getD] using hx)

theorem lowN_top (zs : List Int) : ∀ n, lowN zs n = 0 ∨ zs.getD (lowN zs n - 1) 0 ≠ 0
  | 0 => .inl rfl
  | n + 1 => by
    by_cases h : zs.getD n 0 = 0
    · rw [lowN_zero h]; exact lowN_top zs n
    · rw [lowN_keep h]; exact .inr (by simpa using h)

theorem lowN_again (zs : List Int) (n : Nat) : lowN zs (lowN zs n) = lowN zs n := by
  rcases lowN_top zs n with h | h
  · rw [h]; rfl
  · match hm : lowN zs n with
    | 0 => rfl
    | m + 1 => rw [hm] at h; exact lowN_keep (by simpa using h)

theorem lowN_take (zs : List Int) (k : Nat) : ∀ n, n ≤ k → lowN (zs.take k) n = lowN zs n
  | 0, _ => rfl
  | n + 1, h => by
    have e : (zs.take k).getD n 0 = zs.getD n 0 := by
      simp [List.getD_eq_getElem?_getD, show n < k by omega]
    simp only [lowN, e, lowN_take zs k n (by omega)]

end Go.Proofs.Ytnmohojmoienbaa
