/-
  Laws of no function, over slices of 32-bit words that a call owns: make, copy, a store into one word; what a callee's growth leaves. Conditions: Go's own limits on sizes.
-/
import Derived.Test.YtlokidddbkdclaaDoorNatA
import Derived.Laws.CopyOwn
namespace Go.Proofs.YtlokidddbkdclaaDoor
open Go.RowKit

/-- What a call owns stays while a callee makes memory. -/
theorem Own.more {W w w' : World} {v : Value} {n : Nat} {xs : List Int} (h : Own W w v n xs) (hb : Below w.heap.size w w') : Own W w' v n xs := by
  refine ⟨⟨h.1.1, ?_⟩, h.2.trans (hb.mono h.2.size)⟩
  rcases h.1.2 with h0 | ⟨g, cap, cur, e, h1, hg, h2⟩
  · exact .inl h0
  · refine .inr ⟨g, cap, cur, e, h1, ?_, h2⟩
    rw [hb.block g (Array.getElem?_eq_some_iff.1 hg).1]; exact hg

/-- What a callee made, its caller owns. -/
theorem Own.outer {V W w : World} {v : Value} {n : Nat} {xs : List Int} (h : Own W w v n xs) (hb : Below V.heap.size V W) : Own V w v n xs := by
  refine ⟨⟨h.1.1, ?_⟩, below_more hb h.2⟩
  rcases h.1.2 with h0 | ⟨g, cap, cur, e, h1, h2⟩
  · exact .inl h0
  · exact .inr ⟨g, cap, cur, e, Nat.le_trans hb.size h1, h2⟩

theorem Own.nil {W w : World} (h : Below W.heap.size W w) : Own W w (.slice none 0 0) 0 [] := ⟨World.ownsRow_nil _ _ _ _, h⟩

/-- A word of what the call owns: it reads so, and may be written. -/
theorem Own.cell {W w : World} {g n c : Nat} {xs : List Int} (h : Own W w (.slice (some ⟨g, 0, none⟩) n c) n xs) (k : Nat) (hk : k < n) :
    w.cell? ⟨g, k, none⟩ = some (.int .u32 (xs.getD k 0)) ∧ w.frozen? ⟨g, k, none⟩ = false ∧ W.heap.size ≤ g ∧ g < w.heap.size := by
  have hl := h.length
  rcases h.1.2 with ⟨e, -⟩ | ⟨g', cap, cur, e, h1, hg, h2, h3, h4, h5⟩
  · simp at e
  · simp only [Value.slice.injEq, Option.some.injEq, Addr.mk.injEq] at e
    obtain ⟨⟨rfl, -⟩, -, rfl⟩ := e
    have hc := h.1.cells (g := g) rfl k (.int .u32 (xs.getD k 0)) (by simp [List.getD_eq_getElem?_getD, show k < xs.length by omega])
    rw [Go.WideShapes.add_plain, Nat.zero_add] at hc
    refine ⟨hc, ?_, h1, (Array.getElem?_eq_some_iff.1 hg).1⟩
    simp [World.frozen?, hg]

/-- What the call owns is at some block's beginning, where it has a word. -/
theorem Own.at0 {W w : World} {a : Option Addr} {n c : Nat} {xs : List Int} (h : Own W w (.slice a n c) n xs) (hn : 0 < n) : ∃ g, a = some ⟨g, 0, none⟩ := by
  rcases h.1.2 with ⟨e, -⟩ | ⟨g, cap, cur, e, -⟩
  · simp only [Value.slice.injEq] at e; omega
  · simp only [Value.slice.injEq] at e; exact ⟨g, e.1⟩

/-- One word is written. -/
theorem Own.set {W w : World} {g n c : Nat} {xs : List Int} (h : Own W w (.slice (some ⟨g, 0, none⟩) n c) n xs) (k : Nat) (y : Int) :
    Own W (w.setCell ⟨g, k, none⟩ (.int .u32 y)) (.slice (some ⟨g, 0, none⟩) n c) n (xs.set k y) := by
  have hl := h.length
  rcases h.1.2 with ⟨e, -⟩ | ⟨g', cap, cur, e, h1, hg, h2, h3, h4, h5⟩
  · simp at e
  · simp only [Value.slice.injEq, Option.some.injEq, Addr.mk.injEq] at e
    obtain ⟨⟨rfl, -⟩, -, rfl⟩ := e
    refine ⟨⟨by simp; omega, .inr ⟨g, c, cur.setIfInBounds k (.int .u32 y), rfl, h1, ?_, h2, h3, by simpa using h4, ?_⟩⟩, h.2.setCell h1 _⟩
    · have hlt := (Array.getElem?_eq_some_iff.1 hg).1
      have hv := (Array.getElem?_eq_some_iff.1 hg).2
      simp only [World.setCell]
      rw [Array.getElem?_eq_getElem (by simpa using hlt), Array.getElem_modify]
      simp [hv]
    · rw [Array.toList_setIfInBounds, List.take_set, h5, List.map_set]

/-- make([]uint32, n). -/
theorem wpl_make_words {ops : Array Oper} {rest : List Oper} {o : Oper} {a : Act} {Q : Exit → Act → World → Prop} (l : Operand)
    (ho : o.op = .makeSlice 23 l l) (hgd : o.guard = none) (W w : World) (n : Nat) (N : Int) (hl : a.eval l = .int .i64 N) (hN : N = n) (hle : n ≤ 35184372088832) (hb : Below W.heap.size W w)
    (h : ∀ g w', W.heap.size ≤ g → Own W w' (.slice (some ⟨g, 0, none⟩) n n) n (List.replicate n 0) → wpList Tryd.prog ops Q rest (a.put o.dst (.slice (some ⟨g, 0, none⟩) n n)) w') : wpList Tryd.prog ops Q (o :: rest) a w := by
  obtain ⟨i, hi, hz, hs1, hby⟩ := info_parts infoU32
  refine wpList_make_full w hgd l l 23 ho W.heap.size 36 i (.int .u32 0) 1 Tryd.underlying23 hi hz hs1 .i64 .i64 N N n hl hl hN hN (by rw [hby]; omega) (by unfold maxLen; omega) hb.size ?_
  intro w' h1 h2
  refine h _ w' hb.size ⟨?_, hb.grown h2 hb.size (fun k e => by cases e)⟩
  have e : (madeCells (Value.int .u32 0).cells (n * 1)).toList = (List.replicate n (0 : Int)).map (Value.int .u32) := by
    apply List.ext_getElem?
    intro j
    by_cases hj : j < n
    · simp [madeCells, Value.cells, hj, Nat.mod_one]
    · simp [madeCells, Value.cells, hj]
  rw [← e]; exact h1

/-- copy(d, s), d the call's own, with room for all of s. -/
theorem wpl_copy_words {ops : Array Oper} {rest : List Oper} {o : Oper} {a : Act} {Q : Exit → Act → World → Prop} (d s : Operand)
    (ho : o.op = .call { callee := .builtin .copy, args := #[d, s], argTypes := #[23, 23] }) (hgd : o.guard = none)
    (W w : World) (g n c m : Nat) (vs : Value) (xs ys : List Int) (hown : Own W w (.slice (some ⟨g, 0, none⟩) n c) n xs) (hsrc : IsWords w vs ys) (hd : a.eval d = .slice (some ⟨g, 0, none⟩) n c) (hs : a.eval s = vs) (hm : ys.length = m) (hle : m ≤ n)
    (h : ∀ w', Own W w' (.slice (some ⟨g, 0, none⟩) n c) n (ys ++ xs.drop m) → wpList Tryd.prog ops Q rest (a.put o.dst (.int .i64 m)) w') : wpList Tryd.prog ops Q (o :: rest) a w := by
  obtain ⟨i, hi, hz, hs1, hby⟩ := info_parts infoU32
  have hl := hown.length
  rcases hown.1.2 with ⟨e, -⟩ | ⟨g', cap, cur, e, h1, hg, h2, h3, h4, h5⟩
  · simp at e
  simp only [Value.slice.injEq, Option.some.injEq, Addr.mk.injEq] at e
  obtain ⟨⟨rfl, -⟩, -, rfl⟩ := e
  obtain ⟨sp, sc, rfl⟩ := hsrc.lit
  subst hm
  have hmin : Nat.min ys.length n = ys.length := Nat.min_eq_left hle
  refine wpList_copy_splice hgd d s 23 23 ho 36 Tryd.underlying23 (by rw [hi]; simp [hs1]) _ sp n c ys.length sc hd hs g 0 cur.toList 36 (by simpa using hg) (ys.map (Value.int .u32)) (by rw [List.length_map, hmin]) ?_ (by simp; omega) (oneCells ys) W.heap.size W hown.2 h1 ?_
  · intro hpos
    refine ⟨rfl, ?_⟩
    rcases hsrc with ⟨e, rfl⟩ | ⟨x, cap, e, -, -, hc⟩
    · simp at hpos
    · simp only [Value.slice.injEq] at e
      obtain ⟨rfl, -, -⟩ := e
      refine ⟨x, rfl, fun j v hj => ?_⟩
      rw [List.getElem?_map] at hj
      obtain ⟨y, hy, rfl⟩ := Option.map_eq_some_iff.1 hj
      rw [hc j (List.getElem?_eq_some_iff.1 hy).1]
      simp [List.getD_eq_getElem?_getD, hy]
  · intro w' hw' hb'
    have hw := hw'.out
    have e : (Value.int .i64 ys.length) = goInt (ys.map (Value.int .u32)).length := by simp [goInt]
    rw [← e]
    refine h w' ⟨⟨by simp; omega, .inr ⟨g, c, _, rfl, h1, hw, h2, h3, ?_, ?_⟩⟩, hb'⟩
    · simp [splice]; omega
    · rw [Nat.mul_one] at h5 ⊢
      simp only [splice, List.take_zero, List.nil_append, Nat.zero_add, List.length_map]
      rw [List.map_append, List.map_drop, ← h5]
      rw [List.take_append, List.length_map, List.take_of_length_le (by simp; omega), List.drop_take]
end Go.Proofs.YtlokidddbkdclaaDoor
