/-
  Laws of no function: variables that lie in blocks of their own: what they hold, and what stays when others turn. No conditions of the program.
-/
import Derived.Test.YtnmohojmoienbaaOwn
namespace Go.Proofs.Ytnmohojmoienbaa
open Go.RowKit

theorem below_more {a b c : World} (h : Below a.heap.size a b) (k : Below b.heap.size b c) : Below a.heap.size a c := h.trans (k.mono h.size)

/-- Block k holds just these cells, and may be written. -/
def BoxC (v : World) (k : Nat) (cs : Array Value) (T : TypeId) : Prop := v.heap[k]? = some (.cells cs T (0, 0))

theorem BoxC.new (v : World) (cs : Array Value) (T : TypeId) : BoxC (v.alloc (.cells cs T)) v.heap.size cs T := by show (v.heap.push _)[v.heap.size]? = _; simp
theorem BoxC.more {v v' : World} {k : Nat} {cs : Array Value} {T : TypeId} (h : BoxC v k cs T) (hb : Below v.heap.size v v') : BoxC v' k cs T :=
  (hb.block k (Array.getElem?_eq_some_iff.1 h).1).trans h
theorem BoxC.alloc {v : World} {k : Nat} {cs : Array Value} {T : TypeId} (h : BoxC v k cs T) (o : Obj) : BoxC (v.alloc o) k cs T := h.more ((Below.refl _ _).alloc (Nat.le_refl _) _)
theorem BoxC.drew {v : World} {k : Nat} {cs : Array Value} {T : TypeId} (h : BoxC v k cs T) : BoxC v.drew k cs T := h
theorem BoxC.lt {v : World} {k : Nat} {cs : Array Value} {T : TypeId} (h : BoxC v k cs T) : k < v.heap.size := (Array.getElem?_eq_some_iff.1 h).1
theorem BoxC.cell {v : World} {k : Nat} {cs : Array Value} {T : TypeId} (h : BoxC v k cs T) (i : Nat) : v.cell? ⟨k, i, none⟩ = cs[i]? ∧ v.frozen? ⟨k, i, none⟩ = false := by
  unfold BoxC at h
  simp [World.cell?, World.frozen?, h]
theorem BoxC.cells2 {v : World} {k : Nat} {x y : Value} {T : TypeId} (h : BoxC v k #[x, y] T) : v.cell? ⟨k, 0, none⟩ = some x ∧ v.cell? ⟨k, 1, none⟩ = some y ∧ v.frozen? ⟨k, 0, none⟩ = false ∧ v.frozen? ⟨k, 1, none⟩ = false :=
  ⟨(h.cell 0).1, (h.cell 1).1, (h.cell 0).2, (h.cell 1).2⟩
theorem BoxC.cells3 {v : World} {k : Nat} {x y z : Value} {T : TypeId} (h : BoxC v k #[x, y, z] T) : v.cell? ⟨k, 0, none⟩ = some x ∧ v.cell? ⟨k, 1, none⟩ = some y ∧ v.cell? ⟨k, 2, none⟩ = some z ∧ v.frozen? ⟨k, 0, none⟩ = false ∧ v.frozen? ⟨k, 1, none⟩ = false ∧ v.frozen? ⟨k, 2, none⟩ = false :=
  ⟨(h.cell 0).1, (h.cell 1).1, (h.cell 2).1, (h.cell 0).2, (h.cell 1).2, (h.cell 2).2⟩
/-- A store into the box. -/
theorem BoxC.set {v : World} {k : Nat} {cs : Array Value} {T : TypeId} (h : BoxC v k cs T) (i : Nat) (x : Value) : BoxC (v.setCell ⟨k, i, none⟩ x) k (cs.setIfInBounds i x) T := by
  unfold BoxC at h ⊢
  have hlt := (Array.getElem?_eq_some_iff.1 h).1
  have hv := (Array.getElem?_eq_some_iff.1 h).2
  simp only [World.setCell]
  rw [Array.getElem?_eq_getElem (by simpa using hlt), Array.getElem_modify]
  simp [hv]
/-- A store into another block. -/
theorem BoxC.other {v : World} {k : Nat} {cs : Array Value} {T : TypeId} (h : BoxC v k cs T) {g i : Nat} (hg : k ≠ g) (x : Value) : BoxC (v.setCell ⟨g, i, none⟩ x) k cs T := by
  unfold BoxC at h ⊢
  rw [Below.heap_setCell v ⟨g, i, none⟩ x k (by simpa using hg)]; exact h

theorem boxes1 (w : World) (cs : Array Value) (T : TypeId) :
    BoxC (w.alloc (.cells cs T)) w.heap.size cs T ∧ Below w.heap.size w (w.alloc (.cells cs T)) ∧ w.heap.size < (w.alloc (.cells cs T)).heap.size :=
  ⟨BoxC.new w cs T, (Below.refl _ w).alloc (Nat.le_refl _) _, by simp⟩
theorem boxes2 (w : World) (cs ds : Array Value) (T U : TypeId) :
    BoxC ((w.alloc (.cells cs T)).alloc (.cells ds U)) w.heap.size cs T ∧ BoxC ((w.alloc (.cells cs T)).alloc (.cells ds U)) (w.heap.size + 1) ds U ∧
    Below w.heap.size w ((w.alloc (.cells cs T)).alloc (.cells ds U)) ∧ w.heap.size + 1 < ((w.alloc (.cells cs T)).alloc (.cells ds U)).heap.size := by
  have b2 := BoxC.new (w.alloc (.cells cs T)) ds U
  rw [World.size_alloc] at b2
  exact ⟨(BoxC.new w cs T).alloc _, b2, ((Below.refl _ w).alloc (Nat.le_refl _) _).alloc (by simp) _, by simp⟩
theorem boxes3 (w : World) (cs ds es : Array Value) (T U X : TypeId) :
    BoxC (((w.alloc (.cells cs T)).alloc (.cells ds U)).alloc (.cells es X)) w.heap.size cs T ∧ BoxC (((w.alloc (.cells cs T)).alloc (.cells ds U)).alloc (.cells es X)) (w.heap.size + 1) ds U ∧ BoxC (((w.alloc (.cells cs T)).alloc (.cells ds U)).alloc (.cells es X)) (w.heap.size + 1 + 1) es X ∧
    Below w.heap.size w (((w.alloc (.cells cs T)).alloc (.cells ds U)).alloc (.cells es X)) ∧ w.heap.size + 1 + 1 < (((w.alloc (.cells cs T)).alloc (.cells ds U)).alloc (.cells es X)).heap.size := by
  obtain ⟨h1, h2, h3, h4⟩ := boxes2 w cs ds T U
  have b3 := BoxC.new ((w.alloc (.cells cs T)).alloc (.cells ds U)) es X
  rw [World.size_alloc, World.size_alloc] at b3
  exact ⟨h1.alloc _, h2.alloc _, b3, h3.alloc (by simp; omega) _, by simp⟩
end Go.Proofs.Ytnmohojmoienbaa
