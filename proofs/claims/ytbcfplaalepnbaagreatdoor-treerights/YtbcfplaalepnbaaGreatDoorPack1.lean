/-
  Texts of mine put together in build order, as far as TreeParses, TreeRight need them: Box, RowC, Keep, Limb, LimbB, Words, Came, NatMath, NatA, Words2, Boxes, SignMath, SignPlace, SignTexts, LexMath, LexTok, TokW, LexSpec, SignRefC, SignRefD, LexRef, LexRefD, LexRefE, TreeSpec, TreeExpr, TreeSeg, TreeUses, TreeProg, TreeMem, TreeRefB, TreeRefD, TreeCount. No conditions of their own.
-/
import Derived.WalkKit
import Derived.ProofKit
import Derived.Lib.AppendZerosOnto
import Derived.Laws.AppendOwn
import Derived.Laws.AppendOwnNone
import Derived.Test.YtbcfplaalepnbaaGreatDoorRows
import Derived.WalkLawsBesides
import Derived.Deep.QuietTactic
import Derived.BigQuiet
import Derived.Outline
import Derived.Lib.BitFns
import Derived.OpenShut
import Derived.Laws.CopyOwn
import Derived.Lib.DecodeN
import Derived.Deep.LoopGhost
import Derived.Deep.RegionLaw
import Derived.Deep.DrawnRows
namespace Go.Proofs.YtbcfplaalepnbaaGreatDoor
open Go.RowKit
theorem below_more {a b c : World} (h : Below a.heap.size a b) (k : Below b.heap.size b c) : Below a.heap.size a c := h.trans (k.mono h.size)
def BoxC (v : World) (k : Nat) (cs : Array Value) (T : TypeId) : Prop := v.heap[k]? = some (.cells cs T (0, 0))
theorem BoxC.new (v : World) (cs : Array Value) (T : TypeId) : BoxC (v.alloc (.cells cs T)) v.heap.size cs T := by show (v.heap.push _)[v.heap.size]? = _; simp
theorem BoxC.more {v v' : World} {k : Nat} {cs : Array Value} {T : TypeId} (h : BoxC v k cs T) (hb : Below v.heap.size v v') : BoxC v' k cs T :=
  (hb.block k (Array.getElem?_eq_some_iff.1 h).1).trans h
theorem BoxC.alloc {v : World} {k : Nat} {cs : Array Value} {T : TypeId} (h : BoxC v k cs T) (o : Obj) : BoxC (v.alloc o) k cs T := h.more ((Below.refl _ _).alloc (Nat.le_refl _) _)
theorem BoxC.drew {v : World} {k : Nat} {cs : Array Value} {T : TypeId} (h : BoxC v k cs T) : BoxC v.drew k cs T := h
theorem BoxC.lt {v : World} {k : Nat} {cs : Array Value} {T : TypeId} (h : BoxC v k cs T) : k < v.heap.size := (Array.getElem?_eq_some_iff.1 h).1
theorem BoxC.cell {v : World} {k : Nat} {cs : Array Value} {T : TypeId} (h : BoxC v k cs T) (i : Nat) : v.cell? ⟨k, i, none⟩ = cs[i]? ∧ v.frozen? ⟨k, i, none⟩ = false := by
  unfold BoxC at h
  simp [World.cell?, World.frozen?, h]
theorem BoxC.cells2 {v : World} {k : Nat} {x y : Value} {T : TypeId} (h : BoxC v k #[x, y] T) : v.cell? ⟨k, 0, none⟩ = some x ∧ v.cell? ⟨k, 1, none⟩ = some y ∧ v.frozen? ⟨k, 0, none⟩ = false ∧ v.frozen? ⟨k, 1, none⟩ = false :=
  ⟨(h.cell 0).1, (h.cell 1).1, (h.cell 0).2, (h.cell 1).2⟩
theorem BoxC.cells3 {v : World} {k : Nat} {x y z : Value} {T : TypeId} (h : BoxC v k #[x, y, z] T) : v.cell? ⟨k, 0, none⟩ = some x ∧ v.cell? ⟨k, 1, none⟩ = some y ∧ v.cell? ⟨k, 2, none⟩ = some z ∧ v.frozen? ⟨k, 0, none⟩ = false ∧ v.frozen? ⟨k, 1, none⟩ = false ∧ v.frozen? ⟨k, 2, none⟩ = false :=
  ⟨(h.cell 0).1, (h.cell 1).1, (h.cell 2).1, (h.cell 0).2, (h.cell 1).2, (h.cell 2).2⟩
theorem BoxC.set {v : World} {k : Nat} {cs : Array Value} {T : TypeId} (h : BoxC v k cs T) (i : Nat) (x : Value) : BoxC (v.setCell ⟨k, i, none⟩ x) k (cs.setIfInBounds i x) T := by
  unfold BoxC at h ⊢
  have hlt := (Array.getElem?_eq_some_iff.1 h).1
  have hv := (Array.getElem?_eq_some_iff.1 h).2
  simp only [World.setCell]
  rw [Array.getElem?_eq_getElem (by simpa using hlt), Array.getElem_modify]
  simp [hv]
theorem BoxC.other {v : World} {k : Nat} {cs : Array Value} {T : TypeId} (h : BoxC v k cs T) {g i : Nat} (hg : k ≠ g) (x : Value) : BoxC (v.setCell ⟨g, i, none⟩ x) k cs T := by
  unfold BoxC at h ⊢
  rw [Below.heap_setCell v ⟨g, i, none⟩ x k (by simpa using hg)]; exact h
theorem boxes1 (w : World) (cs : Array Value) (T : TypeId) :
    BoxC (w.alloc (.cells cs T)) w.heap.size cs T ∧ Below w.heap.size w (w.alloc (.cells cs T)) ∧ w.heap.size < (w.alloc (.cells cs T)).heap.size :=
  ⟨BoxC.new w cs T, (Below.refl _ w).alloc (Nat.le_refl _) _, by simp⟩
theorem boxes2 (w : World) (cs ds : Array Value) (T U : TypeId) :
    BoxC ((w.alloc (.cells cs T)).alloc (.cells ds U)) w.heap.size cs T ∧ BoxC ((w.alloc (.cells cs T)).alloc (.cells ds U)) (w.heap.size + 1) ds U ∧
    Below w.heap.size w ((w.alloc (.cells cs T)).alloc (.cells ds U)) ∧ w.heap.size + 1 < ((w.alloc (.cells cs T)).alloc (.cells ds U)).heap.size := by
  have b2 := BoxC.new (w.alloc (.cells cs T)) ds U
  rw [World.size_alloc] at b2
  exact ⟨(BoxC.new w cs T).alloc _, b2, ((Below.refl _ w).alloc (Nat.le_refl _) _).alloc (by simp) _, by simp⟩
theorem boxes3 (w : World) (cs ds es : Array Value) (T U X : TypeId) :
    BoxC (((w.alloc (.cells cs T)).alloc (.cells ds U)).alloc (.cells es X)) w.heap.size cs T ∧ BoxC (((w.alloc (.cells cs T)).alloc (.cells ds U)).alloc (.cells es X)) (w.heap.size + 1) ds U ∧ BoxC (((w.alloc (.cells cs T)).alloc (.cells ds U)).alloc (.cells es X)) (w.heap.size + 1 + 1) es X ∧
    Below w.heap.size w (((w.alloc (.cells cs T)).alloc (.cells ds U)).alloc (.cells es X)) ∧ w.heap.size + 1 + 1 < (((w.alloc (.cells cs T)).alloc (.cells ds U)).alloc (.cells es X)).heap.size := by
  obtain ⟨h1, h2, h3, h4⟩ := boxes2 w cs ds T U
  have b3 := BoxC.new ((w.alloc (.cells cs T)).alloc (.cells ds U)) es X
  rw [World.size_alloc, World.size_alloc] at b3
  exact ⟨h1.alloc _, h2.alloc _, b3, h3.alloc (by simp; omega) _, by simp⟩
end Go.Proofs.YtbcfplaalepnbaaGreatDoor
namespace Go.Proofs.YtbcfplaalepnbaaGreatDoor
open Go.RowKit
def OwnC (T : TypeId) (k : Nat) (W w : World) (v : Value) (n : Nat) (cs : List Value) : Prop := w.ownsRow W.heap.size T k v n cs ∧ Below W.heap.size W w
def IsC (k : Nat) (w : World) (a : Option Addr) (n : Nat) (cs : List Value) : Prop := cs.length = n * k ∧ (n = 0 ∨ ∃ x : Addr, a = some x ∧ ∀ j u, cs[j]? = some u → w.cell? (x.add j) = some u)
theorem OwnC.length {T : TypeId} {k : Nat} {W w : World} {v : Value} {n : Nat} {cs : List Value} (h : OwnC T k W w v n cs) : cs.length = n * k := h.1.1
theorem OwnC.below {T : TypeId} {k : Nat} {W w : World} {v : Value} {n : Nat} {cs : List Value} (h : OwnC T k W w v n cs) : Below W.heap.size W w := h.2
theorem OwnC.nil {T : TypeId} {k : Nat} {W w : World} (h : Below W.heap.size W w) : OwnC T k W w (.slice none 0 0) 0 [] := ⟨World.ownsRow_nil _ _ _ _, h⟩
theorem OwnC.more {T : TypeId} {k : Nat} {W w w' : World} {v : Value} {n : Nat} {cs : List Value} (h : OwnC T k W w v n cs) (hb : Below w.heap.size w w') : OwnC T k W w' v n cs := by
  refine ⟨⟨h.1.1, ?_⟩, below_more h.2 hb⟩
  rcases h.1.2 with h0 | ⟨g, cap, cur, e, h1, hg, h2⟩
  · exact .inl h0
  · refine .inr ⟨g, cap, cur, e, h1, ?_, h2⟩
    rw [hb.block g (Array.getElem?_eq_some_iff.1 hg).1]; exact hg
theorem OwnC.alloc {T : TypeId} {k : Nat} {W w : World} {v : Value} {n : Nat} {cs : List Value} (h : OwnC T k W w v n cs) (o : Obj) : OwnC T k W (w.alloc o) v n cs := h.more ((Below.refl _ _).alloc (Nat.le_refl _) _)
theorem OwnC.drew {T : TypeId} {k : Nat} {W w : World} {v : Value} {n : Nat} {cs : List Value} (h : OwnC T k W w v n cs) : OwnC T k W w.drew v n cs := h.more (Below.refl _ _).drew
theorem OwnC.lit {T : TypeId} {k : Nat} {W w : World} {v : Value} {n : Nat} {cs : List Value} (h : OwnC T k W w v n cs) : ∃ a c, v = .slice a n c ∧ (a = none → c = 0) := by
  rcases h.1.2 with ⟨rfl, rfl⟩ | ⟨g, cap, cur, rfl, -⟩
  · exact ⟨none, 0, rfl, fun _ => rfl⟩
  · exact ⟨_, _, rfl, fun e => absurd e (by simp)⟩
theorem OwnC.box {T : TypeId} {k : Nat} {W w : World} {v : Value} {n : Nat} {cs : List Value} (h : OwnC T k W w v n cs) {g : Nat} {ds : Array Value} {U : TypeId} (B : BoxC w g ds U) (hT : U ≠ T) (hk : W.heap.size ≤ g) (i : Nat) (x : Value) : OwnC T k W (w.setCell ⟨g, i, none⟩ x) v n cs := by
  refine ⟨⟨h.1.1, ?_⟩, h.2.setCell (p := ⟨g, i, none⟩) hk _⟩
  rcases h.1.2 with h0 | ⟨f, cap, cur, e, h3, hg, h4⟩
  · exact .inl h0
  · refine .inr ⟨f, cap, cur, e, h3, ?_, h4⟩
    have hne : f ≠ g := by
      intro e1
      subst e1
      unfold BoxC at B
      rw [B] at hg
      simp at hg
      exact hT hg.2
    rw [Below.heap_setCell w ⟨g, i, none⟩ x f (by simpa using hne)]; exact hg
theorem OwnC.reads {T : TypeId} {k : Nat} {W w : World} {a : Option Addr} {n c : Nat} {cs : List Value} (h : OwnC T k W w (.slice a n c) n cs) : IsC k w a n cs := by
  refine ⟨h.1.1, ?_⟩
  rcases h.1.2 with ⟨-, h0⟩ | ⟨g, cap, cur, e, -, hg, -, -, -, ht⟩
  · exact .inl h0
  · right
    simp only [Value.slice.injEq] at e
    refine ⟨_, e.1, fun j u hj => ?_⟩
    have hlt : j < cs.length := (List.getElem?_eq_some_iff.1 hj).1
    rw [h.1.1] at hlt
    rw [← ht, List.getElem?_take, if_pos hlt] at hj
    rw [Go.WideShapes.add_plain, Nat.zero_add]
    simp only [World.cell?, hg]
    rw [← hj]
    simp
theorem IsC.nil (k : Nat) (w : World) (a : Option Addr) : IsC k w a 0 [] := ⟨by simp, .inl rfl⟩
set_option maxHeartbeats 1000000 in
/-- append(v, x...), v the call's own, x a slice that reads as these cells. -/
theorem wpl_append_c {P : Program} {ops : Array Oper} {rest : List Oper} {o : Oper} {a : Act} {Q : Exit → Act → World → Prop} {t e : TypeId} {z : Value} {k bytes : Nat} (hP : P.underlying t = some (.slice e)) (hI : (P.info? e).map (fun i => (i.zero, i.size, i.bytes)) = some (some z, k, bytes)) (hzs : z.cells.size = k) (hk : 0 < k) (s x : Operand)
    (ho : o.op = .call { callee := .builtin .append, args := #[s, x], argTypes := #[t, t] }) (hgd : o.guard = none)
    (W w : World) (v : Value) (n : Nat) (cs : List Value) (b : Option Addr) (m d : Nat) (ds : List Value) (hs : a.eval s = v) (hx : a.eval x = .slice b m d) (hown : OwnC e k W w v n cs) (hsrc : IsC k w b m ds) (h1 : ∀ u ∈ ds, u.oneCell' = true) (hd : b = none → m = 0 ∧ d = 0) (hle : n + m ≤ maxLen) (hby : (n + m) * bytes ≤ 140737488355328)
    (h : ∀ a' c' w', (a' = none → c' = 0) → OwnC e k W w' (.slice a' (n + m) c') (n + m) (cs ++ ds) → w.grownBy w' v.ownBlock → wpList P ops Q rest (a.put o.dst (.slice a' (n + m) c')) w') : wpList P ops Q (o :: rest) a w := by
  obtain ⟨i, hi, hz, hs1, hb1⟩ := info_parts hI
  cases b with
  | none =>
    obtain ⟨rfl, rfl⟩ := hd rfl
    have hl := hsrc.1
    obtain rfl : ds = [] := List.eq_nil_of_length_eq_zero (by omega)
    obtain ⟨a', c', rfl, hn⟩ := hown.lit
    refine wpList_append_own_none hgd s x t ho W.heap.size e i k hP hi _ n _ hs hown.1 hx ?_
    exact h a' c' w hn (by rw [List.append_nil]; exact hown) ⟨rfl, rfl, rfl, Nat.le_refl _, fun _ _ _ => rfl⟩
  | some ad =>
    have hcells : ∀ j u, ds[j]? = some u → w.cell? (ad.add j) = some u := by
      intro j u hj
      rcases hsrc.2 with h0 | ⟨y, e, hc⟩
      · have := hsrc.1
        rw [h0, Nat.zero_mul] at this
        rw [List.eq_nil_of_length_eq_zero this] at hj; exact absurd hj (by simp)
      · obtain rfl := Option.some.inj e
        exact hc j u hj
    refine wpList_append_own w hgd s x t ho W.heap.size e i _ k bytes hP hi hz hs1 hb1 hzs hk v n _ hs hown.1 ad m d ds hx hsrc.1 hcells h1 hle hby hown.2.size ?_
    intro v' w' h2 h3 _
    have hnew : OwnC e k W w' v' (n + m) (cs ++ ds) := ⟨h2, hown.2.grown h3 hown.2.size (fun k hk => (hown.1.lt k hk).1)⟩
    obtain ⟨a', c', rfl, hn⟩ := hnew.lit
    exact h a' c' w' hn hnew h3
theorem BoxC.isc {w : World} {g : Nat} {ds : Array Value} {U : TypeId} (B : BoxC w g ds U) : IsC ds.size w (some ⟨g, 0, none⟩) 1 ds.toList := by
  refine ⟨by simp, .inr ⟨_, rfl, fun j u hj => ?_⟩⟩
  rw [Go.WideShapes.add_plain, Nat.zero_add, (B.cell j).1]
  simpa using hj
def flat {α : Type} (enc : α → List Value) (l : List α) : List Value := l.flatMap enc
theorem flat_append {α : Type} (enc : α → List Value) (l m : List α) : flat enc (l ++ m) = flat enc l ++ flat enc m := List.flatMap_append
theorem flat_one {α : Type} (enc : α → List Value) (x : α) : flat enc [x] = enc x := by simp [flat]
theorem flat_length {α : Type} {enc : α → List Value} {k : Nat} (hk : ∀ x, (enc x).length = k) (l : List α) : (flat enc l).length = l.length * k := by
  induction l with
  | nil => simp [flat]
  | cons x l ih =>
    show (enc x ++ flat enc l).length = _
    rw [List.length_append, hk, ih, List.length_cons, Nat.succ_mul]; omega
theorem flat_get {α : Type} {enc : α → List Value} {k : Nat} (hk : ∀ x, (enc x).length = k) : ∀ (l : List α) (i : Nat) (x : α), l[i]? = some x → ∀ j, j < k → (flat enc l)[i * k + j]? = (enc x)[j]? := by
  intro l
  induction l with
  | nil => intro i x h; exact absurd h (by simp)
  | cons y l ih =>
    intro i x h j hj
    show (enc y ++ flat enc l)[i * k + j]? = _
    cases i with
    | zero =>
      rw [Nat.zero_mul, Nat.zero_add, List.getElem?_append_left (by rw [hk]; exact hj)]
      have : y = x := by simpa using h
      rw [this]
    | succ i =>
      rw [List.getElem?_append_right (by rw [hk, Nat.succ_mul]; omega), hk, show (i + 1) * k + j - k = i * k + j by rw [Nat.succ_mul]; omega]
      exact ih i x (by simpa using h) j hj
theorem IsC.get {α : Type} {enc : α → List Value} {k : Nat} (hk : ∀ x, (enc x).length = k) {w : World} {a : Option Addr} {n : Nat} {l : List α} (h : IsC k w a n (flat enc l)) (h0 : 0 < k) : l.length = n ∧ ∀ i x, l[i]? = some x → ∃ y, a = some y ∧ ∀ j u, (enc x)[j]? = some u → w.cell? (y.add (i * k + j)) = some u := by
  have hl : l.length = n := by
    have := h.1
    rw [flat_length hk] at this
    exact Nat.eq_of_mul_eq_mul_right h0 this
  refine ⟨hl, fun i x hx => ?_⟩
  have hi : i < l.length := (List.getElem?_eq_some_iff.1 hx).1
  rcases h.2 with e | ⟨y, e, hc⟩
  · omega
  · refine ⟨y, e, fun j u hj => hc _ _ ?_⟩
    have hjk : j < k := by rw [← hk x]; exact (List.getElem?_eq_some_iff.1 hj).1
    rw [flat_get hk l i x hx j hjk]; exact hj
end Go.Proofs.YtbcfplaalepnbaaGreatDoor
namespace Go.Proofs.YtbcfplaalepnbaaGreatDoor
open Go.RowKit
def Keep (X : TypeId → Prop) (w w' : World) : Prop := w.heap.size ≤ w'.heap.size ∧ ∀ (g : Nat) (cs : Array Value) (T : TypeId) (f : Nat × Nat), w.heap[g]? = some (.cells cs T f) → ¬ X T → w'.heap[g]? = some (.cells cs T f)
theorem Keep.refl (X : TypeId → Prop) (w : World) : Keep X w w := ⟨Nat.le_refl _, fun _ _ _ _ h _ => h⟩
theorem Keep.trans {X : TypeId → Prop} {u v w : World} (h : Keep X u v) (k : Keep X v w) : Keep X u w := ⟨Nat.le_trans h.1 k.1, fun g cs T f e hX => k.2 g cs T f (h.2 g cs T f e hX) hX⟩
theorem Keep.mono {X Y : TypeId → Prop} {v w : World} (h : Keep X v w) (hY : ∀ T, X T → Y T) : Keep Y v w := ⟨h.1, fun g cs T f e hX => h.2 g cs T f e (fun q => hX (hY T q))⟩
theorem Keep.of (X : TypeId → Prop) {w w' : World} (h : Below w.heap.size w w') : Keep X w w' := ⟨h.size, fun g _ _ _ e _ => (h.block g (Array.getElem?_eq_some_iff.1 e).1).trans e⟩
theorem Keep.alloc {X : TypeId → Prop} {v w : World} (h : Keep X v w) (o : Obj) : Keep X v (w.alloc o) := h.trans (Keep.of X ((Below.refl _ _).alloc (Nat.le_refl _) o))
theorem Keep.more {X : TypeId → Prop} {u v w : World} (h : Keep X u v) (k : Below v.heap.size v w) : Keep X u w := h.trans (Keep.of X k)
theorem Keep.set {X : TypeId → Prop} {v w : World} (h : Keep X v w) {g : Nat} {cs : Array Value} {T : TypeId} (B : BoxC w g cs T) (hX : X T) (i : Nat) (x : Value) : Keep X v (w.setCell ⟨g, i, none⟩ x) := by
  refine h.trans ⟨by simp, fun k ds U f e hU => ?_⟩
  have hne : k ≠ g := by
    intro e1
    subst e1
    unfold BoxC at B
    rw [B] at e
    simp only [Option.some.injEq, Obj.cells.injEq] at e
    exact hU (e.2.1 ▸ hX)
  rw [Below.heap_setCell w ⟨g, i, none⟩ x k (by simpa using hne)]; exact e
theorem Keep.grown {X : TypeId → Prop} {u w w' : World} (h : Keep X u w) {T : TypeId} {k : Nat} {W : World} {v : Value} {n : Nat} {cs : List Value} (o : OwnC T k W w v n cs) (hX : X T) (hg : w.grownBy w' v.ownBlock) : Keep X u w' := by
  refine h.trans ⟨hg.size, fun j ds U f e hU => ?_⟩
  have hne : some j ≠ v.ownBlock := by
    intro e1
    rcases o.1.2 with ⟨rfl, -⟩ | ⟨b, cap, cur, rfl, h3, hb, h4⟩
    · exact absurd e1 (by simp [Value.ownBlock])
    · have e2 : j = b := by simpa [Value.ownBlock] using e1
      subst e2
      rw [e] at hb
      simp only [Option.some.injEq, Obj.cells.injEq] at hb
      exact hU (hb.2.1 ▸ hX)
  rw [hg.block j (Array.getElem?_eq_some_iff.1 e).1 hne]; exact e
theorem BoxC.keep {X : TypeId → Prop} {w w' : World} {g : Nat} {cs : Array Value} {T : TypeId} (h : BoxC w g cs T) (k : Keep X w w') (hT : ¬ X T) : BoxC w' g cs T := k.2 g cs T (0, 0) h hT
theorem ownsRow_keep {X : TypeId → Prop} {w w' : World} {b : Nat} {T : TypeId} {k : Nat} {v : Value} {n : Nat} {cs : List Value} (h : w.ownsRow b T k v n cs) (q : Keep X w w') (hT : ¬ X T) : w'.ownsRow b T k v n cs := by
  refine ⟨h.1, ?_⟩
  rcases h.2 with h0 | ⟨g, cap, cur, e, h1, hg, h2⟩
  · exact .inl h0
  · exact .inr ⟨g, cap, cur, e, h1, q.2 g cur T _ hg hT, h2⟩
theorem OwnC.keep {X : TypeId → Prop} {T : TypeId} {k : Nat} {W w w' : World} {v : Value} {n : Nat} {cs : List Value} (h : OwnC T k W w v n cs) (q : Keep X w w') (hT : ¬ X T) (hb : Below W.heap.size W w') : OwnC T k W w' v n cs := ⟨ownsRow_keep h.1 q hT, hb⟩
theorem OwnC.apart {T : TypeId} {k : Nat} {W w : World} {v : Value} {n : Nat} {cs : List Value} (h : OwnC T k W w v n cs) {g : Nat} {ds : Array Value} {U : TypeId} (B : BoxC w g ds U) (hU : U ≠ T) : v.ownBlock ≠ some g := by
  rcases h.1.2 with ⟨rfl, -⟩ | ⟨f, cap, cur, rfl, h3, hf, h4⟩
  · exact fun e => by cases e
  · intro e
    have e1 : f = g := by simpa [Value.ownBlock] using e
    subst e1
    unfold BoxC at B
    rw [B] at hf
    simp only [Option.some.injEq, Obj.cells.injEq] at hf
    exact hU hf.2.1
end Go.Proofs.YtbcfplaalepnbaaGreatDoor
namespace Go.Proofs.YtbcfplaalepnbaaGreatDoor
open Go.RowKit
def isum : List Int → Int
  | [] => 0
  | x :: r => x + isum r
theorem isum_snoc (l : List Int) (x : Int) : isum (l ++ [x]) = isum l + x := by
  induction l with
  | nil => simp [isum]
  | cons y r ih => simp only [List.cons_append, isum, ih]; omega
theorem ret_two {k l : IntKind} {a b c d : Int} (h : a = c) (g : b = d) : Ending.returned (.tuple #[.int k a, .int l b]) = .returned (.tuple #[.int k c, .int l d]) := by rw [h, g]
theorem limb_total (b : Nat) (zs : List Int) (n cap : Nat) (w : World) (hn : zs.length = n) (hl : n ≤ 1000)
    (hc : ∀ i, i < n → w.cell? ⟨b, i, none⟩ = some (.int .u64 (zs.getD i 0)))
    (hb : ∀ k, k ≤ n → 0 ≤ isum (zs.take k) ∧ isum (zs.take k) < 18446744073709551616) :
    Calls Tryz.prog 233 #[.slice (some ⟨b, 0, none⟩) n cap] w fun e w' => e = .returned (.int .u64 (isum zs)) ∧ w = w' := by
  go_enter Tryz.func233, Tryz.ntmps233
  go_wp2
  go_loop [3, 8] (fun s i => ∃ k : Nat, k ≤ n ∧ i = .int .i64 k ∧ s = .int .u64 (isum (zs.take k))) (fun _ i => n - (intOf i).toNat)
  case atStart => exact ⟨0, Nat.zero_le _, rfl, rfl⟩
  case round =>
    obtain ⟨k, hk, rfl, rfl⟩ := hrel
    by_cases hlt : k < n
    · have hck := hc k hlt
      have hb1 := hb k hk
      have hb2 := hb (k+1) hlt
      have e : zs.take (k+1) = zs.take k ++ [zs.getD k 0] := by
        rw [List.take_succ_eq_append_getElem (by omega)]; simp [show k < zs.length by omega]
      rw [e, isum_snoc] at hb2
      have E : Hid (isum (zs.take (k+1)) = isum (zs.take k) + zs.getD k 0) := by rw [e, isum_snoc]; rfl
      clear e hb hc hn
      generalize zs.getD k 0 = z at hck hb2 E
      go_wp2
      go_round
      case rel => exact ⟨k+1, by omega, by go_num, by rw [E.out]⟩
      case measure => simp [intOf]; omega
    · have e : zs.take k = zs := List.take_of_length_le (by omega)
      clear hb hc hn
      rw [e]
      go_wp2
      go_ret
      exact ⟨rfl, rfl⟩
theorem limb_total3 (a b c : Int) (w : World) (h0 : 0 ≤ a) (h1 : 0 ≤ b) (h2 : 0 ≤ c) (h3 : a + b + c < 18446744073709551616) :
    Calls Tryz.prog 233 #[.slice (some ⟨w.heap.size, 0, none⟩) 3 3] (w.alloc (.cells #[.int .u64 a, .int .u64 b, .int .u64 c] 111)) fun e w' => e = .returned (.int .u64 (a + b + c)) ∧ w.alloc (.cells #[.int .u64 a, .int .u64 b, .int .u64 c] 111) = w' := by
  have e : isum [a, b, c] = a + b + c := by simp [isum]; omega
  rw [← e]
  refine limb_total _ [a, b, c] 3 3 _ rfl (by decide) ?_ ?_
  · intro i hi
    match i, hi with
    | 0, _ => simp
    | 1, _ => simp
    | 2, _ => simp
  · intro k hk
    match k, hk with
    | 0, _ => simp [isum]
    | 1, _ => simp [isum]; omega
    | 2, _ => simp [isum]; omega
    | 3, _ => simp [isum]; omega
theorem limb_total2 (a b : Int) (w : World) (h0 : 0 ≤ a) (h1 : 0 ≤ b) (h3 : a + b < 18446744073709551616) :
    Calls Tryz.prog 233 #[.slice (some ⟨w.heap.size, 0, none⟩) 2 2] (w.alloc (.cells #[.int .u64 a, .int .u64 b] 111)) fun e w' => e = .returned (.int .u64 (a + b)) ∧ w.alloc (.cells #[.int .u64 a, .int .u64 b] 111) = w' := by
  have e : isum [a, b] = a + b := by simp [isum]
  rw [← e]
  refine limb_total _ [a, b] 2 2 _ rfl (by decide) ?_ ?_
  · intro i hi
    match i, hi with
    | 0, _ => simp
    | 1, _ => simp
  · intro k hk
    match k, hk with
    | 0, _ => simp [isum]
    | 1, _ => simp [isum]; omega
    | 2, _ => simp [isum]; omega
theorem limb_halves (n : Int) (w : World) (h0 : 0 ≤ n) (h1 : n < 18446744073709551616) :
    Calls Tryz.prog 232 #[.int .u64 n] w fun e w' => e = .returned (.tuple #[.int .u32 (n / 4294967296), .int .u32 (n % 4294967296)]) ∧ w = w' := by
  go_enter Tryz.func232, Tryz.ntmps232
  go_wp2
  go_ret2
  exact ⟨rfl, rfl⟩
theorem limb_add (a b c : Int) (w : World) (h0 : 0 ≤ a) (h1 : a < 4294967296) (h2 : 0 ≤ b) (h3 : b < 4294967296) (h4 : 0 ≤ c) (h5 : c < 4294967296) :
    Calls Tryz.prog 252 #[.int .u32 a, .int .u32 b, .int .u32 c] w fun e w' => e = .returned (.tuple #[.int .u32 ((a + b + c) % 4294967296), .int .u32 ((a + b + c) / 4294967296)]) ∧ Below w.heap.size w w' := by
  go_enter Tryz.func252, Tryz.ntmps252
  go_wp2_with (first | (go_at_call 233; refine (limb_total3 a b c w h0 h2 h4 (by omega)).mono ?_; rintro e w' ⟨rfl, rfl⟩) | (go_at_call 232; refine (limb_halves (a + b + c) _ (by omega) (by omega)).mono ?_; rintro e w' ⟨rfl, rfl⟩))
  go_ret2
  exact ⟨rfl, (Below.refl _ _).alloc (Nat.le_refl _) _⟩
theorem limb_sub (a b c : Int) (w : World) (h0 : 0 ≤ a) (h1 : a < 4294967296) (h2 : 0 ≤ b) (h3 : b < 4294967296) (h4 : 0 ≤ c) (h5 : c < 4294967296) :
    Calls Tryz.prog 250 #[.int .u32 a, .int .u32 b, .int .u32 c] w fun e w' => e = .returned (.tuple #[.int .u32 ((a - b - c) % 4294967296), .int .u32 (-((a - b - c) / 4294967296))]) ∧ Below w.heap.size w w' := by
  go_enter Tryz.func250, Tryz.ntmps250
  go_wp2_with (first | (go_at_call 233; refine (limb_total2 b c w h2 h4 (by omega)).mono ?_; rintro e w' ⟨rfl, rfl⟩) | (go_at_call 232; refine (limb_halves (IntKind.u64.wrap (a - (b + c))) _ (by rw [IntKind.wrap_u64]; omega) (by rw [IntKind.wrap_u64]; omega)).mono ?_; rintro e w' ⟨rfl, rfl⟩))
  go_ret2
  exact ⟨ret_two (by rw [IntKind.wrap_u64]; omega) (by rw [IntKind.wrap_u64]; omega), (Below.refl _ _).alloc (Nat.le_refl _) _⟩
theorem limb_mul (a b c d : Int) (w : World) (h0 : 0 ≤ a) (h1 : a < 4294967296) (h2 : 0 ≤ b) (h3 : b < 4294967296) (h4 : 0 ≤ c) (h5 : c < 4294967296) (h6 : 0 ≤ d) (h7 : d < 4294967296) :
    Calls Tryz.prog 214 #[.int .u32 a, .int .u32 b, .int .u32 c, .int .u32 d] w fun e w' => e = .returned (.tuple #[.int .u32 ((a * b + c + d) / 4294967296), .int .u32 ((a * b + c + d) % 4294967296)]) ∧ Below w.heap.size w w' := by
  have m0 : 0 ≤ a * b := Int.mul_nonneg h0 h2
  have m1 : a * b ≤ 4294967295 * 4294967295 := Int.mul_le_mul (by omega) (by omega) h2 (by omega)
  go_enter Tryz.func214, Tryz.ntmps214
  go_wp2_with (first | (go_at_call 233; refine (limb_total3 (a * b) c d w m0 h4 h6 (by omega)).mono ?_; rintro e w' ⟨rfl, rfl⟩) | (go_at_call 232; refine (limb_halves (a * b + c + d) _ (by omega) (by omega)).mono ?_; rintro e w' ⟨rfl, rfl⟩))
  go_ret2
  exact ⟨rfl, (Below.refl _ _).alloc (Nat.le_refl _) _⟩
theorem limb_div_no (a b d : Int) (w : World) (h : d ≤ a) :
    Calls Tryz.prog 221 #[.int .u32 a, .int .u32 b, .int .u32 d] w fun e w' => e = .returned (.tuple #[.int .u32 0, .int .u32 0, .bool false]) ∧ Below w.heap.size w w' := by
  go_enter Tryz.func221, Tryz.ntmps221
  go_wp2
  go_ret3
  exact ⟨rfl, Below.refl _ _⟩
theorem limb_div (a b d : Int) (w : World) (h0 : 0 ≤ a) (h1 : a < d) (h2 : 0 ≤ b) (h3 : b < 4294967296) (h5 : d < 4294967296) :
    Calls Tryz.prog 221 #[.int .u32 a, .int .u32 b, .int .u32 d] w fun e w' => e = .returned (.tuple #[.int .u32 ((a * 4294967296 + b) / d), .int .u32 ((a * 4294967296 + b) % d), .bool true]) ∧ Below w.heap.size w w' := by
  have q0 : 0 ≤ (a * 4294967296 + b) / d := Int.ediv_nonneg (by omega) (by omega)
  have q1 : (a * 4294967296 + b) / d < 4294967296 := Int.ediv_lt_of_lt_mul (by omega) (by omega)
  have r0 : 0 ≤ (a * 4294967296 + b) % d := Int.emod_nonneg _ (by omega)
  have r1 : (a * 4294967296 + b) % d < d := Int.emod_lt_of_pos _ (by omega)
  go_enter Tryz.func221, Tryz.ntmps221
  go_wp2_with ((go_at_call 233; refine (limb_total2 (a * 4294967296) b w (by omega) h2 (by omega)).mono ?_; rintro e w' ⟨rfl, rfl⟩))
  go_quiet (fail)
  go_wp2
  go_ret3
  exact ⟨rfl, below_drewN ((Below.refl _ _).alloc (Nat.le_refl _) _) _⟩
end Go.Proofs.YtbcfplaalepnbaaGreatDoor
namespace Go.Proofs.YtbcfplaalepnbaaGreatDoor
open Go.RowKit
theorem ret_int {k : IntKind} {a b : Int} (h : a = b) : Ending.returned (.int k a) = .returned (.int k b) := by rw [h]
set_option maxRecDepth 100000 in
theorem bits_len32 (a : Int) (w : World) (h0 : 0 ≤ a) (h1 : a < 4294967296) :
    Calls Tryz.prog 212 #[.int .u32 a] w fun e w' => e = .returned (.int .i64 (Lib.bitLen a.toNat)) ∧ w = w' := by
  by_cases c1 : 65536 ≤ a
  · by_cases c2 : 256 ≤ a / 65536
    · have i0 : 0 ≤ a / 65536 / 256 := by omega
      have i1 : a / 65536 / 256 ≤ 255 := by omega
      have E : Hid (Lib.len8 (a / 65536 / 256) = (Lib.bitLen (a.toNat / 2 ^ 24) : Int)) := by
        show _ = _
        rw [Lib.len8_of _ i0 i1, show (a / 65536 / 256).toNat = a.toNat / 2 ^ 24 by omega]
      have S : Hid (Lib.bitLen a.toNat = 24 + Lib.bitLen (a.toNat / 2 ^ 24)) := Lib.bitLen_shift 24 a.toNat (by omega) (by omega)
      have l0 : 0 ≤ Lib.len8 (a / 65536 / 256) := by rw [E.out]; omega
      have l1 : Lib.len8 (a / 65536 / 256) ≤ 8 := by rw [E.out]; have := Lib.bitLen_le (a.toNat / 2 ^ 24) 8 (by omega) (by omega); omega
      go_enter Tryz.func212, Tryz.ntmps212
      go_wp2
      go_ret
      exact ⟨ret_int (by rw [E.out, S.out]; omega), rfl⟩
    · have i0 : 0 ≤ a / 65536 := by omega
      have i1 : a / 65536 ≤ 255 := by omega
      have E : Hid (Lib.len8 (a / 65536) = (Lib.bitLen (a.toNat / 2 ^ 16) : Int)) := by
        show _ = _
        rw [Lib.len8_of _ i0 i1, show (a / 65536).toNat = a.toNat / 2 ^ 16 by omega]
      have S : Hid (Lib.bitLen a.toNat = 16 + Lib.bitLen (a.toNat / 2 ^ 16)) := Lib.bitLen_shift 16 a.toNat (by omega) (by omega)
      have l0 : 0 ≤ Lib.len8 (a / 65536) := by rw [E.out]; omega
      have l1 : Lib.len8 (a / 65536) ≤ 8 := by rw [E.out]; have := Lib.bitLen_le (a.toNat / 2 ^ 16) 8 (by omega) (by omega); omega
      go_enter Tryz.func212, Tryz.ntmps212
      go_wp2
      go_ret
      exact ⟨ret_int (by rw [E.out, S.out]; omega), rfl⟩
  · by_cases c2 : 256 ≤ a
    · have i0 : 0 ≤ a / 256 := by omega
      have i1 : a / 256 ≤ 255 := by omega
      have E : Hid (Lib.len8 (a / 256) = (Lib.bitLen (a.toNat / 2 ^ 8) : Int)) := by
        show _ = _
        rw [Lib.len8_of _ i0 i1, show (a / 256).toNat = a.toNat / 2 ^ 8 by omega]
      have S : Hid (Lib.bitLen a.toNat = 8 + Lib.bitLen (a.toNat / 2 ^ 8)) := Lib.bitLen_shift 8 a.toNat (by omega) (by omega)
      have l0 : 0 ≤ Lib.len8 (a / 256) := by rw [E.out]; omega
      have l1 : Lib.len8 (a / 256) ≤ 8 := by rw [E.out]; have := Lib.bitLen_le (a.toNat / 2 ^ 8) 8 (by omega) (by omega); omega
      go_enter Tryz.func212, Tryz.ntmps212
      go_wp2
      go_ret
      exact ⟨ret_int (by rw [E.out, S.out]; omega), rfl⟩
    · have i1 : a ≤ 255 := by omega
      have E : Hid (Lib.len8 a = (Lib.bitLen a.toNat : Int)) := Lib.len8_of _ h0 i1
      have l0 : 0 ≤ Lib.len8 a := by rw [E.out]; omega
      have l1 : Lib.len8 a ≤ 8 := by rw [E.out]; have := Lib.bitLen_le a.toNat 8 (by omega) (by omega); omega
      go_enter Tryz.func212, Tryz.ntmps212
      go_wp2
      go_ret
      exact ⟨ret_int (by rw [E.out]), rfl⟩
theorem limb_bits (a : Int) (w : World) (h0 : 0 ≤ a) (h1 : a < 4294967296) :
    Calls Tryz.prog 189 #[.int .u32 a] w fun e w' => e = .returned (.int .i64 (Lib.bitLen a.toNat)) ∧ w = w' := by
  go_enter Tryz.func189, Tryz.ntmps189
  go_wp2_with (go_at_call 212; refine (bits_len32 a w h0 h1).mono ?_; rintro e w' ⟨rfl, rfl⟩)
  go_ret
  exact ⟨rfl, rfl⟩
def lowN (zs : List Int) : Nat → Nat
  | 0 => 0
  | n + 1 => if zs.getD n 0 = 0 then lowN zs n else n + 1
theorem lowN_le (zs : List Int) (n : Nat) : lowN zs n ≤ n := by
  induction n with
  | zero => simp [lowN]
  | succ n ih => simp only [lowN]; split <;> omega
theorem lowN_zero {zs : List Int} {n : Nat} (h : zs.getD n 0 = 0) : lowN zs (n + 1) = lowN zs n := by simp only [lowN]; rw [if_pos h]
theorem lowN_keep {zs : List Int} {n : Nat} (h : zs.getD n 0 ≠ 0) : lowN zs (n + 1) = n + 1 := by simp only [lowN]; rw [if_neg h]
def Reads (k : IntKind) (w : World) (a : Option Addr) (n : Nat) (zs : List Int) : Prop :=
  zs.length = n ∧ (n = 0 ∨ ∃ b off, a = some ⟨b, off, none⟩ ∧ ∀ i, i < n → w.cell? ⟨b, off + i, none⟩ = some (.int k (zs.getD i 0)))
theorem limb_low (a : Option Addr) (n cap : Nat) (zs : List Int) (w : World) (hr : Reads .u32 w a n zs) (hn : n ≤ 9223372036854775807) :
    Calls Tryz.prog 165 #[.slice a n cap] w fun e w' => e = .returned (.int .i64 (lowN zs n)) ∧ w = w' := by
  obtain ⟨-, rfl | ⟨b, off, rfl, hc⟩⟩ := hr
  · go_enter Tryz.func165, Tryz.ntmps165
    go_wp2
    go_loop [3] (fun s => s = .int .i64 0) (fun _ => 0)
    case atStart => exact rfl
    case round =>
      subst hrel
      go_wp2
      go_ret
      exact ⟨rfl, rfl⟩
  · go_enter Tryz.func165, Tryz.ntmps165
    go_wp2
    go_loop [3] (fun s => ∃ k : Nat, k ≤ n ∧ s = .int .i64 k ∧ lowN zs k = lowN zs n) (fun s => (intOf s).toNat)
    case atStart => exact ⟨n, Nat.le_refl _, rfl, rfl⟩
    case round =>
      obtain ⟨k, hk, rfl, hl⟩ := hrel
      have HL : Hid (lowN zs k = lowN zs n) := hl
      clear hl
      match k, hk, HL with
      | 0, hk, HL =>
        clear hc
        go_wp2
        go_ret
        exact ⟨ret_int (by rw [← HL.out]; simp [lowN]), rfl⟩
      | k + 1, hk, HL =>
        have hck := hc k (by omega)
        by_cases hz : zs.getD k 0 = 0
        · rw [hz] at hck
          have HZ : Hid (zs.getD k 0 = 0) := hz
          clear hz hc
          go_wp2
          go_round
          case rel => exact ⟨k, by omega, by go_num, by rw [← lowN_zero HZ.out]; exact HL.out⟩
          case measure => simp [intOf]
        · have HZ : Hid (zs.getD k 0 ≠ 0) := hz
          generalize zs.getD k 0 = z at hck hz
          have hz' : (z == 0) = false := by simpa using hz
          clear hz hc
          go_wp2
          go_ret
          exact ⟨ret_int (by rw [← HL.out, lowN_keep HZ.out]; rfl), rfl⟩
end Go.Proofs.YtbcfplaalepnbaaGreatDoor
namespace Go.Proofs.YtbcfplaalepnbaaGreatDoor
open Go.RowKit
theorem infoU32 : (Tryz.prog.info? 84).map (fun i => (i.zero, i.size, i.bytes)) = some (some (.int .u32 0), 1, 4) := by kernel_rfl
def IsWords (w : World) (v : Value) (zs : List Int) : Prop :=
  (v = .slice none 0 0 ∧ zs = []) ∨ ∃ x cap, v = .slice (some x) zs.length cap ∧ zs.length ≤ cap ∧ cap ≤ maxLen ∧ ∀ i, i < zs.length → w.cell? (x.add i) = some (.int .u32 (zs.getD i 0))
def Own (W w : World) (v : Value) (n : Nat) (xs : List Int) : Prop :=
  w.ownsRow W.heap.size 84 1 v n (xs.map (Value.int .u32)) ∧ Below W.heap.size W w
theorem Own.length {W w : World} {v : Value} {n : Nat} {xs : List Int} (h : Own W w v n xs) : xs.length = n := by
  have := h.1.1; simpa using this
theorem Own.words {W w : World} {v : Value} {n : Nat} {xs : List Int} (h : Own W w v n xs) : IsWords w v xs := by
  have hl := h.length
  rcases h.1.2 with ⟨rfl, rfl⟩ | ⟨g, cap, cur, rfl, -, hg, hnc, hcm, -, -⟩
  · exact .inl ⟨rfl, List.eq_nil_of_length_eq_zero hl⟩
  · refine .inr ⟨⟨g, 0, none⟩, cap, by rw [hl], by omega, hcm, fun i hi => ?_⟩
    refine h.1.cells (g := g) rfl i _ ?_
    simp [hi]
theorem IsWords.below {w w' : World} {v : Value} {zs : List Int} (h : IsWords w v zs) (hb : Below w.heap.size w w') : IsWords w' v zs := by
  rcases h with h | ⟨x, cap, rfl, h1, h2, hc⟩
  · exact .inl h
  · refine .inr ⟨x, cap, rfl, h1, h2, fun i hi => ?_⟩
    have hci := hc i hi
    rw [hb.cell (p := x.add i) (World.block_lt_of_cell? w _ hci)]
    exact hci
theorem IsWords.lit {w : World} {v : Value} {zs : List Int} (h : IsWords w v zs) : ∃ a c, v = .slice a zs.length c := by
  rcases h with ⟨rfl, rfl⟩ | ⟨x, cap, rfl, -⟩
  · exact ⟨none, 0, rfl⟩
  · exact ⟨_, _, rfl⟩
theorem Own.lit {W w : World} {v : Value} {n : Nat} {xs : List Int} (h : Own W w v n xs) : ∃ a c, v = .slice a n c := by
  obtain ⟨a, c, e⟩ := h.words.lit
  exact ⟨a, c, by rw [e, h.length]⟩
theorem Own.below {W w : World} {v : Value} {n : Nat} {xs : List Int} (h : Own W w v n xs) : Below W.heap.size W w := h.2
theorem oneCells (ys : List Int) : ∀ u ∈ ys.map (Value.int .u32), u.oneCell' = true := by
  intro u hu
  obtain ⟨y, -, rfl⟩ := List.mem_map.1 hu
  rfl
theorem below_grown {W w w' : World} {v : Value} {n : Nat} {xs : List Int} (h : Own W w v n xs) (hg : w.grownBy w' v.ownBlock) : Below W.heap.size W w' :=
  h.2.grown hg h.2.size (fun k hk => (h.1.lt k hk).1)
theorem wpl_append_words {ops : Array Oper} {rest : List Oper} {o : Oper} {a : Act} {Q : Exit → Act → World → Prop} (s x : Operand)
    (ho : o.op = .call { callee := .builtin .append, args := #[s, x], argTypes := #[40, 40] }) (hgd : Region.wanted o (yielded ops a.tmps) = true)
    (W w : World) (v vx : Value) (n m : Nat) (xs ys : List Int) (hs : a.eval s = v) (hx : a.eval x = vx) (hown : Own W w v n xs) (hsrc : IsWords w vx ys) (hm : ys.length = m) (N : Nat) (hN : n + m = N) (hle : N ≤ 35184372088832)
    (h : ∀ a' c' w', Own W w' (.slice a' N c') N (xs ++ ys) → w.grownBy w' v.ownBlock → wpList Tryz.prog ops Q rest (a.put o.dst (.slice a' N c')) w') : wpList Tryz.prog ops Q (o :: rest) a w := by
  subst hN
  obtain ⟨i, hi, hz, hs1, hby⟩ := info_parts infoU32
  have hmax : n + m ≤ maxLen := by unfold maxLen; omega
  refine wpList_step fun K hK => ?_
  rw [if_pos hgd]
  rcases hsrc with ⟨rfl, rfl⟩ | ⟨ad, c, rfl, -, -, hc⟩
  · have hrun := run_append_owned_none (P := Tryz.prog) (w := w) W.heap.size 40 o.type 84 i 1 Tryz.underlying40 hi v n _ hown.1
    obtain ⟨a', c', rfl⟩ := hown.lit
    subst hm
    have hK' := hK _ _ (h a' c' w (by simpa using hown) ⟨rfl, rfl, rfl, Nat.le_refl _, fun _ _ _ => rfl⟩)
    unfold Oper.wp
    simp [execOp, ho, resolve, invoke, builtin, hs, hx, hrun, Result.andThen]
    have hK2 : K (a.put o.dst (.slice a' n c')) w := by simpa using hK'
    exact hK2
  · refine wp_append_own (P := Tryz.prog) w s x 40 ho W.heap.size 84 i (.int .u32 0) 1 4 Tryz.underlying40 hi hz hs1 hby rfl (by decide) v n _ hs hown.1 ad ys.length c (ys.map (Value.int .u32)) hx (by simp) ?_ (oneCells ys) (by omega) (by omega) hown.2.size ?_
    · intro j u hj
      rw [List.getElem?_map] at hj
      obtain ⟨y, hy, rfl⟩ := Option.map_eq_some_iff.1 hj
      have hlt : j < ys.length := (List.getElem?_eq_some_iff.1 hy).1
      rw [hc j hlt]
      simp [List.getD_eq_getElem?_getD, hy]
    · intro v' w' h1 h2 _
      subst hm
      have hnew : Own W w' v' (n + ys.length) (xs ++ ys) := ⟨by rw [List.map_append]; exact h1, below_grown hown h2⟩
      obtain ⟨a', c', rfl⟩ := hnew.lit
      exact hK _ _ (h a' c' w' hnew h2)
theorem Own.alloc {W w : World} {v : Value} {n : Nat} {xs : List Int} (h : Own W w v n xs) (o : Obj) : Own W (w.alloc o) v n xs := ⟨h.1.alloc o, h.2.alloc h.2.size o⟩
theorem Own.drew {W w : World} {v : Value} {n : Nat} {xs : List Int} (h : Own W w v n xs) : Own W w.drew v n xs := ⟨h.1, h.2.drew⟩
theorem lit_words (w : World) (xs : List Int) (n : Nat) (hn : xs.length = n) (hm : n ≤ maxLen) :
    IsWords (w.alloc (.cells (xs.map (Value.int .u32)).toArray 84)) (.slice (some ⟨w.heap.size, 0, none⟩) n n) xs := by
  refine .inr ⟨_, n, by rw [hn], by omega, hm, fun i hi => ?_⟩
  rw [Go.WideShapes.add_plain]
  simp [hi]
theorem own_lit (W w : World) (xs : List Int) (n : Nat) (hb : Below W.heap.size W w) (hn : xs.length = n) (hm : n ≤ maxLen) :
    Own W (w.alloc (.cells (xs.map (Value.int .u32)).toArray 84)) (.slice (some ⟨w.heap.size, 0, none⟩) n n) n xs :=
  ⟨by simpa using World.ownsRow_lit (base := W.heap.size) (e := 84) (size := 1) w (xs.map (Value.int .u32)).toArray n hb.size hm (by simp [hn]), hb.alloc hb.size _⟩
end Go.Proofs.YtbcfplaalepnbaaGreatDoor
namespace Go.Proofs.YtbcfplaalepnbaaGreatDoor
open Go.RowKit
def CameIn (k : IntKind) (w : World) (a : Option Addr) (len cap : Nat) (zs : List Int) : Prop :=
  (a = none ∧ len = 0 ∧ cap = 0 ∧ zs = []) ∨
  ∃ x, a = some x ∧ len ≤ cap ∧ cap ≤ maxLen ∧ zs.length = cap ∧ (∀ i, i < zs.length → w.cell? (x.add i) = some (.int k (zs.getD i 0))) ∧ ∀ n ∈ zs, (Lit.int k n).wf = true
theorem came_reads {k : IntKind} {w : World} {a : Option Addr} {len cap : Nat} {zs : List Int} (h : CameIn k w a len cap zs) :
    Reads k w a len (zs.take len) ∧ len ≤ 9223372036854775807 ∧ len ≤ cap ∧ ∀ n ∈ zs.take len, (Lit.int k n).wf = true := by
  rcases h with ⟨rfl, rfl, rfl, rfl⟩ | ⟨x, rfl, hl, hm, hz, hc, hw⟩
  · exact ⟨⟨rfl, .inl rfl⟩, by omega, by omega, by simp⟩
  · refine ⟨⟨by simp; omega, ?_⟩, by unfold maxLen at hm; omega, hl, fun n hn => hw n (List.mem_of_mem_take hn)⟩
    by_cases h0 : len = 0
    · exact .inl h0
    · obtain ⟨b, off, rfl, hc'⟩ := Go.ints_at hc (by omega)
      refine .inr ⟨b, off, rfl, fun i hi => ?_⟩
      rw [hc' i (by omega)]
      simp [List.getD_eq_getElem?_getD, hi]
theorem IsWords.reads {w : World} {a : Option Addr} {n c : Nat} {zs : List Int} (h : IsWords w (.slice a n c) zs) : Reads .u32 w a n zs ∧ n ≤ 9223372036854775807 := by
  rcases h with ⟨e, rfl⟩ | ⟨x, cap, e, h1, h2, hc⟩
  · simp only [Value.slice.injEq] at e
    obtain ⟨rfl, rfl, rfl⟩ := e
    exact ⟨⟨rfl, .inl rfl⟩, by omega⟩
  · simp only [Value.slice.injEq] at e
    obtain ⟨rfl, rfl, rfl⟩ := e
    refine ⟨⟨rfl, ?_⟩, by unfold maxLen at h2; omega⟩
    by_cases h0 : zs.length = 0
    · exact .inl h0
    · obtain ⟨b, off, rfl, hc'⟩ := Go.ints_at hc (by omega)
      exact .inr ⟨b, off, rfl, hc'⟩
theorem limb_low_words (a : Option Addr) (n cap : Nat) (zs : List Int) (w : World) (h : IsWords w (.slice a n cap) zs) :
    Calls Tryz.prog 165 #[.slice a n cap] w fun e w' => e = .returned (.int .i64 (lowN zs n)) ∧ w = w' :=
  limb_low a n cap zs w h.reads.1 h.reads.2
theorem lowN_top (zs : List Int) : ∀ n, lowN zs n = 0 ∨ zs.getD (lowN zs n - 1) 0 ≠ 0
  | 0 => .inl rfl
  | n + 1 => by
    by_cases h : zs.getD n 0 = 0
    · rw [lowN_zero h]; exact lowN_top zs n
    · rw [lowN_keep h]; exact .inr (by simpa using h)
end Go.Proofs.YtbcfplaalepnbaaGreatDoor
namespace Go.Proofs.YtbcfplaalepnbaaGreatDoor
def val : List Int → Nat
  | [] => 0
  | z :: zs => z.toNat + 4294967296 * val zs
def Wd (zs : List Int) : Prop := ∀ z ∈ zs, 0 ≤ z ∧ z < 4294967296
def natOf (n : Nat) : List Int := if h : n = 0 then [] else ((n % 4294967296 : Nat) : Int) :: natOf (n / 4294967296)
def nl (n : Nat) : Nat := (natOf n).length
def nbits (n : Nat) : Nat := if h : n = 0 then 0 else 1 + nbits (n / 2)
theorem natOf_zero : natOf 0 = [] := by rw [natOf]; simp
theorem natOf_pos {n : Nat} (h : n ≠ 0) : natOf n = ((n % 4294967296 : Nat) : Int) :: natOf (n / 4294967296) := by rw [natOf]; simp [h]
theorem val_natOf (n : Nat) : val (natOf n) = n := by
  induction n using Nat.strongRecOn with
  | _ n ih =>
    by_cases h : n = 0
    · rw [h, natOf_zero]; rfl
    · rw [natOf_pos h, val, ih (n / 4294967296) (by omega)]; omega
theorem wd_nil : Wd [] := by intro z hz; simp at hz
theorem wd_cons {z : Int} {zs : List Int} (h : Wd (z :: zs)) : 0 ≤ z ∧ z < 4294967296 ∧ Wd zs :=
  ⟨(h z (by simp)).1, (h z (by simp)).2, fun y hy => h y (by simp [hy])⟩
theorem wd_cons' {z : Int} {zs : List Int} (h0 : 0 ≤ z) (h1 : z < 4294967296) (h : Wd zs) : Wd (z :: zs) := by
  intro y hy
  rcases List.mem_cons.1 hy with rfl | hy
  · exact ⟨h0, h1⟩
  · exact h y hy
theorem wd_append {a b : List Int} (ha : Wd a) (hb : Wd b) : Wd (a ++ b) := by
  intro z hz
  rcases List.mem_append.1 hz with h | h
  · exact ha z h
  · exact hb z h
theorem wd_take {a : List Int} (ha : Wd a) (k : Nat) : Wd (a.take k) := fun z hz => ha z (List.mem_of_mem_take hz)
theorem wd_drop {a : List Int} (ha : Wd a) (k : Nat) : Wd (a.drop k) := fun z hz => ha z (List.mem_of_mem_drop hz)
theorem wd_zeros (k : Nat) : Wd (List.replicate k 0) := fun z hz => by rw [List.eq_of_mem_replicate hz]; omega
theorem wd_set {a : List Int} (ha : Wd a) (k : Nat) {y : Int} (h0 : 0 ≤ y) (h1 : y < 4294967296) : Wd (a.set k y) := by
  intro z hz
  rcases List.mem_or_eq_of_mem_set hz with h | rfl
  · exact ha z h
  · exact ⟨h0, h1⟩
theorem wd_one {z : Int} (h0 : 0 ≤ z) (h1 : z < 4294967296) : Wd [z] := wd_cons' h0 h1 wd_nil
theorem wd_getD {a : List Int} (ha : Wd a) (k : Nat) : 0 ≤ a.getD k 0 ∧ a.getD k 0 < 4294967296 := by
  by_cases h : k < a.length
  · have : a.getD k 0 = a[k] := by simp [List.getD_eq_getElem?_getD, h]
    rw [this]; exact ha _ (List.getElem_mem h)
  · have : a.getD k 0 = 0 := by simp [List.getD_eq_getElem?_getD, List.getElem?_eq_none (Nat.le_of_not_lt h)]
    rw [this]; omega
theorem wd_natOf (n : Nat) : Wd (natOf n) := by
  induction n using Nat.strongRecOn with
  | _ n ih =>
    by_cases h : n = 0
    · rw [h, natOf_zero]; exact wd_nil
    · rw [natOf_pos h]; exact wd_cons' (by omega) (by omega) (ih _ (by omega))
theorem lowN_cons (z : Int) (zs : List Int) : ∀ n, lowN (z :: zs) (n + 1) = if lowN zs n = 0 then (if z = 0 then 0 else 1) else lowN zs n + 1
  | 0 => by simp [lowN]
  | n + 1 => by
    have ih := lowN_cons z zs n
    have e : (z :: zs).getD (n + 1) 0 = zs.getD n 0 := by simp [List.getD_eq_getElem?_getD]
    by_cases h : zs.getD n 0 = 0
    · rw [lowN_zero (n := n + 1) (by rw [e]; exact h), lowN_zero h, ih]
    · rw [lowN_keep (n := n + 1) (by rw [e]; exact h), lowN_keep h]; simp
theorem natOf_val (zs : List Int) (h : Wd zs) : natOf (val zs) = zs.take (lowN zs zs.length) := by
  induction zs with
  | nil => simp [val, natOf_zero]
  | cons z zs ih =>
    obtain ⟨h0, h1, hz⟩ := wd_cons h
    have e := ih hz
    have hle := lowN_le zs zs.length
    rw [List.length_cons, lowN_cons]
    by_cases hl : lowN zs zs.length = 0
    · have hv : val zs = 0 := by rw [← val_natOf (val zs), e, hl]; rfl
      rw [if_pos hl]
      by_cases hz0 : z = 0
      · rw [if_pos hz0]; simp [val, hv, hz0, natOf_zero]
      · rw [if_neg hz0]
        have hn : z.toNat ≠ 0 := by omega
        have e1 : val (z :: zs) = z.toNat := by simp [val, hv]
        rw [e1, natOf_pos hn, show z.toNat / 4294967296 = 0 by omega, natOf_zero]
        simp; omega
    · have hv : val zs ≠ 0 := by
        intro hv
        rw [hv, natOf_zero] at e
        have := congrArg List.length e
        simp [List.length_take] at this
        omega
      rw [if_neg hl]
      have hn : val (z :: zs) ≠ 0 := by simp only [val]; omega
      rw [natOf_pos hn, List.take_succ_cons]
      have e1 : val (z :: zs) % 4294967296 = z.toNat := by simp only [val]; omega
      have e2 : val (z :: zs) / 4294967296 = val zs := by simp only [val]; omega
      rw [e1, e2, e]
      congr 1; omega
theorem nl_val (zs : List Int) (h : Wd zs) : nl (val zs) = lowN zs zs.length := by
  unfold nl; rw [natOf_val zs h, List.length_take]; have := lowN_le zs zs.length; omega
theorem nl_val_le (zs : List Int) (h : Wd zs) : nl (val zs) ≤ zs.length := by rw [nl_val zs h]; exact lowN_le _ _
theorem val_take_low (zs : List Int) (h : Wd zs) : val (zs.take (lowN zs zs.length)) = val zs := by rw [← natOf_val zs h, val_natOf]
theorem natOf_take (zs : List Int) (h : Wd zs) : natOf (val zs) = zs.take (nl (val zs)) := by rw [nl_val zs h]; exact natOf_val zs h
theorem val_lt (zs : List Int) (h : Wd zs) : val zs < 4294967296 ^ zs.length := by
  induction zs with
  | nil => simp [val]
  | cons z zs ih =>
    obtain ⟨h0, h1, hz⟩ := wd_cons h
    have := ih hz
    rw [List.length_cons, Nat.pow_succ, val]
    generalize 4294967296 ^ zs.length = p at this
    omega
theorem nl_zero : nl 0 = 0 := by unfold nl; rw [natOf_zero]; rfl
theorem nl_le : ∀ (k n : Nat), n < 4294967296 ^ k → nl n ≤ k
  | 0, n, h => by rw [Nat.pow_zero] at h; rw [show n = 0 by omega, nl_zero]; omega
  | k + 1, n, h => by
    by_cases h0 : n = 0
    · rw [h0, nl_zero]; omega
    · unfold nl
      rw [natOf_pos h0, List.length_cons]
      have : nl (n / 4294967296) ≤ k := nl_le k _ (by rw [Nat.pow_succ] at h; generalize 4294967296 ^ k = p at h ⊢; omega)
      unfold nl at this; omega
theorem lt_nl (n : Nat) : n < 4294967296 ^ nl n := by
  have := val_lt (natOf n) (wd_natOf n)
  rw [val_natOf] at this; exact this
theorem nl_mono {a b : Nat} (h : a ≤ b) : nl a ≤ nl b := nl_le _ _ (Nat.lt_of_le_of_lt h (lt_nl b))
theorem lt_of_nl {a b : Nat} (h : nl a < nl b) : a < b := by
  rcases Nat.lt_or_ge a b with h1 | h1
  · exact h1
  · have := nl_mono h1; omega
theorem val_append (a b : List Int) : val (a ++ b) = val a + 4294967296 ^ a.length * val b := by
  induction a with
  | nil => simp [val]
  | cons z a ih =>
    rw [List.cons_append, val, val, ih, List.length_cons, Nat.pow_succ, Nat.mul_comm (4294967296 ^ a.length) 4294967296, Nat.mul_assoc, Nat.mul_add]
    omega
theorem val_snoc (a : List Int) (z : Int) : val (a ++ [z]) = val a + z.toNat * 4294967296 ^ a.length := by
  rw [val_append]; simp [val, Nat.mul_comm]
theorem val_zeros (k : Nat) : val (List.replicate k 0) = 0 := by
  induction k with
  | zero => rfl
  | succ k ih => rw [List.replicate_succ, val, ih]; rfl
theorem val_append_zeros (a : List Int) (k : Nat) : val (a ++ List.replicate k 0) = val a := by rw [val_append, val_zeros]; simp
theorem val_split (a : List Int) (m : Nat) : val a = val (a.take m) + 4294967296 ^ m * val (a.drop m) := by
  by_cases h : m ≤ a.length
  · have := val_append (a.take m) (a.drop m)
    rw [List.take_append_drop, List.length_take, Nat.min_eq_left h] at this
    exact this
  · rw [List.take_of_length_le (by omega), List.drop_eq_nil_of_le (by omega)]; simp [val]
theorem val_drop (a : List Int) (m : Nat) : val (a.drop m) = (a.getD m 0).toNat + 4294967296 * val (a.drop (m + 1)) := by
  by_cases h : m < a.length
  · rw [List.drop_eq_getElem_cons h, val]; simp [List.getD_eq_getElem?_getD, h]
  · rw [List.drop_eq_nil_of_le (by omega), List.drop_eq_nil_of_le (by omega)]
    simp [val, List.getD_eq_getElem?_getD, List.getElem?_eq_none (Nat.le_of_not_lt h)]
theorem val_take_succ (a : List Int) (k : Nat) : val (a.take (k + 1)) = val (a.take k) + (a.getD k 0).toNat * 4294967296 ^ k := by
  by_cases h : k < a.length
  · rw [List.take_succ_eq_append_getElem h, val_snoc, List.length_take, Nat.min_eq_left (by omega)]
    simp [List.getD_eq_getElem?_getD, h]
  · rw [List.take_of_length_le (by omega), List.take_of_length_le (by omega)]
    simp [List.getD_eq_getElem?_getD, List.getElem?_eq_none (Nat.le_of_not_lt h)]
theorem val_set : ∀ (a : List Int) (k : Nat) (y : Int), k < a.length → val (a.set k y) + (a.getD k 0).toNat * 4294967296 ^ k = val a + y.toNat * 4294967296 ^ k
  | [], k, y, h => by simp at h
  | z :: a, 0, y, h => by simp [val]; omega
  | z :: a, k + 1, y, h => by
    have ih := val_set a k y (by simpa using h)
    have e : (z :: a).getD (k + 1) 0 = a.getD k 0 := by simp [List.getD_eq_getElem?_getD]
    rw [List.set_cons_succ, val, val, e, Nat.pow_succ, ← Nat.mul_assoc, ← Nat.mul_assoc]
    generalize (a.getD k 0).toNat * 4294967296 ^ k = p at ih ⊢
    generalize y.toNat * 4294967296 ^ k = q at ih ⊢
    omega
theorem val_take_lt (a : List Int) (h : Wd a) (m : Nat) : val (a.take m) < 4294967296 ^ m := by
  have h1 := val_lt (a.take m) (wd_take h m)
  exact Nat.lt_of_lt_of_le h1 (Nat.pow_le_pow_right (by omega) (by rw [List.length_take]; omega))
theorem val_take_all (a : List Int) (m : Nat) (hm : val a < 4294967296 ^ m) : val (a.take m) = val a := by
  have h1 := val_split a m
  have : val (a.drop m) = 0 := by
    rcases Nat.eq_zero_or_pos (val (a.drop m)) with h | h
    · exact h
    · have := Nat.mul_le_mul_left (4294967296 ^ m) h
      omega
  rw [this] at h1; omega
theorem val_decides (a b : List Int) (ha : Wd a) (m : Nat) (hd : val (a.drop (m + 1)) = val (b.drop (m + 1))) (hm : a.getD m 0 < b.getD m 0) : val a < val b := by
  have h1 := val_split a m
  have h2 := val_split b m
  have h3 := val_take_lt a ha m
  have h4 := (wd_getD ha m).1
  rw [val_drop, hd] at h1
  rw [val_drop b m] at h2
  have h5 : (a.getD m 0).toNat + 4294967296 * val (b.drop (m + 1)) + 1 ≤ (b.getD m 0).toNat + 4294967296 * val (b.drop (m + 1)) := by omega
  have h6 := Nat.mul_le_mul_left (4294967296 ^ m) h5
  rw [Nat.mul_add, Nat.mul_one] at h6
  omega
theorem sub_step {p : Nat} {S S' A B x y b c c' : Nat} (hs : S' + x * p = S + y * p) (hi : S + B = A + c * p) (hy : y + b + c = x + 4294967296 * c') :
    S' + (B + b * p) = A + c' * (p * 4294967296) := by
  have e : (y + b + c) * p = (x + 4294967296 * c') * p := by rw [hy]
  rw [Nat.add_mul, Nat.add_mul, Nat.add_mul] at e
  have e2 : c' * (p * 4294967296) = 4294967296 * c' * p := by rw [Nat.mul_comm p, ← Nat.mul_assoc, Nat.mul_comm c']
  rw [e2]; omega
theorem nbits_zero : nbits 0 = 0 := by rw [nbits]; simp
theorem nbits_pos {n : Nat} (h : n ≠ 0) : nbits n = 1 + nbits (n / 2) := by rw [nbits]; simp [h]
theorem nbits_shift : ∀ (k x : Nat), 2 ^ k ≤ x → nbits x = k + nbits (x / 2 ^ k)
  | 0, x, _ => by simp
  | k + 1, x, h => by
    rw [Nat.pow_succ] at h
    have h2 : 2 ^ k ≤ x / 2 := by generalize 2 ^ k = p at h ⊢; omega
    have hp : 0 < 2 ^ k := Nat.pow_pos (by omega)
    rw [nbits_pos (by omega), nbits_shift k (x / 2) h2, Nat.div_div_eq_div_mul, Nat.pow_succ, Nat.mul_comm 2]
    omega
theorem nbits_bitLen (x : Nat) (h : x < 18446744073709551616) : Lib.bitLen x = nbits x := by
  induction x using Nat.strongRecOn with
  | _ x ih =>
    by_cases h0 : x = 0
    · rw [h0, nbits_zero]; rfl
    · rw [nbits_pos h0, Lib.bitLen_half x h0 h, ih (x / 2) (by omega) (by omega)]
theorem lt_nbits (n : Nat) : n < 2 ^ nbits n := by
  induction n using Nat.strongRecOn with
  | _ n ih =>
    by_cases h0 : n = 0
    · rw [h0]; exact Nat.pow_pos (by omega)
    · have := ih (n / 2) (by omega)
      rw [nbits_pos h0, Nat.pow_add]
      generalize 2 ^ nbits (n / 2) = p at this
      omega
theorem nbits_le : ∀ (k n : Nat), n < 2 ^ k → nbits n ≤ k
  | 0, n, h => by rw [Nat.pow_zero] at h; rw [show n = 0 by omega, nbits_zero]; omega
  | k + 1, n, h => by
    by_cases h0 : n = 0
    · rw [h0, nbits_zero]; omega
    · rw [nbits_pos h0]
      have := nbits_le k (n / 2) (by rw [Nat.pow_succ] at h; generalize 2 ^ k = p at h ⊢; omega)
      omega
theorem pow_word (k : Nat) : 4294967296 ^ k = 2 ^ (32 * k) := by rw [Nat.pow_mul]
theorem nbits_top (zs : List Int) (h : Wd zs) (k : Nat) (hk : lowN zs zs.length = k + 1) : nbits (val zs) = 32 * k + nbits (zs.getD k 0).toNat := by
  have hl := lowN_le zs zs.length
  have h0 : val zs = val (zs.take (k + 1)) := by rw [← hk, val_take_low zs h]
  have h1 := val_take_succ zs k
  have h2 := val_take_lt zs h k
  have h3 : zs.getD k 0 ≠ 0 := by
    rcases lowN_top zs zs.length with h | h
    · omega
    · rw [hk] at h; simpa using h
  have h4 := (wd_getD h k).1
  have hp : 0 < 4294967296 ^ k := Nat.pow_pos (by omega)
  have h5 : 1 * 4294967296 ^ k ≤ (zs.getD k 0).toNat * 4294967296 ^ k := Nat.mul_le_mul_right _ (by omega)
  have e : val zs / 4294967296 ^ k = (zs.getD k 0).toNat := by
    rw [h0, h1, Nat.add_mul_div_right _ _ hp, Nat.div_eq_of_lt h2]; omega
  rw [nbits_shift (32 * k) (val zs) (by rw [← pow_word]; omega), ← pow_word, e]
theorem nl_pos {A : Nat} (h : 0 < A) : 0 < nl A := by
  rcases Nat.eq_zero_or_pos (nl A) with h0 | h0
  · have := lt_nl A; rw [h0] at this; omega
  · exact h0
end Go.Proofs.YtbcfplaalepnbaaGreatDoor
namespace Go.Proofs.YtbcfplaalepnbaaGreatDoor
open Go.RowKit
theorem IsWords.len {w : World} {a : Option Addr} {n c : Nat} {zs : List Int} (h : IsWords w (.slice a n c) zs) : zs.length = n := h.reads.1.1
theorem IsWords.cap {w : World} {a : Option Addr} {n c : Nat} {zs : List Int} (h : IsWords w (.slice a n c) zs) : n ≤ c ∧ c ≤ 9223372036854775807 := by
  rcases h with ⟨e, rfl⟩ | ⟨x, cap, e, h1, h2, -⟩
  · simp only [Value.slice.injEq] at e; omega
  · simp only [Value.slice.injEq] at e; unfold maxLen at h2; omega
theorem IsWords.take {w : World} {a : Option Addr} {n c : Nat} {zs : List Int} (h : IsWords w (.slice a n c) zs) (k : Nat) (hk : k ≤ n) : IsWords w (.slice a k c) (zs.take k) := by
  have hl := h.len
  rcases h with ⟨e, rfl⟩ | ⟨x, cap, e, h1, h2, hc⟩
  · simp only [Value.slice.injEq] at e
    obtain ⟨rfl, rfl, rfl⟩ := e
    obtain rfl : k = 0 := by omega
    exact .inl ⟨rfl, rfl⟩
  · simp only [Value.slice.injEq] at e
    obtain ⟨rfl, rfl, rfl⟩ := e
    have e2 : (zs.take k).length = k := by rw [List.length_take]; omega
    refine .inr ⟨x, c, by rw [e2], by omega, h2, fun i hi => ?_⟩
    rw [e2] at hi
    rw [hc i (by omega)]
    simp [List.getD_eq_getElem?_getD, hi]
theorem Own.take {W w : World} {a : Option Addr} {n c : Nat} {xs : List Int} (h : Own W w (.slice a n c) n xs) (k : Nat) (hk : k ≤ n) : Own W w (.slice a k c) k (xs.take k) := by
  have hl := h.length
  refine ⟨⟨?_, ?_⟩, h.2⟩
  · simp [List.length_take]; omega
  · rcases h.1.2 with ⟨e, rfl⟩ | ⟨g, cap, cur, e, hb, hg, hnc, hcm, hcs, ht⟩
    · simp only [Value.slice.injEq] at e
      obtain ⟨rfl, -, rfl⟩ := e
      obtain rfl : k = 0 := by omega
      exact .inl ⟨rfl, rfl⟩
    · simp only [Value.slice.injEq] at e
      obtain ⟨rfl, -, rfl⟩ := e
      refine .inr ⟨g, c, cur, rfl, hb, hg, by omega, hcm, hcs, ?_⟩
      rw [Nat.mul_one] at ht ⊢
      rw [List.map_take, ← ht, List.take_take, Nat.min_eq_left hk]
theorem nat_right (a : Option Addr) (n c : Nat) (zs : List Int) (w : World) (h : IsWords w (.slice a n c) zs) (L : Nat) (hL : lowN zs n = L) :
    Calls Tryz.prog 184 #[.slice a n c] w fun e w' => e = .returned (.slice a L c) ∧ w = w' := by
  have hle : L ≤ n := by rw [← hL]; exact lowN_le _ _
  have hcap := h.cap
  have C := limb_low_words a n c zs w h
  rw [hL] at C
  have h1 : (0 : Int) ≤ L := by omega
  have h2 : (L : Int) ≤ c := by omega
  have hs : a = none → L = 0 ∧ c = 0 := by
    rintro rfl
    rcases h with ⟨e, rfl⟩ | ⟨x, cap, e, -⟩
    · simp only [Value.slice.injEq] at e; omega
    · simp at e
  clear h hL
  rcases a with _ | x
  · obtain ⟨rfl, rfl⟩ := hs rfl
    go_enter Tryz.func184, Tryz.ntmps184
    go_wp2_with (go_at_call 165; with_reducible refine Calls.mono C ?_; rintro e w1 ⟨rfl, rfl⟩)
    go_ret
    exact ⟨rfl, rfl⟩
  · clear hs
    go_enter Tryz.func184, Tryz.ntmps184
    go_wp2_with (go_at_call 165; with_reducible refine Calls.mono C ?_; rintro e w1 ⟨rfl, rfl⟩)
    go_ret
    exact ⟨rfl, rfl⟩
theorem nat_word (a : Option Addr) (n c : Nat) (zs : List Int) (w : World) (h : IsWords w (.slice a n c) zs) (k : Nat) (hk : k ≤ 9223372036854775807) (z : Int) (hz : zs.getD k 0 = z) :
    Calls Tryz.prog 251 #[.slice a n c, .int .i64 k] w fun e w' => e = .returned (.int .u32 z) ∧ w = w' := by
  obtain ⟨⟨hl, hr⟩, hn⟩ := h.reads
  by_cases hlt : k < n
  · rcases hr with h0 | ⟨b, off, rfl, hc⟩
    · omega
    · have hck := hc k hlt
      rw [hz] at hck
      clear hc hz h
      go_enter Tryz.func251, Tryz.ntmps251
      go_wp2
      go_ret
      exact ⟨rfl, rfl⟩
  · have : z = 0 := by rw [← hz]; simp [List.getD_eq_getElem?_getD, List.getElem?_eq_none (by omega : zs.length ≤ k)]
    subst this
    clear h hr hz
    go_enter Tryz.func251, Tryz.ntmps251
    go_wp2
    go_ret
    exact ⟨rfl, rfl⟩
theorem ret_bool {a b : Bool} (h : a = b) : Ending.returned (.bool a) = .returned (.bool b) := by rw [h]
theorem nat_Right (a : Option Addr) (n c : Nat) (zs : List Int) (w : World) (h : IsWords w (.slice a n c) zs) (r : Bool) (hr : decide (lowN zs n = n) = r) :
    Calls Tryz.prog 154 #[.slice a n c] w fun e w' => e = .returned (.bool r) ∧ w = w' := by
  have C := limb_low_words a n c zs w h
  have hle := lowN_le zs n
  have hn := h.reads.2
  clear h
  generalize lowN zs n = L at C hle hr
  subst hr
  go_enter Tryz.func154, Tryz.ntmps154
  go_wp2_with (go_at_call 165; with_reducible refine Calls.mono C ?_; rintro e w1 ⟨rfl, rfl⟩)
  go_ret
  exact ⟨ret_bool (by rw [Bool.eq_iff_iff]; simp; omega), rfl⟩
def sgn (a b : Int) : Int := if a < b then -1 else if b < a then 1 else 0
theorem sgn_lt {a b : Int} (h : a < b) : sgn a b = -1 := by unfold sgn; rw [if_pos h]
theorem sgn_gt {a b : Int} (h : b < a) : sgn a b = 1 := by unfold sgn; rw [if_neg (by omega), if_pos h]
theorem sgn_eq {a b : Int} (h : a = b) : sgn a b = 0 := by unfold sgn; rw [if_neg (by omega), if_neg (by omega)]
theorem nan_int (a : Int) (w : World) : Calls Tryz.prog 203 #[.int .i64 a] w fun e w' => e = .returned (.bool false) ∧ w = w' := by
  go_enter Tryz.func203, Tryz.ntmps203
  go_wp2
  go_ret
  exact ⟨by simp, rfl⟩
theorem nan_u32 (a : Int) (w : World) : Calls Tryz.prog 204 #[.int .u32 a] w fun e w' => e = .returned (.bool false) ∧ w = w' := by
  go_enter Tryz.func204, Tryz.ntmps204
  go_wp2
  go_ret
  exact ⟨by simp, rfl⟩
theorem compare_int (a b : Int) (w : World) : Calls Tryz.prog 185 #[.int .i64 a, .int .i64 b] w fun e w' => e = .returned (.int .i64 (sgn a b)) ∧ w = w' := by
  rcases Int.lt_trichotomy a b with h | h | h
  · go_enter Tryz.func185, Tryz.ntmps185
    go_wp2_with (go_at_call 203; refine (nan_int _ _).mono ?_; rintro e w1 ⟨rfl, rfl⟩)
    go_ret
    exact ⟨ret_int (sgn_lt h).symm, rfl⟩
  · subst h
    go_enter Tryz.func185, Tryz.ntmps185
    go_wp2_with (go_at_call 203; refine (nan_int _ _).mono ?_; rintro e w1 ⟨rfl, rfl⟩)
    go_ret
    exact ⟨ret_int (sgn_eq rfl).symm, rfl⟩
  · have h' : ¬ a < b := by omega
    go_enter Tryz.func185, Tryz.ntmps185
    go_wp2_with (go_at_call 203; refine (nan_int _ _).mono ?_; rintro e w1 ⟨rfl, rfl⟩)
    go_ret
    exact ⟨ret_int (sgn_gt h).symm, rfl⟩
theorem compare_u32 (a b : Int) (w : World) : Calls Tryz.prog 186 #[.int .u32 a, .int .u32 b] w fun e w' => e = .returned (.int .i64 (sgn a b)) ∧ w = w' := by
  rcases Int.lt_trichotomy a b with h | h | h
  · go_enter Tryz.func186, Tryz.ntmps186
    go_wp2_with (go_at_call 204; refine (nan_u32 _ _).mono ?_; rintro e w1 ⟨rfl, rfl⟩)
    go_ret
    exact ⟨ret_int (sgn_lt h).symm, rfl⟩
  · subst h
    go_enter Tryz.func186, Tryz.ntmps186
    go_wp2_with (go_at_call 204; refine (nan_u32 _ _).mono ?_; rintro e w1 ⟨rfl, rfl⟩)
    go_ret
    exact ⟨ret_int (sgn_eq rfl).symm, rfl⟩
  · have h' : ¬ a < b := by omega
    go_enter Tryz.func186, Tryz.ntmps186
    go_wp2_with (go_at_call 204; refine (nan_u32 _ _).mono ?_; rintro e w1 ⟨rfl, rfl⟩)
    go_ret
    exact ⟨ret_int (sgn_gt h).symm, rfl⟩
end Go.Proofs.YtbcfplaalepnbaaGreatDoor
namespace Go.Proofs.YtbcfplaalepnbaaGreatDoor
open Go.RowKit
theorem Own.more {W w w' : World} {v : Value} {n : Nat} {xs : List Int} (h : Own W w v n xs) (hb : Below w.heap.size w w') : Own W w' v n xs := by
  refine ⟨⟨h.1.1, ?_⟩, h.2.trans (hb.mono h.2.size)⟩
  rcases h.1.2 with h0 | ⟨g, cap, cur, e, h1, hg, h2⟩
  · exact .inl h0
  · refine .inr ⟨g, cap, cur, e, h1, ?_, h2⟩
    rw [hb.block g (Array.getElem?_eq_some_iff.1 hg).1]; exact hg
theorem Own.outer {V W w : World} {v : Value} {n : Nat} {xs : List Int} (h : Own W w v n xs) (hb : Below V.heap.size V W) : Own V w v n xs := by
  refine ⟨⟨h.1.1, ?_⟩, below_more hb h.2⟩
  rcases h.1.2 with h0 | ⟨g, cap, cur, e, h1, h2⟩
  · exact .inl h0
  · exact .inr ⟨g, cap, cur, e, Nat.le_trans hb.size h1, h2⟩
theorem Own.nil {W w : World} (h : Below W.heap.size W w) : Own W w (.slice none 0 0) 0 [] := ⟨World.ownsRow_nil _ _ _ _, h⟩
theorem Own.cell {W w : World} {g n c : Nat} {xs : List Int} (h : Own W w (.slice (some ⟨g, 0, none⟩) n c) n xs) (k : Nat) (hk : k < n) :
    w.cell? ⟨g, k, none⟩ = some (.int .u32 (xs.getD k 0)) ∧ w.frozen? ⟨g, k, none⟩ = false ∧ W.heap.size ≤ g ∧ g < w.heap.size := by
  have hl := h.length
  rcases h.1.2 with ⟨e, -⟩ | ⟨g', cap, cur, e, h1, hg, h2, h3, h4, h5⟩
  · simp at e
  · simp only [Value.slice.injEq, Option.some.injEq, Addr.mk.injEq] at e
    obtain ⟨⟨rfl, -⟩, -, rfl⟩ := e
    have hc := h.1.cells (g := g) rfl k (.int .u32 (xs.getD k 0)) (by simp [List.getD_eq_getElem?_getD, show k < xs.length by omega])
    rw [Go.WideShapes.add_plain, Nat.zero_add] at hc
    refine ⟨hc, ?_, h1, (Array.getElem?_eq_some_iff.1 hg).1⟩
    simp [World.frozen?, hg]
theorem Own.at0 {W w : World} {a : Option Addr} {n c : Nat} {xs : List Int} (h : Own W w (.slice a n c) n xs) (hn : 0 < n) : ∃ g, a = some ⟨g, 0, none⟩ := by
  rcases h.1.2 with ⟨e, -⟩ | ⟨g, cap, cur, e, -⟩
  · simp only [Value.slice.injEq] at e; omega
  · simp only [Value.slice.injEq] at e; exact ⟨g, e.1⟩
theorem Own.set {W w : World} {g n c : Nat} {xs : List Int} (h : Own W w (.slice (some ⟨g, 0, none⟩) n c) n xs) (k : Nat) (y : Int) :
    Own W (w.setCell ⟨g, k, none⟩ (.int .u32 y)) (.slice (some ⟨g, 0, none⟩) n c) n (xs.set k y) := by
  have hl := h.length
  rcases h.1.2 with ⟨e, -⟩ | ⟨g', cap, cur, e, h1, hg, h2, h3, h4, h5⟩
  · simp at e
  · simp only [Value.slice.injEq, Option.some.injEq, Addr.mk.injEq] at e
    obtain ⟨⟨rfl, -⟩, -, rfl⟩ := e
    refine ⟨⟨by simp; omega, .inr ⟨g, c, cur.setIfInBounds k (.int .u32 y), rfl, h1, ?_, h2, h3, by simpa using h4, ?_⟩⟩, h.2.setCell h1 _⟩
    · have hlt := (Array.getElem?_eq_some_iff.1 hg).1
      have hv := (Array.getElem?_eq_some_iff.1 hg).2
      simp only [World.setCell]
      rw [Array.getElem?_eq_getElem (by simpa using hlt), Array.getElem_modify]
      simp [hv]
    · rw [Array.toList_setIfInBounds, List.take_set, h5, List.map_set]
theorem wpl_make_words {ops : Array Oper} {rest : List Oper} {o : Oper} {a : Act} {Q : Exit → Act → World → Prop} (l : Operand)
    (ho : o.op = .makeSlice 40 l l) (hgd : o.guard = none) (W w : World) (n : Nat) (N : Int) (hl : a.eval l = .int .i64 N) (hN : N = n) (hle : n ≤ 35184372088832) (hb : Below W.heap.size W w)
    (h : ∀ g w', W.heap.size ≤ g → Own W w' (.slice (some ⟨g, 0, none⟩) n n) n (List.replicate n 0) → wpList Tryz.prog ops Q rest (a.put o.dst (.slice (some ⟨g, 0, none⟩) n n)) w') : wpList Tryz.prog ops Q (o :: rest) a w := by
  obtain ⟨i, hi, hz, hs1, hby⟩ := info_parts infoU32
  refine wpList_make_full w hgd l l 40 ho W.heap.size 84 i (.int .u32 0) 1 Tryz.underlying40 hi hz hs1 .i64 .i64 N N n hl hl hN hN (by rw [hby]; omega) (by unfold maxLen; omega) hb.size ?_
  intro w' h1 h2
  refine h _ w' hb.size ⟨?_, hb.grown h2 hb.size (fun k e => by cases e)⟩
  have e : (madeCells (Value.int .u32 0).cells (n * 1)).toList = (List.replicate n (0 : Int)).map (Value.int .u32) := by
    apply List.ext_getElem?
    intro j
    by_cases hj : j < n
    · simp [madeCells, Value.cells, hj, Nat.mod_one]
    · simp [madeCells, Value.cells, hj]
  rw [← e]; exact h1
theorem wpl_copy_words {ops : Array Oper} {rest : List Oper} {o : Oper} {a : Act} {Q : Exit → Act → World → Prop} (d s : Operand)
    (ho : o.op = .call { callee := .builtin .copy, args := #[d, s], argTypes := #[40, 40] }) (hgd : o.guard = none)
    (W w : World) (g n c m : Nat) (vs : Value) (xs ys : List Int) (hown : Own W w (.slice (some ⟨g, 0, none⟩) n c) n xs) (hsrc : IsWords w vs ys) (hd : a.eval d = .slice (some ⟨g, 0, none⟩) n c) (hs : a.eval s = vs) (hm : ys.length = m) (hle : m ≤ n)
    (h : ∀ w', Own W w' (.slice (some ⟨g, 0, none⟩) n c) n (ys ++ xs.drop m) → wpList Tryz.prog ops Q rest (a.put o.dst (.int .i64 m)) w') : wpList Tryz.prog ops Q (o :: rest) a w := by
  obtain ⟨i, hi, hz, hs1, hby⟩ := info_parts infoU32
  have hl := hown.length
  rcases hown.1.2 with ⟨e, -⟩ | ⟨g', cap, cur, e, h1, hg, h2, h3, h4, h5⟩
  · simp at e
  simp only [Value.slice.injEq, Option.some.injEq, Addr.mk.injEq] at e
  obtain ⟨⟨rfl, -⟩, -, rfl⟩ := e
  obtain ⟨sp, sc, rfl⟩ := hsrc.lit
  subst hm
  have hmin : Nat.min ys.length n = ys.length := Nat.min_eq_left hle
  refine wpList_copy_splice hgd d s 40 40 ho 84 Tryz.underlying40 (by rw [hi]; simp [hs1]) _ sp n c ys.length sc hd hs g 0 cur.toList 84 (by simpa using hg) (ys.map (Value.int .u32)) (by rw [List.length_map, hmin]) ?_ (by simp; omega) (oneCells ys) W.heap.size W hown.2 h1 ?_
  · intro hpos
    refine ⟨rfl, ?_⟩
    rcases hsrc with ⟨e, rfl⟩ | ⟨x, cap, e, -, -, hc⟩
    · simp at hpos
    · simp only [Value.slice.injEq] at e
      obtain ⟨rfl, -, -⟩ := e
      refine ⟨x, rfl, fun j v hj => ?_⟩
      rw [List.getElem?_map] at hj
      obtain ⟨y, hy, rfl⟩ := Option.map_eq_some_iff.1 hj
      rw [hc j (List.getElem?_eq_some_iff.1 hy).1]
      simp [List.getD_eq_getElem?_getD, hy]
  · intro w' hw' hb'
    have hw := hw'.out
    have e : (Value.int .i64 ys.length) = goInt (ys.map (Value.int .u32)).length := by simp [goInt]
    rw [← e]
    refine h w' ⟨⟨by simp; omega, .inr ⟨g, c, _, rfl, h1, hw, h2, h3, ?_, ?_⟩⟩, hb'⟩
    · simp [splice]; omega
    · rw [Nat.mul_one] at h5 ⊢
      simp only [splice, List.take_zero, List.nil_append, Nat.zero_add, List.length_map]
      rw [List.map_append, List.map_drop, ← h5]
      rw [List.take_append, List.length_map, List.take_of_length_le (by simp; omega), List.drop_take]
end Go.Proofs.YtbcfplaalepnbaaGreatDoor
namespace Go.Proofs.YtbcfplaalepnbaaGreatDoor
open Go.RowKit
def OwnA (W : World) (B : Nat) (w : World) (v : Value) (n : Nat) (xs : List Int) : Prop := w.ownsRow B 84 1 v n (xs.map (Value.int .u32)) ∧ Below W.heap.size W w
theorem Own.above {W V w : World} {v : Value} {n : Nat} {xs : List Int} (h : Own V w v n xs) (hb : Below W.heap.size W V) : OwnA W V.heap.size w v n xs := ⟨h.1, below_more hb h.2⟩
theorem OwnA.set {W w : World} {B : Nat} {v : Value} {n : Nat} {xs : List Int} (h : OwnA W B w v n xs) {k : Nat} (h1 : W.heap.size ≤ k) (h2 : k < B) (i : Nat) (x : Value) : OwnA W B (w.setCell ⟨k, i, none⟩ x) v n xs := by
  refine ⟨⟨h.1.1, ?_⟩, h.2.setCell h1 _⟩
  rcases h.1.2 with h0 | ⟨g, cap, cur, e, h3, hg, h4⟩
  · exact .inl h0
  · refine .inr ⟨g, cap, cur, e, h3, ?_, h4⟩
    rw [Below.heap_setCell w ⟨k, i, none⟩ x g (by simp; omega)]; exact hg
theorem OwnA.own {W w : World} {B : Nat} {v : Value} {n : Nat} {xs : List Int} (h : OwnA W B w v n xs) (hB : W.heap.size ≤ B) : Own W w v n xs := by
  refine ⟨⟨h.1.1, ?_⟩, h.2⟩
  rcases h.1.2 with h0 | ⟨g, cap, cur, e, h1, h2⟩
  · exact .inl h0
  · exact .inr ⟨g, cap, cur, e, Nat.le_trans hB h1, h2⟩
end Go.Proofs.YtbcfplaalepnbaaGreatDoor
namespace Go.Proofs.YtbcfplaalepnbaaGreatDoor
open Go.Lib
def kindI (r : Int) : Int :=
  if 97 ≤ r ∧ r ≤ 122 ∨ 65 ≤ r ∧ r ≤ 90 ∨ r = 95 ∨ 128 ≤ r ∧ r ≤ 1114111 ∧ r ≠ 65533 then 1
  else if 48 ≤ r ∧ r ≤ 57 then 2
  else if r = 9 ∨ r = 10 ∨ r = 13 ∨ r = 32 then 3
  else if r = 43 ∨ r = 45 ∨ r = 42 ∨ r = 47 ∨ r = 94 ∨ r = 40 ∨ r = 41 ∨ r = 61 ∨ r = 59 ∨ r = 44 then 4
  else 0
theorem kindI_range (r : Int) : 0 ≤ kindI r ∧ kindI r ≤ 4 := by
  unfold kindI; repeat' split
  all_goals omega
def nextR (s : ByteArray) (i : Nat) : Int := (Utf8.decode s i).1
def nextN (s : ByteArray) (i : Nat) : Nat := (Utf8.decode s i).2
theorem decodeN_one {n b0 b1 b2 b3 : Nat} (h : b0 < 128) : decodeN n b0 b1 b2 b3 = (b0, 1) := by unfold decodeN; rw [if_pos h]
end Go.Proofs.YtbcfplaalepnbaaGreatDoor
namespace Go.Proofs.YtbcfplaalepnbaaGreatDoor
open Go.Lib
def bt (s : ByteArray) (i : Nat) : Nat := (s.get! i).toNat
theorem decode_bt (s : ByteArray) (i : Nat) : Utf8.decode s i = decodeN (s.size - i) (bt s i) (bt s (i + 1)) (bt s (i + 2)) (bt s (i + 3)) := decode_at s i
set_option maxRecDepth 100000 in
set_option maxHeartbeats 4000000 in
theorem decodeN_size (n b0 b1 b2 b3 : Nat) (hn : 1 ≤ n) : 1 ≤ (decodeN n b0 b1 b2 b3).2 ∧ (decodeN n b0 b1 b2 b3).2 ≤ 4 ∧ (decodeN n b0 b1 b2 b3).2 ≤ n := by
  unfold decodeN; repeat' split
  all_goals simp only
  all_goals omega
set_option maxRecDepth 100000 in
set_option maxHeartbeats 4000000 in
/-- A rune below 128 is its byte. -/
theorem decodeN_low (n b0 b1 b2 b3 : Nat) : (decodeN n b0 b1 b2 b3).1 < 128 ↔ b0 < 128 := by
  unfold decodeN; repeat' split
  all_goals simp only
  all_goals constructor
  all_goals intro h
  all_goals omega
set_option maxRecDepth 100000 in
set_option maxHeartbeats 4000000 in
/-- What lies behind a rune doesn't count. -/
theorem decodeN_more {n n' b0 b1 b2 b3 b1' b2' b3' : Nat} (h : (decodeN n b0 b1 b2 b3).1 ≠ 65533) (hn : n ≤ n') (h1 : 1 < n → b1' = b1) (h2 : 2 < n → b2' = b2) (h3 : 3 < n → b3' = b3) : decodeN n' b0 b1' b2' b3' = decodeN n b0 b1 b2 b3 := by
  unfold decodeN at h ⊢
  by_cases k1 : 1 < n
  · obtain rfl := h1 k1
    by_cases k2 : 2 < n
    · obtain rfl := h2 k2
      by_cases k3 : 3 < n
      · obtain rfl := h3 k3
        simp only [show 1 < n' from by omega, show 2 < n' from by omega, show 3 < n' from by omega, k1, k2, k3]
      · simp only [show 1 < n' from by omega, show 2 < n' from by omega, k1, k2, k3, false_and, and_false, if_false] at h ⊢
        repeat' split
        all_goals first | rfl | (exfalso; simp_all; done) | (exfalso; omega)
    · simp only [show 1 < n' from by omega, k1, k2, show ¬ 3 < n from by omega, false_and, and_false, if_false] at h ⊢
      repeat' split
      all_goals first | rfl | (exfalso; simp_all; done) | (exfalso; omega)
  · simp only [k1, show ¬ 2 < n from by omega, show ¬ 3 < n from by omega, false_and, and_false, if_false] at h ⊢
    by_cases hb : b0 < 128
    · rw [if_pos hb]; rw [if_pos hb]
    · rw [if_neg hb] at h; exact absurd rfl h
theorem next_size {s : ByteArray} {i : Nat} (h : i < s.size) : 1 ≤ nextN s i ∧ nextN s i ≤ 4 ∧ i + nextN s i ≤ s.size := by
  unfold nextN; rw [decode_bt]
  have := decodeN_size (s.size - i) (bt s i) (bt s (i + 1)) (bt s (i + 2)) (bt s (i + 3)) (by omega)
  omega
theorem next_low (s : ByteArray) (i : Nat) : nextR s i < 128 ↔ bt s i < 128 := by
  unfold nextR; rw [decode_bt]
  have := decodeN_low (s.size - i) (bt s i) (bt s (i + 1)) (bt s (i + 2)) (bt s (i + 3))
  omega
theorem next_byte {s : ByteArray} {i : Nat} (h : bt s i < 128) : nextR s i = bt s i ∧ nextN s i = 1 := by
  unfold nextR nextN; rw [decode_bt, decodeN_one h]; exact ⟨rfl, rfl⟩
def placeF (s : ByteArray) (at_ : Int) : Nat → Nat → Int → Int → Int × Int
  | 0, _, l, c => (l, c)
  | f + 1, i, l, c => if i < s.size then (if at_ < i + nextN s i then (l, c) else placeF s at_ f (i + nextN s i) (if nextR s i = 10 then l + 1 else l) (if nextR s i = 10 then 1 else c + 1)) else (l, c)
def placeI (s : ByteArray) (at_ : Int) : Int × Int := placeF s at_ (s.size + 1) 0 1 1
theorem placeF_more (s : ByteArray) (at_ : Int) : ∀ f i l c, s.size < i + f → ∀ g, s.size < i + g → placeF s at_ f i l c = placeF s at_ g i l c := by
  intro f
  induction f with
  | zero =>
    intro i l c hf g hg
    cases g with
    | zero => rfl
    | succ g => unfold placeF; rw [if_neg (by omega)]
  | succ f ih =>
    intro i l c hf g hg
    cases g with
    | zero => unfold placeF; rw [if_neg (by omega)]
    | succ g =>
      unfold placeF
      by_cases h : i < s.size
      · have := next_size h
        rw [if_pos h, if_pos h, ih _ _ _ (by omega) g (by omega)]
      · rw [if_neg h, if_neg h]
def At (s : ByteArray) (i : Nat) (l c : Int) : Prop := i ≤ s.size ∧ ∀ at_ : Int, (i : Int) ≤ at_ → ∀ f, s.size < i + f → placeI s at_ = placeF s at_ f i l c
theorem At.zero (s : ByteArray) : At s 0 1 1 := ⟨Nat.zero_le _, fun at_ _ f hf => placeF_more s at_ _ _ _ _ (by omega) f hf⟩
theorem At.here {s : ByteArray} {i : Nat} {l c : Int} (h : At s i l c) {at_ : Int} (h0 : (i : Int) ≤ at_) (h1 : at_ < i + nextN s i) (hi : i < s.size) : placeI s at_ = (l, c) := by
  rw [h.2 at_ h0 (s.size + 1) (by omega)]; unfold placeF; rw [if_pos hi, if_pos h1]
theorem At.last {s : ByteArray} {l c : Int} (h : At s s.size l c) {at_ : Int} (h0 : (s.size : Int) ≤ at_) : placeI s at_ = (l, c) := by
  rw [h.2 at_ h0 1 (by omega)]; unfold placeF; rw [if_neg (by omega)]
theorem At.next {s : ByteArray} {i : Nat} {l c : Int} (h : At s i l c) (hi : i < s.size) : At s (i + nextN s i) (if nextR s i = 10 then l + 1 else l) (if nextR s i = 10 then 1 else c + 1) := by
  have hz := next_size hi
  refine ⟨by omega, fun at_ h0 f hf => ?_⟩
  rw [h.2 at_ (by omega) (f + nextN s i) (by omega)]
  obtain ⟨g, hg⟩ : ∃ g, f + nextN s i = g + 1 := ⟨f + nextN s i - 1, by omega⟩
  rw [hg]
  show (if i < s.size then _ else _) = _
  rw [if_pos hi, if_neg (by omega)]
  exact placeF_more s at_ _ _ _ _ (by omega) _ (by omega)
theorem place_low (s : ByteArray) {at_ : Int} (h : at_ < 0) : placeI s at_ = (1, 1) := by
  unfold placeI placeF
  by_cases h0 : 0 < s.size
  · rw [if_pos h0, if_pos (by omega)]
  · rw [if_neg h0]
end Go.Proofs.YtbcfplaalepnbaaGreatDoor
namespace Go.Proofs.YtbcfplaalepnbaaGreatDoor
open Go.Lib
theorem bt_data (u : ByteArray) (j : Nat) : u.get! j = u.data[j]! := rfl
theorem bt_get {s : ByteArray} {i : Nat} (h : i < s.size) : bt s i = s[i].toNat := by
  unfold bt
  have h' : i < s.data.size := h
  rw [bt_data, getElem!_pos s.data i h']; rfl
theorem bt_append_right (s t : ByteArray) (j : Nat) : bt (s ++ t) (s.size + j) = bt t j := by
  unfold bt
  congr 1
  have e : s.size = s.data.size := rfl
  rw [bt_data, bt_data, ByteArray.data_append, e]
  by_cases h : j < t.data.size
  · rw [getElem!_pos _ _ (by rw [Array.size_append]; omega), getElem!_pos t.data j h, Array.getElem_append_right (by omega)]
    simp
  · rw [getElem!_neg _ _ (by rw [Array.size_append]; omega), getElem!_neg t.data j h]
def keyB (s : ByteArray) : Bool := s.toList == [105, 110] || s.toList == [108, 101, 116] || s.toList == [111, 117, 116]
def nameF (s : ByteArray) : Nat → Nat → Bool
  | 0, _ => true
  | f + 1, i => if i < s.size then (if (kindI (nextR s i) ≠ 1 ∧ kindI (nextR s i) ≠ 2) ∨ (kindI (nextR s i) = 2 ∧ i = 0) then false else nameF s f (i + nextN s i)) else true
def nameB (s : ByteArray) : Bool := decide (1 ≤ s.size ∧ s.size ≤ 40) && !keyB s && nameF s (s.size + 1) 0
theorem nameF_more (s : ByteArray) : ∀ f i, s.size < i + f → ∀ g, s.size < i + g → nameF s f i = nameF s g i := by
  intro f
  induction f with
  | zero =>
    intro i hf g hg
    cases g with
    | zero => rfl
    | succ g => unfold nameF; rw [if_neg (by omega)]
  | succ f ih =>
    intro i hf g hg
    cases g with
    | zero => unfold nameF; rw [if_neg (by omega)]
    | succ g =>
      unfold nameF
      by_cases h : i < s.size
      · have := next_size h
        rw [if_pos h, if_pos h, ih _ (by omega) g (by omega)]
      · rw [if_neg h, if_neg h]
theorem kind_err : kindI 65533 = 0 := by decide
end Go.Proofs.YtbcfplaalepnbaaGreatDoor
namespace Go.Proofs.YtbcfplaalepnbaaGreatDoor
open Go.Lib
def kindAt (s : ByteArray) (i : Nat) : Int := if i < s.size then kindI (nextR s i) else -1
def stepAt (s : ByteArray) (i : Nat) : Nat := if i < s.size then nextN s i else 0
theorem kindAt_range (s : ByteArray) (i : Nat) : -1 ≤ kindAt s i ∧ kindAt s i ≤ 4 := by
  unfold kindAt
  have := kindI_range (nextR s i)
  split <;> omega
theorem kindAt_in {s : ByteArray} {i : Nat} (h : 0 ≤ kindAt s i) : i < s.size := by
  unfold kindAt at h
  split at h
  · assumption
  · omega
theorem kindI_digit (r : Int) : kindI r = 2 ↔ 48 ≤ r ∧ r ≤ 57 := by
  unfold kindI
  repeat' split
  all_goals omega
theorem kindAt_digit {s : ByteArray} {i : Nat} : kindAt s i = 2 ↔ i < s.size ∧ 48 ≤ bt s i ∧ bt s i ≤ 57 := by
  unfold kindAt
  split
  · rename_i h
    rw [kindI_digit]
    constructor
    · intro h2
      have h3 := (next_low s i).1 (by omega)
      have h4 := (next_byte h3).1
      exact ⟨h, by omega, by omega⟩
    · rintro ⟨-, h2, h3⟩
      have h4 := (next_byte (s := s) (i := i) (by omega)).1
      omega
  · rename_i h
    exact ⟨fun e => by omega, fun e => absurd e.1 h⟩
theorem stepAt_digit {s : ByteArray} {i : Nat} (h : kindAt s i = 2) : stepAt s i = 1 := by
  have h1 := kindAt_digit.1 h
  unfold stepAt
  rw [if_pos h1.1, (next_byte (by omega)).2]
theorem stepAt_size {s : ByteArray} {i : Nat} (h : i < s.size) : 1 ≤ stepAt s i ∧ i + stepAt s i ≤ s.size ∧ stepAt s i ≤ 4 := by
  have := next_size h
  unfold stepAt
  rw [if_pos h]; omega
def digF (s : ByteArray) : Nat → Nat → Nat
  | 0, i => i
  | f + 1, i => if kindAt s i = 2 then digF s f (i + 1) else i
def digEnd (s : ByteArray) (i : Nat) : Nat := digF s (s.size + 1) i
def wordF (s : ByteArray) : Nat → Nat → Nat
  | 0, i => i
  | f + 1, i => if kindAt s i = 1 ∨ kindAt s i = 2 then wordF s f (i + stepAt s i) else i
def wordEnd (s : ByteArray) (i : Nat) : Nat := wordF s (s.size + 1) i
def cutF (s : ByteArray) : Nat → Nat → Nat
  | 0, i => i
  | f + 1, i => if i < s.size then (if bt s i = 124 then i else cutF s f (i + 1)) else i
def cutI (s : ByteArray) : Nat := cutF s (s.size + 1) 0
theorem digF_more (s : ByteArray) : ∀ f i, s.size < i + f → ∀ g, s.size < i + g → digF s f i = digF s g i := by
  intro f
  induction f with
  | zero =>
    intro i hf g hg
    cases g with
    | zero => rfl
    | succ g => unfold digF; rw [if_neg (fun e => by have := (kindAt_digit.1 e).1; omega)]
  | succ f ih =>
    intro i hf g hg
    cases g with
    | zero => unfold digF; rw [if_neg (fun e => by have := (kindAt_digit.1 e).1; omega)]
    | succ g => unfold digF; rw [ih _ (by omega) g (by omega)]
theorem digEnd_step {s : ByteArray} {i : Nat} (h : kindAt s i = 2) : digEnd s i = digEnd s (i + 1) := by
  unfold digEnd
  have hi := (kindAt_digit.1 h).1
  show (if kindAt s i = 2 then _ else _) = _
  rw [if_pos h]
  exact digF_more s _ _ (by omega) _ (by omega)
theorem digEnd_here {s : ByteArray} {i : Nat} (h : kindAt s i ≠ 2) : digEnd s i = i := by
  unfold digEnd
  show (if kindAt s i = 2 then _ else _) = _
  rw [if_neg h]
theorem wordF_more (s : ByteArray) : ∀ f i, s.size < i + f → ∀ g, s.size < i + g → wordF s f i = wordF s g i := by
  intro f
  induction f with
  | zero =>
    intro i hf g hg
    cases g with
    | zero => rfl
    | succ g => unfold wordF; rw [if_neg (fun e => by have := kindAt_in (s := s) (i := i) (by omega); omega)]
  | succ f ih =>
    intro i hf g hg
    cases g with
    | zero => unfold wordF; rw [if_neg (fun e => by have := kindAt_in (s := s) (i := i) (by omega); omega)]
    | succ g =>
      unfold wordF
      by_cases h : kindAt s i = 1 ∨ kindAt s i = 2
      · have := stepAt_size (kindAt_in (s := s) (i := i) (by omega))
        rw [if_pos h, if_pos h, ih _ (by omega) g (by omega)]
      · rw [if_neg h, if_neg h]
theorem wordEnd_step {s : ByteArray} {i : Nat} (h : kindAt s i = 1 ∨ kindAt s i = 2) : wordEnd s i = wordEnd s (i + stepAt s i) := by
  unfold wordEnd
  have hi := stepAt_size (kindAt_in (s := s) (i := i) (by omega))
  show (if kindAt s i = 1 ∨ kindAt s i = 2 then _ else _) = _
  rw [if_pos h]
  exact wordF_more s _ _ (by omega) _ (by omega)
theorem wordEnd_here {s : ByteArray} {i : Nat} (h : ¬ (kindAt s i = 1 ∨ kindAt s i = 2)) : wordEnd s i = i := by
  unfold wordEnd
  show (if kindAt s i = 1 ∨ kindAt s i = 2 then _ else _) = _
  rw [if_neg h]
theorem digF_range (s : ByteArray) : ∀ f i, i ≤ digF s f i ∧ (i ≤ s.size → digF s f i ≤ s.size) := by
  intro f
  induction f with
  | zero => intro i; exact ⟨Nat.le_refl _, id⟩
  | succ f ih =>
    intro i
    unfold digF
    split
    · rename_i h
      have h1 := (kindAt_digit.1 h).1
      have := ih (i + 1)
      exact ⟨by omega, fun _ => this.2 (by omega)⟩
    · exact ⟨Nat.le_refl _, id⟩
theorem digEnd_range (s : ByteArray) (i : Nat) : i ≤ digEnd s i ∧ (i ≤ s.size → digEnd s i ≤ s.size) := digF_range s _ i
theorem wordF_range (s : ByteArray) : ∀ f i, i ≤ wordF s f i ∧ (i ≤ s.size → wordF s f i ≤ s.size) := by
  intro f
  induction f with
  | zero => intro i; exact ⟨Nat.le_refl _, id⟩
  | succ f ih =>
    intro i
    unfold wordF
    split
    · rename_i h
      have h1 := stepAt_size (kindAt_in (s := s) (i := i) (by omega))
      have := ih (i + stepAt s i)
      exact ⟨by omega, fun _ => this.2 (by omega)⟩
    · exact ⟨Nat.le_refl _, id⟩
theorem wordEnd_range (s : ByteArray) (i : Nat) : i ≤ wordEnd s i ∧ (i ≤ s.size → wordEnd s i ≤ s.size) := wordF_range s _ i
theorem cutF_range (s : ByteArray) : ∀ f i, i ≤ cutF s f i ∧ (i ≤ s.size → cutF s f i ≤ s.size) := by
  intro f
  induction f with
  | zero => intro i; exact ⟨Nat.le_refl _, id⟩
  | succ f ih =>
    intro i
    have := ih (i + 1)
    unfold cutF
    split
    · split
      · exact ⟨Nat.le_refl _, id⟩
      · exact ⟨by omega, fun _ => this.2 (by omega)⟩
    · exact ⟨Nat.le_refl _, id⟩
theorem cutI_le (s : ByteArray) : cutI s ≤ s.size := (cutF_range s _ 0).2 (Nat.zero_le _)
def partB (s : ByteArray) : Bool := decide (1 ≤ s.size ∧ s.size ≤ 40) && decide (digEnd s 0 = s.size) && (decide (s.size = 1) || decide (bt s 0 ≠ 48))
def numB (s : ByteArray) : Bool :=
  if cutI s = s.size then partB s else partB (s.extract 0 (cutI s)) && partB (s.extract (cutI s + 1) s.size) && !((s.extract (cutI s + 1) s.size).toList == [48])
def numEnd (s : ByteArray) (i : Nat) : Nat :=
  if digEnd s i < s.size ∧ bt s (digEnd s i) = 124 ∧ digEnd s i + 1 < digEnd s (digEnd s i + 1) then digEnd s (digEnd s i + 1) else digEnd s i
theorem numEnd_range {s : ByteArray} {i : Nat} (h : i ≤ s.size) : i ≤ numEnd s i ∧ numEnd s i ≤ s.size := by
  have h1 := digEnd_range s i
  have h2 := digEnd_range s (digEnd s i + 1)
  unfold numEnd
  split
  · rename_i hc
    exact ⟨by omega, h2.2 (by omega)⟩
  · exact ⟨h1.1, h1.2 h⟩
end Go.Proofs.YtbcfplaalepnbaaGreatDoor
namespace Go.Proofs.YtbcfplaalepnbaaGreatDoor
open Go.Lib
abbrev Tok := Int × ByteArray × Int × Int
def tokenI (s : ByteArray) (i : Nat) : Int × ByteArray × Nat × Int :=
  if kindAt s i = 1 then (if i + 40 < wordEnd s i then (0, ⟨#[]⟩, wordEnd s i, 4) else (0, s.extract i (wordEnd s i), wordEnd s i, 0))
  else if kindAt s i = 2 then
    (if 40 < cutI (s.extract i (numEnd s i)) ∨ cutI (s.extract i (numEnd s i)) + 41 < (s.extract i (numEnd s i)).size then (0, ⟨#[]⟩, numEnd s i, 4)
     else if numB (s.extract i (numEnd s i)) = true then (1, s.extract i (numEnd s i), numEnd s i, 0) else (0, ⟨#[]⟩, numEnd s i, 5))
  else if kindAt s i = 4 then (2, s.extract i (i + stepAt s i), i + stepAt s i, 0)
  else (0, ⟨#[]⟩, i, 5)
end Go.Proofs.YtbcfplaalepnbaaGreatDoor
namespace Go.Proofs.YtbcfplaalepnbaaGreatDoor
open Go.RowKit
def tcA (t : Tok) : Array Value := #[.int .i64 t.1, .string t.2.1, .int .i64 t.2.2.1, .int .i64 t.2.2.2]
def tcs : List Tok → List Value
  | [] => []
  | t :: l => (tcA t).toList ++ tcs l
theorem tcs_length (l : List Tok) : (tcs l).length = l.length * 4 := by
  induction l with
  | nil => rfl
  | cons t l ih => simp [tcs, tcA, ih]; omega
theorem tcs_append (l m : List Tok) : tcs (l ++ m) = tcs l ++ tcs m := by
  induction l with
  | nil => rfl
  | cons t l ih => simp [tcs, ih]
theorem infoTok : (Tryz.prog.info? 66).map (fun i => (i.zero, i.size, i.bytes)) = some (some (.agg #[.int .i64 0, .string ⟨#[]⟩, .int .i64 0, .int .i64 0]), 4, 40) := by kernel_rfl
def OwnT (W w : World) (v : Value) (n : Nat) (l : List Tok) : Prop := w.ownsRow W.heap.size 66 4 v n (tcs l) ∧ Below W.heap.size W w
theorem OwnT.length {W w : World} {v : Value} {n : Nat} {l : List Tok} (h : OwnT W w v n l) : l.length = n := by
  have := h.1.1; rw [tcs_length] at this; omega
theorem OwnT.below {W w : World} {v : Value} {n : Nat} {l : List Tok} (h : OwnT W w v n l) : Below W.heap.size W w := h.2
theorem OwnT.nil {W w : World} (h : Below W.heap.size W w) : OwnT W w (.slice none 0 0) 0 [] := ⟨World.ownsRow_nil _ _ _ _, h⟩
theorem OwnT.more {W w w' : World} {v : Value} {n : Nat} {l : List Tok} (h : OwnT W w v n l) (hb : Below w.heap.size w w') : OwnT W w' v n l := by
  refine ⟨⟨h.1.1, ?_⟩, below_more h.2 hb⟩
  rcases h.1.2 with h0 | ⟨g, cap, cur, e, h1, hg, h2⟩
  · exact .inl h0
  · refine .inr ⟨g, cap, cur, e, h1, ?_, h2⟩
    rw [hb.block g (Array.getElem?_eq_some_iff.1 hg).1]; exact hg
theorem OwnT.alloc {W w : World} {v : Value} {n : Nat} {l : List Tok} (h : OwnT W w v n l) (o : Obj) : OwnT W (w.alloc o) v n l := h.more ((Below.refl _ _).alloc (Nat.le_refl _) _)
theorem OwnT.lit {W w : World} {v : Value} {n : Nat} {l : List Tok} (h : OwnT W w v n l) : ∃ a c, v = .slice a n c := by
  rcases h.1.2 with ⟨rfl, rfl⟩ | ⟨g, cap, cur, rfl, -⟩
  · exact ⟨none, 0, rfl⟩
  · exact ⟨_, _, rfl⟩
theorem OwnT.box {W w : World} {v : Value} {n : Nat} {l : List Tok} (h : OwnT W w v n l) {k : Nat} {cs : Array Value} {T : TypeId} (B : BoxC w k cs T) (hT : T ≠ 66) (hk : W.heap.size ≤ k) (i : Nat) (x : Value) : OwnT W (w.setCell ⟨k, i, none⟩ x) v n l := by
  refine ⟨⟨h.1.1, ?_⟩, h.2.setCell (p := ⟨k, i, none⟩) hk _⟩
  rcases h.1.2 with h0 | ⟨g, cap, cur, e, h3, hg, h4⟩
  · exact .inl h0
  · refine .inr ⟨g, cap, cur, e, h3, ?_, h4⟩
    have hne : g ≠ k := by
      intro e1
      subst e1
      unfold BoxC at B
      rw [B] at hg
      simp at hg
      exact hT hg.2
    rw [Below.heap_setCell w ⟨k, i, none⟩ x g (by simpa using hne)]; exact hg
theorem BoxC.grown {w w' : World} {k : Nat} {cs : Array Value} {T : TypeId} {row : Option Nat} (h : BoxC w k cs T) (hg : w.grownBy w' row) (hne : row ≠ some k) : BoxC w' k cs T := by
  have := hg.block k h.lt (Ne.symm hne)
  unfold BoxC at h ⊢
  rw [this]; exact h
end Go.Proofs.YtbcfplaalepnbaaGreatDoor
namespace Go.Proofs.YtbcfplaalepnbaaGreatDoor
open Go.Lib
def lexF (s : ByteArray) : Nat → Nat → List Tok → List Tok × (Int × Int) × Int
  | 0, _, out => (out, (0, 0), 0)
  | f + 1, i, out =>
    if i < s.size then
      (if kindAt s i = 3 then lexF s f (i + 1) out
       else if 4000 ≤ out.length then ([], placeI s i, 4)
       else if (tokenI s i).2.2.2 ≠ 0 then ([], placeI s i, (tokenI s i).2.2.2)
       else lexF s f (tokenI s i).2.2.1 (out ++ [((tokenI s i).1, (tokenI s i).2.1, (placeI s i).1, (placeI s i).2)]))
    else (out, (0, 0), 0)
def lexI (s : ByteArray) : List Tok × (Int × Int) × Int := if 60000 < s.size then ([], (1, 1), 4) else lexF s (s.size + 1) 0 []
theorem wordEnd_lt {s : ByteArray} {i : Nat} (h : kindAt s i = 1) : i < wordEnd s i := by
  rw [wordEnd_step (.inl h)]
  have h1 := stepAt_size (kindAt_in (s := s) (i := i) (by omega))
  have h2 := wordEnd_range s (i + stepAt s i)
  omega
theorem numEnd_lt {s : ByteArray} {i : Nat} (h : kindAt s i = 2) : i < numEnd s i := by
  have h0 := digEnd_step h
  have h1 := digEnd_range s (i + 1)
  have h2 := digEnd_range s (digEnd s i + 1)
  unfold numEnd
  split <;> omega
theorem tokenI_end {s : ByteArray} {i : Nat} (hi : i < s.size) (h : (tokenI s i).2.2.2 = 0) : i < (tokenI s i).2.2.1 ∧ (tokenI s i).2.2.1 ≤ s.size := by
  have hw := wordEnd_range s i
  have hn := numEnd_range (s := s) (i := i) (by omega)
  have hz := stepAt_size hi
  unfold tokenI at h ⊢
  by_cases k1 : kindAt s i = 1
  · have := wordEnd_lt k1
    rw [if_pos k1] at h ⊢
    split at h
    · exact absurd h (by simp)
    · rename_i hc
      rw [if_neg hc]
      exact ⟨this, hw.2 (by omega)⟩
  rw [if_neg k1] at h ⊢
  by_cases k2 : kindAt s i = 2
  · have := numEnd_lt k2
    rw [if_pos k2] at h ⊢
    split at h
    · exact absurd h (by simp)
    · rename_i hc
      rw [if_neg hc]
      split at h
      · rename_i hd
        rw [if_pos hd]
        exact ⟨this, hn.2⟩
      · exact absurd h (by simp)
  rw [if_neg k2] at h ⊢
  by_cases k4 : kindAt s i = 4
  · rw [if_pos k4]
    exact ⟨by show i < i + stepAt s i; omega, by show i + stepAt s i ≤ s.size; omega⟩
  rw [if_neg k4] at h
  exact absurd h (by simp)
theorem lexF_more (s : ByteArray) : ∀ f i out, s.size < i + f → ∀ g, s.size < i + g → lexF s f i out = lexF s g i out := by
  intro f
  induction f with
  | zero =>
    intro i out hf g hg
    cases g with
    | zero => rfl
    | succ g => unfold lexF; rw [if_neg (by omega)]
  | succ f ih =>
    intro i out hf g hg
    cases g with
    | zero => unfold lexF; rw [if_neg (by omega)]
    | succ g =>
      unfold lexF
      by_cases h : i < s.size
      · rw [if_pos h, if_pos h, ih _ _ (by omega) g (by omega)]
        by_cases h3 : kindAt s i = 3
        · rw [if_pos h3, if_pos h3]
        rw [if_neg h3, if_neg h3]
        by_cases h4 : 4000 ≤ out.length
        · rw [if_pos h4, if_pos h4]
        rw [if_neg h4, if_neg h4]
        by_cases h5 : (tokenI s i).2.2.2 ≠ 0
        · rw [if_pos h5, if_pos h5]
        have he := tokenI_end h (Decidable.not_not.1 h5)
        rw [if_neg h5, if_neg h5, ih _ _ (by omega) g (by omega)]
      · rw [if_neg h, if_neg h]
theorem lexF_step {s : ByteArray} {i : Nat} {out : List Tok} (h : i < s.size) : lexF s (s.size + 1) i out =
    if kindAt s i = 3 then lexF s (s.size + 1) (i + 1) out
    else if 4000 ≤ out.length then ([], placeI s i, 4)
    else if (tokenI s i).2.2.2 ≠ 0 then ([], placeI s i, (tokenI s i).2.2.2)
    else lexF s (s.size + 1) (tokenI s i).2.2.1 (out ++ [((tokenI s i).1, (tokenI s i).2.1, (placeI s i).1, (placeI s i).2)]) := by
  show (if i < s.size then _ else _) = _
  rw [if_pos h, lexF_more s s.size (i + 1) out (by omega) (s.size + 1) (by omega)]
  by_cases h3 : kindAt s i = 3
  · rw [if_pos h3, if_pos h3]
  rw [if_neg h3, if_neg h3]
  by_cases h4 : 4000 ≤ out.length
  · rw [if_pos h4, if_pos h4]
  rw [if_neg h4, if_neg h4]
  by_cases h5 : (tokenI s i).2.2.2 ≠ 0
  · rw [if_pos h5, if_pos h5]
  have he := tokenI_end h (Decidable.not_not.1 h5)
  rw [if_neg h5, if_neg h5, lexF_more s s.size _ _ (by omega) (s.size + 1) (by omega)]
theorem lexF_end {s : ByteArray} {i : Nat} {out : List Tok} (h : ¬ i < s.size) : lexF s (s.size + 1) i out = (out, (0, 0), 0) := by
  show (if i < s.size then _ else _) = _
  rw [if_neg h]
theorem lexF_length (s : ByteArray) : ∀ f i out, out.length ≤ 4000 → (lexF s f i out).1.length ≤ 4000 := by
  intro f
  induction f with
  | zero => intro i out h; exact h
  | succ f ih =>
    intro i out h
    unfold lexF
    split
    · split
      · exact ih _ _ h
      · split
        · simp
        · split
          · simp
          · exact ih _ _ (by simp; omega)
    · exact h
theorem lexI_length (s : ByteArray) : (lexI s).1.length ≤ 4000 := by
  unfold lexI
  split
  · simp
  · exact lexF_length s _ _ _ (by simp)
end Go.Proofs.YtbcfplaalepnbaaGreatDoor
namespace Go.Proofs.YtbcfplaalepnbaaGreatDoor
open Go.RowKit Go.Lib
theorem nameF_step {s : ByteArray} {i : Nat} (h : i < s.size) : nameF s (s.size + 1) i = if (kindI (nextR s i) ≠ 1 ∧ kindI (nextR s i) ≠ 2) ∨ (kindI (nextR s i) = 2 ∧ i = 0) then false else nameF s (s.size + 1) (i + nextN s i) := by
  have hn := next_size h
  show (if i < s.size then _ else _) = _
  rw [if_pos h, nameF_more s s.size (i + nextN s i) (by omega) (s.size + 1) (by omega)]
theorem nameF_end {s : ByteArray} {i : Nat} (h : ¬ i < s.size) : nameF s (s.size + 1) i = true := by
  show (if i < s.size then _ else _) = _
  rw [if_neg h]
end Go.Proofs.YtbcfplaalepnbaaGreatDoor
namespace Go.Proofs.YtbcfplaalepnbaaGreatDoor
open Go.RowKit Go.Lib
def AnsL (W : World) (p : Int × Int) (e : Ending) (w' : World) : Prop := e = .returned (.agg #[.int .i64 p.1, .int .i64 p.2]) ∧ Below W.heap.size W w'
end Go.Proofs.YtbcfplaalepnbaaGreatDoor
namespace Go.Proofs.YtbcfplaalepnbaaGreatDoor
open Go.RowKit Go.Lib
theorem wrap_smalls {x : Int} (h0 : 0 ≤ x) (h1 : x < 10000000) : wrap64 x = x := by unfold wrap64; omega
end Go.Proofs.YtbcfplaalepnbaaGreatDoor
namespace Go.Proofs.YtbcfplaalepnbaaGreatDoor
open Go.RowKit Go.Lib
def AnsX (W : World) (p : List Tok × (Int × Int) × Int) (e : Ending) (w' : World) : Prop :=
  ∃ a c, e = .returned (.tuple #[.slice a p.1.length c, .agg #[.int .i64 p.2.1.1, .int .i64 p.2.1.2], .int .i64 p.2.2]) ∧ OwnT W w' (.slice a p.1.length c) p.1.length p.1
theorem ansX_no {W w' : World} {l c E : Int} (h : Below W.heap.size W w') : AnsX W ([], (l, c), E) (.returned (.tuple #[.slice none 0 0, .agg #[.int .i64 l, .int .i64 c], .int .i64 E])) w' := ⟨none, 0, rfl, OwnT.nil h⟩
theorem place_ne_tok : (29 : TypeId) ≠ 66 := by decide
theorem OwnT.apart {W w : World} {v : Value} {n : Nat} {l : List Tok} (h : OwnT W w v n l) {k : Nat} {cs : Array Value} {T : TypeId} (B : BoxC w k cs T) (hT : T ≠ 66) : v.ownBlock ≠ some k := by
  rcases h.1.2 with ⟨rfl, -⟩ | ⟨g, cap, cur, rfl, h3, hg, h4⟩
  · exact fun e => by cases e
  · intro e
    have e1 : g = k := by simpa [Value.ownBlock] using e
    subst e1
    unfold BoxC at B
    rw [B] at hg
    simp at hg
    exact hT hg.2
end Go.Proofs.YtbcfplaalepnbaaGreatDoor
namespace Go.Proofs.YtbcfplaalepnbaaGreatDoor
open Go.RowKit Go.Lib
def IsToks (w : World) (a : Option Addr) (n : Nat) (l : List Tok) : Prop :=
  l.length = n ∧ (l = [] ∨ ∃ g, a = some ⟨g, 0, none⟩ ∧ ∀ i (h : i < l.length), w.cell? ⟨g, i * 4, none⟩ = some (.int .i64 l[i].1) ∧ w.cell? ⟨g, i * 4 + 1, none⟩ = some (.string l[i].2.1) ∧ w.cell? ⟨g, i * 4 + 2, none⟩ = some (.int .i64 l[i].2.2.1) ∧ w.cell? ⟨g, i * 4 + 3, none⟩ = some (.int .i64 l[i].2.2.2))
theorem tok_cells {w : World} {a : Option Addr} {l : List Tok} (h : ∃ g, a = some ⟨g, 0, none⟩ ∧ ∀ i (h : i < l.length), w.cell? ⟨g, i * 4, none⟩ = some (.int .i64 l[i].1) ∧ w.cell? ⟨g, i * 4 + 1, none⟩ = some (.string l[i].2.1) ∧ w.cell? ⟨g, i * 4 + 2, none⟩ = some (.int .i64 l[i].2.2.1) ∧ w.cell? ⟨g, i * 4 + 3, none⟩ = some (.int .i64 l[i].2.2.2)) (i : Nat) (hi : i < l.length) :
    ∃ g, a = some ⟨g, 0, none⟩ ∧ w.cell? ⟨g, i * 4, none⟩ = some (.int .i64 l[i].1) ∧ w.cell? ⟨g, i * 4 + 1, none⟩ = some (.string l[i].2.1) ∧ w.cell? ⟨g, i * 4 + 2, none⟩ = some (.int .i64 l[i].2.2.1) ∧ w.cell? ⟨g, i * 4 + 3, none⟩ = some (.int .i64 l[i].2.2.2) := by
  obtain ⟨g, e, hc⟩ := h
  exact ⟨g, e, hc i hi⟩
theorem tcs_get (l : List Tok) : ∀ i (h : i < l.length) j, j < 4 → (tcs l)[i * 4 + j]? = (tcA l[i])[j]? := by
  induction l with
  | nil => intro i h; exact absurd h (by simp)
  | cons t l ih =>
    intro i h j hj
    cases i with
    | zero =>
      rw [Nat.zero_mul, Nat.zero_add]
      show ((tcA t).toList ++ tcs l)[j]? = _
      rw [List.getElem?_append_left (by simpa [tcA] using hj)]
      simp
    | succ i =>
      show ((tcA t).toList ++ tcs l)[(i + 1) * 4 + j]? = _
      rw [List.getElem?_append_right (by simp [tcA]; omega)]
      have := ih i (by simpa using h) j hj
      rw [show (i + 1) * 4 + j - (tcA t).toList.length = i * 4 + j by simp [tcA]; omega, this]
      rfl
theorem OwnT.toks {W w : World} {a : Option Addr} {n c : Nat} {l : List Tok} (h : OwnT W w (.slice a n c) n l) : IsToks w a n l := by
  refine ⟨h.length, ?_⟩
  have hl := h.length
  rcases h.1.2 with ⟨e, h0⟩ | ⟨g, cap, cur, e, -, hg, -, -, -, ht⟩
  · left; exact List.eq_nil_of_length_eq_zero (by omega)
  · right
    simp only [Value.slice.injEq] at e
    refine ⟨g, e.1, fun i hi => ?_⟩
    have hc : ∀ j, j < 4 → w.cell? ⟨g, i * 4 + j, none⟩ = (tcA l[i])[j]? := fun j hj => by
      have h1 := tcs_get l i hi j hj
      have h2 : cur[i * 4 + j]? = (tcs l)[i * 4 + j]? := by
        rw [← ht, List.getElem?_take, if_pos (by omega)]
        simp
      simp only [World.cell?, hg]
      rw [← h1, ← h2]
      rfl
    exact ⟨hc 0 (by omega), hc 1 (by omega), hc 2 (by omega), hc 3 (by omega)⟩
end Go.Proofs.YtbcfplaalepnbaaGreatDoor
namespace Go.Proofs.YtbcfplaalepnbaaGreatDoor
open Go.Lib
structure Nd where
  kind : Int
  a : Int
  b : Int
  exp : Int
  name : ByteArray
  num : Bool × Nat × Nat
structure Rd where
  pos : Nat
  bad : Bool
  all : List Nd
def noText : ByteArray := ⟨#[]⟩
def Rd.is (L : List Tok) (r : Rd) (k : Int) (x : List UInt8) : Bool := !r.bad && (match L[r.pos]? with
  | some t => decide (t.1 = k) && (t.2.1.toList == x)
  | none => false)
def Rd.skip (r : Rd) : Rd := ⟨r.pos + 1, r.bad, r.all⟩
def Rd.wrong (r : Rd) : Rd := ⟨r.pos, true, r.all⟩
def Rd.want (L : List Tok) (r : Rd) (k : Int) (x : List UInt8) : Rd := if r.is L k x = true then r.skip else r.wrong
def Rd.nameT (L : List Tok) (r : Rd) : ByteArray × Rd := if r.bad = true then (noText, r.wrong) else match L[r.pos]? with
  | none => (noText, r.wrong)
  | some t => if t.1 = 0 ∧ nameB t.2.1 = true then (t.2.1, r.skip) else (noText, r.wrong)
def Rd.node (r : Rd) (n : Nd) : Int × Rd := (r.all.length, ⟨r.pos, r.bad, r.all ++ [n]⟩)
def expI (x : ByteArray) : Int := if x.size = 1 then (bt x 0 : Int) - 48 else if x.size = 2 ∧ bt x 1 ≠ 124 ∧ 10 * ((bt x 0 : Int) - 48) + bt x 1 - 48 ≤ 20 then 10 * ((bt x 0 : Int) - 48) + bt x 1 - 48 else -1
def Rd.powE (L : List Tok) (r : Rd) (a : Int) (fac : Int) : Int × Rd := if r.bad = true then (a, r.wrong) else match L[r.pos]? with
  | none => (a, r.wrong)
  | some t => if t.1 ≠ 1 then (a, r.wrong) else if expI t.2.1 < 0 then (a, r.wrong) else r.skip.node ⟨7, a, 0, fac * expI t.2.1, noText, (false, 0, 0)⟩
def Rd.powT (L : List Tok) (r : Rd) (a : Int) : Int × Rd := if r.is L 2 [94] = true then (if r.skip.is L 2 [45] = true then r.skip.skip.powE L a (-1) else r.skip.powE L a 1) else (a, r)
def Rd.leaf (num : ByteArray → Bool × Nat × Nat) (L : List Tok) (r : Rd) : Int × Rd := match (if r.bad = true then none else L[r.pos]?) with
  | some t => if t.1 = 1 then r.skip.node ⟨1, 0, 0, 0, noText, num t.2.1⟩ else (r.nameT L).2.node ⟨0, 0, 0, 0, (r.nameT L).1, (false, 0, 0)⟩
  | none => (r.nameT L).2.node ⟨0, 0, 0, 0, (r.nameT L).1, (false, 0, 0)⟩
def exprF (num : ByteArray → Bool × Nat × Nat) (L : List Tok) : Nat → Nat → Int → Rd → Int × Rd
  | 0, _, a, r => (a, r)
  | f + 1, 0, _, r => exprF num L f 1 (exprF num L f 2 0 r).1 (exprF num L f 2 0 r).2
  | f + 1, 1, a, r => if (r.is L 2 [43] || r.is L 2 [45]) = true then
      exprF num L f 1 ((exprF num L f 2 0 r.skip).2.node ⟨if r.is L 2 [45] = true then 3 else 2, a, (exprF num L f 2 0 r.skip).1, 0, noText, (false, 0, 0)⟩).1 ((exprF num L f 2 0 r.skip).2.node ⟨if r.is L 2 [45] = true then 3 else 2, a, (exprF num L f 2 0 r.skip).1, 0, noText, (false, 0, 0)⟩).2
    else (a, r)
  | f + 1, 2, _, r => exprF num L f 3 (exprF num L f 4 0 r).1 (exprF num L f 4 0 r).2
  | f + 1, 3, a, r => if (r.is L 2 [42] || r.is L 2 [47]) = true then
      exprF num L f 3 ((exprF num L f 4 0 r.skip).2.node ⟨if r.is L 2 [47] = true then 5 else 4, a, (exprF num L f 4 0 r.skip).1, 0, noText, (false, 0, 0)⟩).1 ((exprF num L f 4 0 r.skip).2.node ⟨if r.is L 2 [47] = true then 5 else 4, a, (exprF num L f 4 0 r.skip).1, 0, noText, (false, 0, 0)⟩).2
    else (a, r)
  | f + 1, 4, _, r => if r.is L 2 [45] = true then (exprF num L f 4 0 r.skip).2.node ⟨6, (exprF num L f 4 0 r.skip).1, 0, 0, noText, (false, 0, 0)⟩ else exprF num L f 5 0 r
  | f + 1, 5, _, r => (exprF num L f 6 0 r).2.powT L (exprF num L f 6 0 r).1
  | f + 1, _ + 6, _, r => if r.is L 2 [40] = true then ((exprF num L f 0 0 r.skip).1, (exprF num L f 0 0 r.skip).2.want L 2 [41]) else r.leaf num L
theorem Rd.is_in {L : List Tok} {r : Rd} {k : Int} {x : List UInt8} (h : r.is L k x = true) : r.bad = false ∧ r.pos < L.length := by
  unfold Rd.is at h
  rw [Bool.and_eq_true] at h
  refine ⟨by simpa using h.1, ?_⟩
  rcases Nat.lt_or_ge r.pos L.length with hl | hl
  · exact hl
  · rw [List.getElem?_eq_none hl] at h
    exact absurd h.2 (by simp)
structure Rd.On (r r' : Rd) : Prop where
  pos : r.pos ≤ r'.pos
  bad : r.bad = true → r'.bad = true ∧ r'.pos = r.pos
  all : ∃ m, r'.all = r.all ++ m
theorem Rd.On.refl (r : Rd) : r.On r := ⟨Nat.le_refl _, fun h => ⟨h, rfl⟩, [], by rw [List.append_nil]⟩
theorem Rd.On.trans {r s t : Rd} (h : r.On s) (k : s.On t) : r.On t := by
  refine ⟨Nat.le_trans h.pos k.pos, fun hb => ?_, ?_⟩
  · obtain ⟨h1, h2⟩ := h.bad hb
    obtain ⟨k1, k2⟩ := k.bad h1
    exact ⟨k1, k2.trans h2⟩
  · obtain ⟨m, hm⟩ := h.all
    obtain ⟨n, hn⟩ := k.all
    exact ⟨m ++ n, by rw [hn, hm, List.append_assoc]⟩
theorem Rd.on_skip {r : Rd} (h : r.bad = false) : r.On r.skip := ⟨Nat.le_succ _, fun e => by rw [h] at e; exact absurd e (by simp), [], by rw [List.append_nil]; rfl⟩
theorem Rd.on_wrong (r : Rd) : r.On r.wrong := ⟨Nat.le_refl _, fun _ => ⟨rfl, rfl⟩, [], by rw [List.append_nil]; rfl⟩
theorem Rd.on_node (r : Rd) (n : Nd) : r.On (r.node n).2 := ⟨Nat.le_refl _, fun h => ⟨h, rfl⟩, [n], rfl⟩
theorem Rd.on_want (L : List Tok) (r : Rd) (k : Int) (x : List UInt8) : r.On (r.want L k x) := by
  unfold Rd.want
  split
  · rename_i h; exact r.on_skip (r.is_in h).1
  · exact r.on_wrong
theorem Rd.on_name (L : List Tok) (r : Rd) : r.On (r.nameT L).2 := by
  unfold Rd.nameT
  split
  · exact r.on_wrong
  · rename_i hb
    split
    · exact r.on_wrong
    · split
      · exact r.on_skip (by simpa using hb)
      · exact r.on_wrong
theorem Rd.on_powE (L : List Tok) (r : Rd) (a fac : Int) : r.On (r.powE L a fac).2 := by
  unfold Rd.powE
  split
  · exact r.on_wrong
  · rename_i hb
    split
    · exact r.on_wrong
    · split
      · exact r.on_wrong
      · split
        · exact r.on_wrong
        · exact (r.on_skip (by simpa using hb)).trans (Rd.on_node _ _)
theorem Rd.on_powT (L : List Tok) (r : Rd) (a : Int) : r.On (r.powT L a).2 := by
  unfold Rd.powT
  split
  · rename_i h
    have h1 := r.on_skip (r.is_in h).1
    split
    · rename_i h2
      exact (h1.trans (Rd.on_skip (Rd.is_in h2).1)).trans (Rd.on_powE _ _ _ _)
    · exact h1.trans (Rd.on_powE _ _ _ _)
  · exact Rd.On.refl r
theorem Rd.on_leaf (num : ByteArray → Bool × Nat × Nat) (L : List Tok) (r : Rd) : r.On (r.leaf num L).2 := by
  unfold Rd.leaf
  by_cases hb : r.bad = true
  · rw [if_pos hb]
    exact (r.on_name L).trans (Rd.on_node _ _)
  · rw [if_neg hb]
    split
    · split
      · exact (r.on_skip (by simpa using hb)).trans (Rd.on_node _ _)
      · exact (r.on_name L).trans (Rd.on_node _ _)
    · exact (r.on_name L).trans (Rd.on_node _ _)
theorem on_expr (num : ByteArray → Bool × Nat × Nat) (L : List Tok) : ∀ (f m : Nat) (a : Int) (r : Rd), r.On (exprF num L f m a r).2 := by
  intro f
  induction f with
  | zero => intro m a r; unfold exprF; exact Rd.On.refl r
  | succ f ih =>
    intro m a r
    match m with
    | 0 => unfold exprF; exact (ih 2 0 r).trans (ih 1 _ _)
    | 1 =>
      unfold exprF
      split
      · rename_i h
        have hs : r.bad = false := by
          rcases Bool.or_eq_true_iff.1 h with h | h <;> exact (r.is_in h).1
        exact (((r.on_skip hs).trans (ih 2 0 r.skip)).trans (Rd.on_node _ _)).trans (ih 1 _ _)
      · exact Rd.On.refl r
    | 2 => unfold exprF; exact (ih 4 0 r).trans (ih 3 _ _)
    | 3 =>
      unfold exprF
      split
      · rename_i h
        have hs : r.bad = false := by
          rcases Bool.or_eq_true_iff.1 h with h | h <;> exact (r.is_in h).1
        exact (((r.on_skip hs).trans (ih 4 0 r.skip)).trans (Rd.on_node _ _)).trans (ih 3 _ _)
      · exact Rd.On.refl r
    | 4 =>
      unfold exprF
      split
      · rename_i h
        exact ((r.on_skip (r.is_in h).1).trans (ih 4 0 r.skip)).trans (Rd.on_node _ _)
      · exact ih 5 0 r
    | 5 => unfold exprF; exact (ih 6 0 r).trans (Rd.on_powT _ _ _)
    | m + 6 =>
      unfold exprF
      split
      · rename_i h
        exact ((r.on_skip (r.is_in h).1).trans (ih 0 0 r.skip)).trans (Rd.on_want _ _ _ _)
      · exact r.on_leaf num L
end Go.Proofs.YtbcfplaalepnbaaGreatDoor
namespace Go.Proofs.YtbcfplaalepnbaaGreatDoor
open Go.Lib
def rankE (m : Nat) : Nat := match m with
  | 0 => 5
  | 2 => 4
  | 4 => 3
  | 5 => 2
  | _ => 1
def needE (L : List Tok) (m : Nat) (r : Rd) : Nat := (L.length - r.pos) * 7 + rankE m
theorem needE_pos (L : List Tok) (m : Nat) (r : Rd) : 1 ≤ needE L m r := by
  unfold needE rankE
  split <;> omega
theorem needE_on {L : List Tok} {r r' : Rd} (h : r.On r') (m : Nat) : needE L m r' ≤ (L.length - r.pos) * 7 + rankE m := by
  have := h.pos
  unfold needE
  have : (L.length - r'.pos) * 7 ≤ (L.length - r.pos) * 7 := Nat.mul_le_mul_right _ (by omega)
  omega
theorem needE_skip {L : List Tok} {r : Rd} (h : r.pos < L.length) (m : Nat) : needE L m r.skip + 7 = (L.length - r.pos) * 7 + rankE m := by
  unfold needE
  show (L.length - (r.pos + 1)) * 7 + rankE m + 7 = _
  have : (L.length - r.pos) * 7 = (L.length - (r.pos + 1)) * 7 + 7 := by rw [show L.length - r.pos = (L.length - (r.pos + 1)) + 1 by omega, Nat.succ_mul]
  omega
theorem expr_more (num : ByteArray → Bool × Nat × Nat) (L : List Tok) : ∀ (f m : Nat) (a : Int) (r : Rd), needE L m r ≤ f → ∀ g, needE L m r ≤ g → exprF num L f m a r = exprF num L g m a r := by
  intro f
  induction f with
  | zero => intro m a r hf; have := needE_pos L m r; omega
  | succ f ih =>
    intro m a r hf g hg
    cases g with
    | zero => have := needE_pos L m r; omega
    | succ g =>
      match m with
      | 0 =>
        have e1 : rankE 0 = 5 := rfl
        have e2 : rankE 2 = 4 := rfl
        have e3 : rankE 1 = 1 := rfl
        unfold needE at hf hg
        unfold exprF
        rw [ih 2 0 r (by unfold needE; omega) g (by unfold needE; omega)]
        have := needE_on (L := L) (on_expr num L g 2 0 r) 1
        exact ih _ _ _ (by omega) g (by omega)
      | 1 =>
        have e2 : rankE 2 = 4 := rfl
        have e3 : rankE 1 = 1 := rfl
        unfold needE at hf hg
        unfold exprF
        by_cases h : (r.is L 2 [43] || r.is L 2 [45]) = true
        · have hs : r.bad = false ∧ r.pos < L.length := by
            rcases Bool.or_eq_true_iff.1 h with h | h <;> exact r.is_in h
          have n2 := needE_skip hs.2 2
          rw [if_pos h, if_pos h, ih 2 0 r.skip (by omega) g (by omega)]
          have n1 := needE_on (L := L) ((on_expr num L g 2 0 r.skip).trans (Rd.on_node _ ⟨if r.is L 2 [45] = true then 3 else 2, a, (exprF num L g 2 0 r.skip).1, 0, noText, (false, 0, 0)⟩)) 1
          have n3 := needE_skip hs.2 1
          unfold needE at n3
          exact ih _ _ _ (by omega) g (by omega)
        · rw [if_neg h, if_neg h]
      | 2 =>
        have e1 : rankE 2 = 4 := rfl
        have e2 : rankE 4 = 3 := rfl
        have e3 : rankE 3 = 1 := rfl
        unfold needE at hf hg
        unfold exprF
        rw [ih 4 0 r (by unfold needE; omega) g (by unfold needE; omega)]
        have := needE_on (L := L) (on_expr num L g 4 0 r) 3
        exact ih _ _ _ (by omega) g (by omega)
      | 3 =>
        have e2 : rankE 4 = 3 := rfl
        have e3 : rankE 3 = 1 := rfl
        unfold needE at hf hg
        unfold exprF
        by_cases h : (r.is L 2 [42] || r.is L 2 [47]) = true
        · have hs : r.bad = false ∧ r.pos < L.length := by
            rcases Bool.or_eq_true_iff.1 h with h | h <;> exact r.is_in h
          have n2 := needE_skip hs.2 4
          rw [if_pos h, if_pos h, ih 4 0 r.skip (by omega) g (by omega)]
          have n1 := needE_on (L := L) ((on_expr num L g 4 0 r.skip).trans (Rd.on_node _ ⟨if r.is L 2 [47] = true then 5 else 4, a, (exprF num L g 4 0 r.skip).1, 0, noText, (false, 0, 0)⟩)) 3
          have n3 := needE_skip hs.2 3
          unfold needE at n3
          exact ih _ _ _ (by omega) g (by omega)
        · rw [if_neg h, if_neg h]
      | 4 =>
        have e1 : rankE 4 = 3 := rfl
        have e2 : rankE 5 = 2 := rfl
        unfold needE at hf hg
        unfold exprF
        by_cases h : r.is L 2 [45] = true
        · have n2 := needE_skip (r.is_in h).2 4
          rw [if_pos h, if_pos h, ih 4 0 r.skip (by omega) g (by omega)]
        · rw [if_neg h, if_neg h]
          exact ih 5 0 r (by unfold needE; omega) g (by unfold needE; omega)
      | 5 =>
        have e1 : rankE 5 = 2 := rfl
        have e2 : rankE 6 = 1 := rfl
        unfold needE at hf hg
        unfold exprF
        rw [ih 6 0 r (by unfold needE; omega) g (by unfold needE; omega)]
      | m + 6 =>
        have e1 : rankE (m + 6) = 1 := rfl
        have e2 : rankE 0 = 5 := rfl
        unfold needE at hf hg
        unfold exprF
        by_cases h : r.is L 2 [40] = true
        · have n2 := needE_skip (r.is_in h).2 0
          rw [if_pos h, if_pos h, ih 0 0 r.skip (by omega) g (by omega)]
        · rw [if_neg h, if_neg h]
def exprI (num : ByteArray → Bool × Nat × Nat) (L : List Tok) (m : Nat) (a : Int) (r : Rd) : Int × Rd := exprF num L (needE L m r) m a r
theorem exprI_of (num : ByteArray → Bool × Nat × Nat) (L : List Tok) {f m : Nat} {a : Int} {r : Rd} (h : needE L m r ≤ f) : exprF num L f m a r = exprI num L m a r := expr_more num L f m a r h _ (Nat.le_refl _)
theorem on_exprI (num : ByteArray → Bool × Nat × Nat) (L : List Tok) (m : Nat) (a : Int) (r : Rd) : r.On (exprI num L m a r).2 := on_expr num L _ m a r
theorem expr_sum (num : ByteArray → Bool × Nat × Nat) (L : List Tok) (a : Int) (r : Rd) : exprI num L 0 a r = exprI num L 1 (exprI num L 2 0 r).1 (exprI num L 2 0 r).2 := by
  have e1 : rankE 0 = 5 := rfl
  have e2 : rankE 2 = 4 := rfl
  have e3 : rankE 1 = 1 := rfl
  have := needE_on (L := L) (on_exprI num L 2 0 r) 1
  conv => lhs; unfold exprI
  rw [show needE L 0 r = (needE L 0 r - 1) + 1 by have := needE_pos L 0 r; omega]
  unfold exprF
  rw [exprI_of num L (m := 2) (by unfold needE; omega), exprI_of num L (m := 1) (by unfold needE at this ⊢; omega)]
theorem expr_more_sum (num : ByteArray → Bool × Nat × Nat) (L : List Tok) (a : Int) (r : Rd) : exprI num L 1 a r = if (r.is L 2 [43] || r.is L 2 [45]) = true then
    exprI num L 1 ((exprI num L 2 0 r.skip).2.node ⟨if r.is L 2 [45] = true then 3 else 2, a, (exprI num L 2 0 r.skip).1, 0, noText, (false, 0, 0)⟩).1 ((exprI num L 2 0 r.skip).2.node ⟨if r.is L 2 [45] = true then 3 else 2, a, (exprI num L 2 0 r.skip).1, 0, noText, (false, 0, 0)⟩).2 else (a, r) := by
  have e2 : rankE 2 = 4 := rfl
  have e3 : rankE 1 = 1 := rfl
  conv => lhs; unfold exprI
  rw [show needE L 1 r = (needE L 1 r - 1) + 1 by have := needE_pos L 1 r; omega]
  unfold exprF
  by_cases h : (r.is L 2 [43] || r.is L 2 [45]) = true
  · have hs : r.bad = false ∧ r.pos < L.length := by
      rcases Bool.or_eq_true_iff.1 h with h | h <;> exact r.is_in h
    have n2 := needE_skip hs.2 2
    have n3 := needE_skip hs.2 1
    have n1 := needE_on (L := L) ((on_exprI num L 2 0 r.skip).trans (Rd.on_node _ ⟨if r.is L 2 [45] = true then 3 else 2, a, (exprI num L 2 0 r.skip).1, 0, noText, (false, 0, 0)⟩)) 1
    rw [if_pos h, if_pos h, exprI_of num L (m := 2) (by unfold needE at n2 ⊢; omega), exprI_of num L (m := 1) (by unfold needE at n1 n3 ⊢; omega)]
  · rw [if_neg h, if_neg h]
theorem expr_product (num : ByteArray → Bool × Nat × Nat) (L : List Tok) (a : Int) (r : Rd) : exprI num L 2 a r = exprI num L 3 (exprI num L 4 0 r).1 (exprI num L 4 0 r).2 := by
  have e1 : rankE 2 = 4 := rfl
  have e2 : rankE 4 = 3 := rfl
  have e3 : rankE 3 = 1 := rfl
  have := needE_on (L := L) (on_exprI num L 4 0 r) 3
  conv => lhs; unfold exprI
  rw [show needE L 2 r = (needE L 2 r - 1) + 1 by have := needE_pos L 2 r; omega]
  unfold exprF
  rw [exprI_of num L (m := 4) (by unfold needE; omega), exprI_of num L (m := 3) (by unfold needE at this ⊢; omega)]
theorem expr_more_product (num : ByteArray → Bool × Nat × Nat) (L : List Tok) (a : Int) (r : Rd) : exprI num L 3 a r = if (r.is L 2 [42] || r.is L 2 [47]) = true then
    exprI num L 3 ((exprI num L 4 0 r.skip).2.node ⟨if r.is L 2 [47] = true then 5 else 4, a, (exprI num L 4 0 r.skip).1, 0, noText, (false, 0, 0)⟩).1 ((exprI num L 4 0 r.skip).2.node ⟨if r.is L 2 [47] = true then 5 else 4, a, (exprI num L 4 0 r.skip).1, 0, noText, (false, 0, 0)⟩).2 else (a, r) := by
  have e2 : rankE 4 = 3 := rfl
  have e3 : rankE 3 = 1 := rfl
  conv => lhs; unfold exprI
  rw [show needE L 3 r = (needE L 3 r - 1) + 1 by have := needE_pos L 3 r; omega]
  unfold exprF
  by_cases h : (r.is L 2 [42] || r.is L 2 [47]) = true
  · have hs : r.bad = false ∧ r.pos < L.length := by
      rcases Bool.or_eq_true_iff.1 h with h | h <;> exact r.is_in h
    have n2 := needE_skip hs.2 4
    have n3 := needE_skip hs.2 3
    have n1 := needE_on (L := L) ((on_exprI num L 4 0 r.skip).trans (Rd.on_node _ ⟨if r.is L 2 [47] = true then 5 else 4, a, (exprI num L 4 0 r.skip).1, 0, noText, (false, 0, 0)⟩)) 3
    rw [if_pos h, if_pos h, exprI_of num L (m := 4) (by unfold needE at n2 ⊢; omega), exprI_of num L (m := 3) (by unfold needE at n1 n3 ⊢; omega)]
  · rw [if_neg h, if_neg h]
theorem expr_factor (num : ByteArray → Bool × Nat × Nat) (L : List Tok) (a : Int) (r : Rd) : exprI num L 4 a r = if r.is L 2 [45] = true then (exprI num L 4 0 r.skip).2.node ⟨6, (exprI num L 4 0 r.skip).1, 0, 0, noText, (false, 0, 0)⟩ else exprI num L 5 0 r := by
  have e1 : rankE 4 = 3 := rfl
  have e2 : rankE 5 = 2 := rfl
  conv => lhs; unfold exprI
  rw [show needE L 4 r = (needE L 4 r - 1) + 1 by have := needE_pos L 4 r; omega]
  unfold exprF
  by_cases h : r.is L 2 [45] = true
  · have n2 := needE_skip (r.is_in h).2 4
    rw [if_pos h, if_pos h, exprI_of num L (m := 4) (by unfold needE at n2 ⊢; omega)]
  · rw [if_neg h, if_neg h, exprI_of num L (m := 5) (by unfold needE; omega)]
theorem expr_power (num : ByteArray → Bool × Nat × Nat) (L : List Tok) (a : Int) (r : Rd) : exprI num L 5 a r = (exprI num L 6 0 r).2.powT L (exprI num L 6 0 r).1 := by
  have e1 : rankE 5 = 2 := rfl
  have e2 : rankE 6 = 1 := rfl
  conv => lhs; unfold exprI
  rw [show needE L 5 r = (needE L 5 r - 1) + 1 by have := needE_pos L 5 r; omega]
  unfold exprF
  rw [exprI_of num L (m := 6) (by unfold needE; omega)]
theorem expr_atom (num : ByteArray → Bool × Nat × Nat) (L : List Tok) (a : Int) (r : Rd) : exprI num L 6 a r = if r.is L 2 [40] = true then ((exprI num L 0 0 r.skip).1, (exprI num L 0 0 r.skip).2.want L 2 [41]) else r.leaf num L := by
  have e1 : rankE 6 = 1 := rfl
  have e2 : rankE 0 = 5 := rfl
  conv => lhs; unfold exprI
  rw [show needE L 6 r = (needE L 6 r - 1) + 1 by have := needE_pos L 6 r; omega]
  unfold exprF
  by_cases h : r.is L 2 [40] = true
  · have n2 := needE_skip (r.is_in h).2 0
    rw [if_pos h, if_pos h, exprI_of num L (m := 0) (by unfold needE at n2 ⊢; omega)]
  · rw [if_neg h, if_neg h]
end Go.Proofs.YtbcfplaalepnbaaGreatDoor
namespace Go.Proofs.YtbcfplaalepnbaaGreatDoor
open Go.Lib
def Seg (l : List Nd) (s i : Nat) : Prop := ∀ P : Nat → Nat → Prop,
  (∀ i n, l[i]? = some n → (n.kind = 0 ∨ n.kind = 1) → P i i) →
  (∀ s i n, P s i → l[i + 1]? = some n → (n.kind = 6 ∨ n.kind = 7) → n.a = (i : Int) → P s (i + 1)) →
  (∀ s j i n, P s j → P (j + 1) i → l[i + 1]? = some n → 2 ≤ n.kind → n.kind ≤ 5 → n.a = (j : Int) → n.b = (i : Int) → P s (i + 1)) → P s i
theorem Seg.leaf {l : List Nd} {i : Nat} {n : Nd} (h : l[i]? = some n) (hk : n.kind = 0 ∨ n.kind = 1) : Seg l i i := fun _ h1 _ _ => h1 i n h hk
theorem Seg.one {l : List Nd} {s i : Nat} {n : Nd} (hs : Seg l s i) (h : l[i + 1]? = some n) (hk : n.kind = 6 ∨ n.kind = 7) (ha : n.a = (i : Int)) : Seg l s (i + 1) := fun P h1 h2 h3 => h2 s i n (hs P h1 h2 h3) h hk ha
theorem Seg.two {l : List Nd} {s j i : Nat} {n : Nd} (hs : Seg l s j) (ht : Seg l (j + 1) i) (h : l[i + 1]? = some n) (h2 : 2 ≤ n.kind) (h5 : n.kind ≤ 5) (ha : n.a = (j : Int)) (hb : n.b = (i : Int)) : Seg l s (i + 1) := fun P h1 h2' h3 => h3 s j i n (hs P h1 h2' h3) (ht P h1 h2' h3) h h2 h5 ha hb
theorem get_more {l m : List Nd} {i : Nat} {n : Nd} (h : l[i]? = some n) : (l ++ m)[i]? = some n := by
  rw [List.getElem?_append_left (List.getElem?_eq_some_iff.1 h).1]; exact h
theorem Seg.more {l : List Nd} (m : List Nd) {s i : Nat} (h : Seg l s i) : Seg (l ++ m) s i :=
  h (fun s i => Seg (l ++ m) s i) (fun _ _ h hk => Seg.leaf (get_more h) hk) (fun _ _ _ hs h hk ha => hs.one (get_more h) hk ha) (fun _ _ _ _ hs ht h h2 h5 ha hb => hs.two ht (get_more h) h2 h5 ha hb)
theorem Seg.le {l : List Nd} {s i : Nat} (h : Seg l s i) : s ≤ i ∧ i < l.length :=
  h (fun s i => s ≤ i ∧ i < l.length) (fun _ _ h _ => ⟨Nat.le_refl _, (List.getElem?_eq_some_iff.1 h).1⟩) (fun _ _ _ hs h _ _ => ⟨by omega, (List.getElem?_eq_some_iff.1 h).1⟩) (fun _ _ _ _ hs ht h _ _ _ _ => ⟨by omega, (List.getElem?_eq_some_iff.1 h).1⟩)
def Read (r : Rd) (x : Int) (r' : Rd) : Prop := ∃ i : Nat, x = (i : Int) ∧ r'.all.length = i + 1 ∧ Seg r'.all r.all.length i
theorem leaf_read (num : ByteArray → Bool × Nat × Nat) (L : List Tok) (r : Rd) : Read r (r.leaf num L).1 (r.leaf num L).2 := by
  have key : ∀ (q : Rd) (n : Nd), (∃ m, q.all = r.all ++ m ∧ m = []) → (n.kind = 0 ∨ n.kind = 1) → Read r (q.node n).1 (q.node n).2 := by
    rintro q n ⟨m, hm, rfl⟩ hk
    rw [List.append_nil] at hm
    refine ⟨q.all.length, rfl, ?_, ?_⟩
    · show (q.all ++ [n]).length = _; simp
    · show Seg (q.all ++ [n]) r.all.length q.all.length
      rw [hm]
      exact Seg.leaf (n := n) (by rw [List.getElem?_append_right (Nat.le_refl _), Nat.sub_self]; rfl) hk
  have hn : ∃ m, (r.nameT L).2.all = r.all ++ m ∧ m = [] := by
    refine ⟨[], ?_, rfl⟩
    rw [List.append_nil]
    unfold Rd.nameT
    split
    · rfl
    · split
      · rfl
      · split <;> rfl
  unfold Rd.leaf
  by_cases hb : r.bad = true
  · rw [if_pos hb]; exact key _ _ hn (.inl rfl)
  · rw [if_neg hb]
    split
    · split
      · exact key _ _ ⟨[], by rw [List.append_nil]; rfl, rfl⟩ (.inr rfl)
      · exact key _ _ hn (.inl rfl)
    · exact key _ _ hn (.inl rfl)
theorem powE_read {L : List Tok} {r0 r : Rd} {a fac : Int} (h : Read r0 a r) (hb : (r.powE L a fac).2.bad = false) : Read r0 (r.powE L a fac).1 (r.powE L a fac).2 := by
  obtain ⟨i, rfl, hl, hs⟩ := h
  unfold Rd.powE at hb ⊢
  split at hb
  · exact absurd hb (by simp [Rd.wrong])
  · rename_i h0
    rw [if_neg h0]
    split at hb
    · exact absurd hb (by simp [Rd.wrong])
    · rename_i t ht
      split at hb
      · exact absurd hb (by simp [Rd.wrong])
      · rename_i h1
        split at hb
        · exact absurd hb (by simp [Rd.wrong])
        · rename_i h2
          rw [if_neg h1, if_neg h2]
          refine ⟨i + 1, ?_, ?_, ?_⟩
          · show ((r.all.length : Nat) : Int) = _; rw [hl]
          · show (r.all ++ [_]).length = _; rw [List.length_append, hl]; rfl
          · refine Seg.one (n := ⟨7, (i : Int), 0, fac * expI t.2.1, noText, (false, 0, 0)⟩) (hs.more _) ?_ (.inr rfl) rfl
            show (r.all ++ [_])[i + 1]? = _
            rw [← hl, List.getElem?_append_right (Nat.le_refl _), Nat.sub_self]; rfl
theorem Rd.good_of {r r' : Rd} (h : r.On r') (hb : r'.bad = false) : r.bad = false := by
  cases e : r.bad with
  | false => rfl
  | true => rw [(h.bad e).1] at hb; exact absurd hb (by simp)
theorem powT_read {L : List Tok} {r0 r : Rd} {a : Int} (h : Read r0 a r) (hb : (r.powT L a).2.bad = false) : Read r0 (r.powT L a).1 (r.powT L a).2 := by
  unfold Rd.powT at hb ⊢
  split at hb
  · rename_i h1
    rw [if_pos h1]
    split at hb
    · rename_i h2
      rw [if_pos h2]; exact powE_read (r := r.skip.skip) h hb
    · rename_i h2
      rw [if_neg h2]; exact powE_read (r := r.skip) h hb
  · rename_i h1
    rw [if_neg h1]; exact h
theorem two_read {r0 r q : Rd} {a x : Int} {n : Nd} (h : Read r0 a r) (k : Read r x q) (hq : ∃ m, q.all = r.all ++ m) (h2 : 2 ≤ n.kind) (h5 : n.kind ≤ 5) (ha : n.a = a) (hb : n.b = x) : Read r0 (q.node n).1 (q.node n).2 := by
  obtain ⟨j, rfl, hl, hs⟩ := h
  obtain ⟨i, rfl, hl2, hs2⟩ := k
  obtain ⟨m, hm⟩ := hq
  refine ⟨i + 1, ?_, ?_, ?_⟩
  · show ((q.all.length : Nat) : Int) = _; rw [hl2]
  · show (q.all ++ [_]).length = _; rw [List.length_append, hl2]; rfl
  · show Seg (q.all ++ [n]) _ _
    rw [hl] at hs2
    have hs1 := hs.more m
    rw [← hm] at hs1
    refine Seg.two (hs1.more _) (hs2.more _) ?_ h2 h5 ha hb
    rw [← hl2, List.getElem?_append_right (Nat.le_refl _), Nat.sub_self]; rfl
theorem expr_read (num : ByteArray → Bool × Nat × Nat) (L : List Tok) : ∀ (f m : Nat) (a : Int) (r : Rd), needE L m r ≤ f → (exprF num L f m a r).2.bad = false →
    (m ≠ 1 → m ≠ 3 → Read r (exprF num L f m a r).1 (exprF num L f m a r).2) ∧ (m = 1 ∨ m = 3 → ∀ r0, Read r0 a r → Read r0 (exprF num L f m a r).1 (exprF num L f m a r).2) := by
  intro f
  induction f with
  | zero => intro m a r hf; have := needE_pos L m r; omega
  | succ f ih =>
    intro m a r hf hb
    match m with
    | 0 =>
      have e1 : rankE 0 = 5 := rfl
      have e2 : rankE 2 = 4 := rfl
      have e3 : rankE 1 = 1 := rfl
      unfold needE at hf
      unfold exprF at hb ⊢
      have n1 := needE_on (L := L) (on_expr num L f 2 0 r) 1
      have g := Rd.good_of (on_expr num L f 1 _ _) hb
      have h1 := (ih 2 0 r (by unfold needE; omega) g).1 (by omega) (by omega)
      exact ⟨fun _ _ => (ih 1 _ _ (by omega) hb).2 (.inl rfl) r h1, fun h => by omega⟩
    | 1 =>
      have e2 : rankE 2 = 4 := rfl
      have e3 : rankE 1 = 1 := rfl
      unfold needE at hf
      refine ⟨fun h => absurd rfl h, fun _ r0 h0 => ?_⟩
      unfold exprF at hb ⊢
      by_cases h : (r.is L 2 [43] || r.is L 2 [45]) = true
      · rw [if_pos h] at hb ⊢
        have hs : r.bad = false ∧ r.pos < L.length := by
          rcases Bool.or_eq_true_iff.1 h with h | h <;> exact r.is_in h
        have n2 := needE_skip hs.2 2
        have n3 := needE_skip hs.2 1
        have o := (on_expr num L f 2 0 r.skip).trans (Rd.on_node _ ⟨if r.is L 2 [45] = true then 3 else 2, a, (exprF num L f 2 0 r.skip).1, 0, noText, (false, 0, 0)⟩)
        have n1 := needE_on (L := L) o 1
        have g := Rd.good_of (on_expr num L f 1 _ _) hb
        have h1 := (ih 2 0 r.skip (by omega) g).1 (by omega) (by omega)
        obtain ⟨mm, hmm⟩ := (on_expr num L f 2 0 r.skip).all
        have h2 := two_read (n := ⟨if r.is L 2 [45] = true then 3 else 2, a, (exprF num L f 2 0 r.skip).1, 0, noText, (false, 0, 0)⟩) h0 (r := r) h1 ⟨mm, hmm⟩ (by dsimp only; split <;> omega) (by dsimp only; split <;> omega) rfl rfl
        exact (ih 1 _ _ (by unfold needE at n3 n1 ⊢; omega) hb).2 (.inl rfl) r0 h2
      · rw [if_neg h]; exact h0
    | 2 =>
      have e1 : rankE 2 = 4 := rfl
      have e2 : rankE 4 = 3 := rfl
      have e3 : rankE 3 = 1 := rfl
      unfold needE at hf
      unfold exprF at hb ⊢
      have n1 := needE_on (L := L) (on_expr num L f 4 0 r) 3
      have g := Rd.good_of (on_expr num L f 3 _ _) hb
      have h1 := (ih 4 0 r (by unfold needE; omega) g).1 (by omega) (by omega)
      exact ⟨fun _ _ => (ih 3 _ _ (by omega) hb).2 (.inr rfl) r h1, fun h => by omega⟩
    | 3 =>
      have e2 : rankE 4 = 3 := rfl
      have e3 : rankE 3 = 1 := rfl
      unfold needE at hf
      refine ⟨fun _ h => absurd rfl h, fun _ r0 h0 => ?_⟩
      unfold exprF at hb ⊢
      by_cases h : (r.is L 2 [42] || r.is L 2 [47]) = true
      · rw [if_pos h] at hb ⊢
        have hs : r.bad = false ∧ r.pos < L.length := by
          rcases Bool.or_eq_true_iff.1 h with h | h <;> exact r.is_in h
        have n2 := needE_skip hs.2 4
        have n3 := needE_skip hs.2 3
        have o := (on_expr num L f 4 0 r.skip).trans (Rd.on_node _ ⟨if r.is L 2 [47] = true then 5 else 4, a, (exprF num L f 4 0 r.skip).1, 0, noText, (false, 0, 0)⟩)
        have n1 := needE_on (L := L) o 3
        have g := Rd.good_of (on_expr num L f 3 _ _) hb
        have h1 := (ih 4 0 r.skip (by omega) g).1 (by omega) (by omega)
        obtain ⟨mm, hmm⟩ := (on_expr num L f 4 0 r.skip).all
        have h2 := two_read (n := ⟨if r.is L 2 [47] = true then 5 else 4, a, (exprF num L f 4 0 r.skip).1, 0, noText, (false, 0, 0)⟩) h0 (r := r) h1 ⟨mm, hmm⟩ (by dsimp only; split <;> omega) (by dsimp only; split <;> omega) rfl rfl
        exact (ih 3 _ _ (by unfold needE at n3 n1 ⊢; omega) hb).2 (.inr rfl) r0 h2
      · rw [if_neg h]; exact h0
    | 4 =>
      have e1 : rankE 4 = 3 := rfl
      have e2 : rankE 5 = 2 := rfl
      unfold needE at hf
      refine ⟨fun _ _ => ?_, fun h => by omega⟩
      unfold exprF at hb ⊢
      by_cases h : r.is L 2 [45] = true
      · rw [if_pos h] at hb ⊢
        have n2 := needE_skip (r.is_in h).2 4
        obtain ⟨i, h1, h2, h3⟩ := (ih 4 0 r.skip (by omega) hb).1 (by omega) (by omega)
        refine ⟨i + 1, ?_, ?_, ?_⟩
        · show (((exprF num L f 4 0 r.skip).2.all.length : Nat) : Int) = _; rw [h2]
        · show ((exprF num L f 4 0 r.skip).2.all ++ [_]).length = _; rw [List.length_append, h2]; rfl
        · refine Seg.one (n := ⟨6, (exprF num L f 4 0 r.skip).1, 0, 0, noText, (false, 0, 0)⟩) (h3.more _) ?_ (.inl rfl) h1
          show ((exprF num L f 4 0 r.skip).2.all ++ [_])[i + 1]? = _
          rw [← h2, List.getElem?_append_right (Nat.le_refl _), Nat.sub_self]; rfl
      · rw [if_neg h] at hb ⊢
        exact (ih 5 0 r (by unfold needE; omega) hb).1 (by omega) (by omega)
    | 5 =>
      have e1 : rankE 5 = 2 := rfl
      have e2 : rankE 6 = 1 := rfl
      unfold needE at hf
      refine ⟨fun _ _ => ?_, fun h => by omega⟩
      unfold exprF at hb ⊢
      have g := Rd.good_of (Rd.on_powT L _ _) hb
      exact powT_read ((ih 6 0 r (by unfold needE; omega) g).1 (by omega) (by omega)) hb
    | m + 6 =>
      have e1 : rankE (m + 6) = 1 := rfl
      have e2 : rankE 0 = 5 := rfl
      unfold needE at hf
      refine ⟨fun _ _ => ?_, fun h => by omega⟩
      unfold exprF at hb ⊢
      by_cases h : r.is L 2 [40] = true
      · rw [if_pos h] at hb ⊢
        have n2 := needE_skip (r.is_in h).2 0
        have g := Rd.good_of (Rd.on_want L _ 2 [41]) hb
        obtain ⟨i, h1, h2, h3⟩ := (ih 0 0 r.skip (by omega) g).1 (by omega) (by omega)
        have hw : ((exprF num L f 0 0 r.skip).2.want L 2 [41]).all = (exprF num L f 0 0 r.skip).2.all := by unfold Rd.want; split <;> rfl
        exact ⟨i, h1, by rw [← h2, ← hw], by rw [hw]; exact h3⟩
      · rw [if_neg h]; exact leaf_read num L r
end Go.Proofs.YtbcfplaalepnbaaGreatDoor
namespace Go.Proofs.YtbcfplaalepnbaaGreatDoor
open Go.Lib
theorem seg_parts {l : List Nd} {b i : Nat} (h : Seg l b i) : ∀ p n, b ≤ p → p ≤ i → l[p]? = some n → 2 ≤ n.kind → (b : Int) ≤ n.a ∧ n.a < p ∧ (n.kind ≤ 5 → (b : Int) ≤ n.b ∧ n.b < p) := by
  refine (h (fun b i => Seg l b i ∧ ∀ p n, b ≤ p → p ≤ i → l[p]? = some n → 2 ≤ n.kind → (b : Int) ≤ n.a ∧ n.a < p ∧ (n.kind ≤ 5 → (b : Int) ≤ n.b ∧ n.b < p)) ?_ ?_ ?_).2
  · intro i n hn hk
    refine ⟨Seg.leaf hn hk, fun p m h1 h2 hm hk2 => ?_⟩
    obtain rfl : p = i := by omega
    rw [hn] at hm
    obtain rfl := Option.some.inj hm
    omega
  · intro b i n ⟨hs, ih⟩ hn hk ha
    have hle := hs.le
    refine ⟨hs.one hn hk ha, fun p m h1 h2 hm hk2 => ?_⟩
    by_cases hp : p ≤ i
    · exact ih p m h1 hp hm hk2
    · obtain rfl : p = i + 1 := by omega
      rw [hn] at hm
      obtain rfl := Option.some.inj hm
      rw [ha]
      exact ⟨by omega, by omega, fun h => by omega⟩
  · intro b j i n ⟨hs, ih⟩ ⟨ht, ih2⟩ hn h2 h5 ha hb
    have hle := hs.le
    have hle2 := ht.le
    refine ⟨hs.two ht hn h2 h5 ha hb, fun p m h1 h2' hm hk2 => ?_⟩
    by_cases hp : p ≤ j
    · exact ih p m h1 hp hm hk2
    · by_cases hp2 : p ≤ i
      · obtain ⟨q1, q2, q3⟩ := ih2 p m (by omega) hp2 hm hk2
        exact ⟨by omega, q2, fun h => by have := q3 h; omega⟩
      · obtain rfl : p = i + 1 := by omega
        rw [hn] at hm
        obtain rfl := Option.some.inj hm
        rw [ha, hb]
        exact ⟨by omega, by omega, fun _ => by omega⟩
end Go.Proofs.YtbcfplaalepnbaaGreatDoor
namespace Go.Proofs.YtbcfplaalepnbaaGreatDoor
open Go.Lib
def moreN (L : List Tok) : Nat → List ByteArray → Rd → List ByteArray × Rd
  | 0, out, r => (out, r)
  | f + 1, out, r => if r.is L 2 [44] = true then moreN L f (out ++ [(r.skip.nameT L).1]) (r.skip.nameT L).2 else (out, r)
def namesI (L : List Tok) (r : Rd) : List ByteArray × Rd :=
  ((moreN L (L.length + 1) [(r.nameT L).1] (r.nameT L).2).1, (moreN L (L.length + 1) [(r.nameT L).1] (r.nameT L).2).2.want L 2 [59])
def oneLet (num : ByteArray → Bool × Nat × Nat) (L : List Tok) (r : Rd) : (ByteArray × Int) × Rd :=
  (((r.nameT L).1, (exprI num L 0 0 ((r.nameT L).2.want L 2 [61])).1), (exprI num L 0 0 ((r.nameT L).2.want L 2 [61])).2.want L 2 [59])
def letsF (num : ByteArray → Bool × Nat × Nat) (L : List Tok) : Nat → List (ByteArray × Int) → Rd → List (ByteArray × Int) × Rd
  | 0, out, r => (out, r)
  | f + 1, out, r => if r.is L 0 [108, 101, 116] = true then letsF num L f (out ++ [(oneLet num L r.skip).1]) (oneLet num L r.skip).2 else (out, r)
structure Pg where
  ins : List ByteArray
  lets : List (ByteArray × Int)
  outs : List ByteArray
  all : List Nd
def noPg : Pg := ⟨[], [], [], []⟩
def startR : Rd := ⟨0, false, []⟩
def insI (L : List Tok) : List ByteArray × Rd := namesI L (startR.want L 0 [105, 110])
def letsI (num : ByteArray → Bool × Nat × Nat) (L : List Tok) : List (ByteArray × Int) × Rd := letsF num L (L.length + 1) [] (insI L).2
def outsI (num : ByteArray → Bool × Nat × Nat) (L : List Tok) : List ByteArray × Rd := namesI L ((letsI num L).2.want L 0 [111, 117, 116])
def progI (num : ByteArray → Bool × Nat × Nat) (L : List Tok) : Pg × Rd :=
  (⟨(insI L).1, (letsI num L).1, (outsI num L).1, (outsI num L).2.all⟩, if (outsI num L).2.pos < L.length then (outsI num L).2.wrong else (outsI num L).2)
def tallF (l : List Nd) : Nat → Int → Int
  | 0, _ => 0
  | f + 1, i => match l[i.toNat]? with
    | none => 0
    | some n => if n.kind ≤ 1 then 1 else if n.kind ≤ 5 then 1 + max (tallF l f n.a) (tallF l f n.b) else 1 + tallF l f n.a
def tallI (l : List Nd) (i : Nat) : Int := tallF l (i + 1) i
theorem on_more (L : List Tok) : ∀ (f : Nat) (out : List ByteArray) (r : Rd), r.On (moreN L f out r).2 ∧ (moreN L f out r).2.all = r.all ∧ ∃ m, (moreN L f out r).1 = out ++ m := by
  intro f
  induction f with
  | zero => intro out r; exact ⟨Rd.On.refl r, rfl, [], by rw [List.append_nil]; rfl⟩
  | succ f ih =>
    intro out r
    unfold moreN
    split
    · rename_i h
      obtain ⟨h1, h2, m, h3⟩ := ih (out ++ [(r.skip.nameT L).1]) (r.skip.nameT L).2
      have ha : (r.skip.nameT L).2.all = r.all := by
        unfold Rd.nameT
        split
        · rfl
        · split
          · rfl
          · split <;> rfl
      exact ⟨((r.on_skip (r.is_in h).1).trans (Rd.on_name L _)).trans h1, h2.trans ha, _, by rw [h3, List.append_assoc]⟩
    · exact ⟨Rd.On.refl r, rfl, [], by rw [List.append_nil]⟩
theorem want_all (L : List Tok) (r : Rd) (k : Int) (x : List UInt8) : (r.want L k x).all = r.all := by unfold Rd.want; split <;> rfl
theorem name_all (L : List Tok) (r : Rd) : (r.nameT L).2.all = r.all := by
  unfold Rd.nameT
  split
  · rfl
  · split
    · rfl
    · split <;> rfl
theorem on_names (L : List Tok) (r : Rd) : r.On (namesI L r).2 ∧ (namesI L r).2.all = r.all := by
  unfold namesI
  obtain ⟨h1, h2, -⟩ := on_more L (L.length + 1) [(r.nameT L).1] (r.nameT L).2
  exact ⟨((Rd.on_name L r).trans h1).trans (Rd.on_want L _ _ _), by rw [want_all, h2, name_all]⟩
theorem name_good {L : List Tok} {r : Rd} (h : (r.nameT L).2.bad = false) : nameB (r.nameT L).1 = true ∧ ∃ t, L[r.pos]? = some t ∧ t.1 = 0 ∧ (r.nameT L).1 = t.2.1 ∧ (r.nameT L).2 = r.skip := by
  unfold Rd.nameT at h ⊢
  split at h
  · exact absurd h (by simp [Rd.wrong])
  · rename_i h0
    rw [if_neg h0]
    split at h
    · exact absurd h (by simp [Rd.wrong])
    · rename_i t ht
      split at h
      · rename_i h1
        rw [if_pos h1]
        exact ⟨h1.2, t, ht, h1.1, rfl, rfl⟩
      · exact absurd h (by simp [Rd.wrong])
theorem more_good (L : List Tok) : ∀ (f : Nat) (out : List ByteArray) (r : Rd), (moreN L f out r).2.bad = false → (∀ x ∈ out, nameB x = true) → ∀ x ∈ (moreN L f out r).1, nameB x = true := by
  intro f
  induction f with
  | zero => intro out r _ h; exact h
  | succ f ih =>
    intro out r hb h
    unfold moreN at hb ⊢
    split at hb
    · rename_i h1
      rw [if_pos h1]
      refine ih _ _ hb (fun x hx => ?_)
      rcases List.mem_append.1 hx with hx | hx
      · exact h x hx
      · obtain rfl := List.mem_singleton.1 hx
        exact (name_good (Rd.good_of (on_more L f _ _).1 hb)).1
    · rename_i h1
      rw [if_neg h1]; exact h
theorem names_good {L : List Tok} {r : Rd} (h : (namesI L r).2.bad = false) : 1 ≤ (namesI L r).1.length ∧ ∀ x ∈ (namesI L r).1, nameB x = true := by
  unfold namesI at h ⊢
  have h1 := Rd.good_of (Rd.on_want L _ _ _) h
  obtain ⟨o1, -, m, hm⟩ := on_more L (L.length + 1) [(r.nameT L).1] (r.nameT L).2
  have h2 := Rd.good_of o1 h1
  refine ⟨by show 1 ≤ (moreN L (L.length + 1) [(r.nameT L).1] (r.nameT L).2).1.length; rw [hm]; simp, ?_⟩
  refine more_good L _ _ _ h1 (fun x hx => ?_)
  obtain rfl := List.mem_singleton.1 hx
  exact (name_good h2).1
def LetsEnd (all : List Nd) : Nat → List (ByteArray × Int) → Nat → Prop
  | b, [], e => b = e
  | b, x :: m, e => ∃ i : Nat, x.2 = (i : Int) ∧ nameB x.1 = true ∧ Seg all b i ∧ LetsEnd all (i + 1) m e
theorem on_let (num : ByteArray → Bool × Nat × Nat) (L : List Tok) (r : Rd) : r.On (oneLet num L r).2 := by
  unfold oneLet
  exact (((Rd.on_name L r).trans (Rd.on_want L _ _ _)).trans (on_exprI num L 0 0 _)).trans (Rd.on_want L _ _ _)
theorem let_good {num : ByteArray → Bool × Nat × Nat} {L : List Tok} {r : Rd} (h : (oneLet num L r).2.bad = false) : ∃ i : Nat, (oneLet num L r).1.2 = (i : Int) ∧ nameB (oneLet num L r).1.1 = true ∧ Seg (oneLet num L r).2.all r.all.length i ∧ (oneLet num L r).2.all.length = i + 1 := by
  unfold oneLet at h ⊢
  dsimp only at h ⊢
  have h1 := Rd.good_of (Rd.on_want L _ _ _) h
  have h2 := Rd.good_of (on_exprI num L 0 0 _) h1
  have h3 := Rd.good_of (Rd.on_want L _ _ _) h2
  obtain ⟨i, e1, e2, e3⟩ := (expr_read num L _ 0 0 ((r.nameT L).2.want L 2 [61]) (Nat.le_refl _) h1).1 (by omega) (by omega)
  rw [want_all]
  have ha : ((r.nameT L).2.want L 2 [61]).all = r.all := by rw [want_all, name_all]
  rw [ha] at e3
  exact ⟨i, e1, (name_good h3).1, e3, e2⟩
theorem on_lets (num : ByteArray → Bool × Nat × Nat) (L : List Tok) : ∀ (f : Nat) (out : List (ByteArray × Int)) (r : Rd), r.On (letsF num L f out r).2 := by
  intro f
  induction f with
  | zero => intro out r; exact Rd.On.refl r
  | succ f ih =>
    intro out r
    unfold letsF
    split
    · rename_i h
      exact ((r.on_skip (r.is_in h).1).trans (on_let num L _)).trans (ih _ _)
    · exact Rd.On.refl r
theorem lets_good (num : ByteArray → Bool × Nat × Nat) (L : List Tok) : ∀ (f : Nat) (out : List (ByteArray × Int)) (r : Rd), (letsF num L f out r).2.bad = false → ∃ m, (letsF num L f out r).1 = out ++ m ∧ LetsEnd (letsF num L f out r).2.all r.all.length m (letsF num L f out r).2.all.length := by
  intro f
  induction f with
  | zero => intro out r _; exact ⟨[], by rw [List.append_nil]; rfl, rfl⟩
  | succ f ih =>
    intro out r hb
    unfold letsF at hb ⊢
    by_cases h : r.is L 0 [108, 101, 116] = true
    · rw [if_pos h] at hb ⊢
      have g := Rd.good_of (on_lets num L f _ _) hb
      obtain ⟨i, e1, e2, e3, e4⟩ := let_good g
      obtain ⟨m, hm, hl⟩ := ih _ _ hb
      obtain ⟨n, hn⟩ := (on_lets num L f (out ++ [(oneLet num L r.skip).1]) (oneLet num L r.skip).2).all
      refine ⟨(oneLet num L r.skip).1 :: m, by rw [hm, List.append_assoc, List.singleton_append], i, e1, e2, ?_, ?_⟩
      · rw [hn]; exact e3.more n
      · rw [← e4]; exact hl
    · rw [if_neg h]; exact ⟨[], by rw [List.append_nil], rfl⟩
theorem prog_good {num : ByteArray → Bool × Nat × Nat} {L : List Tok} (h : (progI num L).2.bad = false) : (1 ≤ (progI num L).1.ins.length ∧ ∀ x ∈ (progI num L).1.ins, nameB x = true) ∧ (1 ≤ (progI num L).1.outs.length ∧ ∀ x ∈ (progI num L).1.outs, nameB x = true) ∧ LetsEnd (progI num L).1.all 0 (progI num L).1.lets (progI num L).1.all.length := by
  have h1 : (outsI num L).2.bad = false := by
    unfold progI at h
    dsimp only at h
    split at h
    · exact absurd h (by simp [Rd.wrong])
    · exact h
  have o2 := on_names L ((letsI num L).2.want L 0 [111, 117, 116])
  have h2 : ((letsI num L).2.want L 0 [111, 117, 116]).bad = false := Rd.good_of o2.1 h1
  have h3 := Rd.good_of (Rd.on_want L _ _ _) h2
  have h4 := Rd.good_of (on_lets num L _ _ _) h3
  obtain ⟨m, hm, hl⟩ := lets_good num L _ _ _ h3
  have ha : (outsI num L).2.all = (letsI num L).2.all := by
    show (namesI L ((letsI num L).2.want L 0 [111, 117, 116])).2.all = _
    rw [o2.2, want_all]
  have hi : (insI L).2.all = [] := by
    show (namesI L (startR.want L 0 [105, 110])).2.all = _
    rw [(on_names L _).2, want_all]; rfl
  refine ⟨names_good h4, names_good h1, ?_⟩
  show LetsEnd (outsI num L).2.all 0 (letsI num L).1 (outsI num L).2.all.length
  rw [ha]
  have e : (letsI num L).1 = m := by
    show (letsF num L (L.length + 1) [] (insI L).2).1 = m
    rw [hm, List.nil_append]
  rw [e]
  rw [hi] at hl
  exact hl
end Go.Proofs.YtbcfplaalepnbaaGreatDoor
namespace Go.Proofs.YtbcfplaalepnbaaGreatDoor
open Go.RowKit Go.Lib
structure Nw where
  kind : Int
  a : Int
  b : Int
  exp : Int
  name : ByteArray
  neg : Bool
  xs : List Int
  ys : List Int
def rawOf (n : Nd) : Nw := ⟨n.kind, n.a, n.b, n.exp, n.name, n.num.1, natOf n.num.2.1, natOf n.num.2.2⟩
abbrev Mn := Nw × Value × Value
def encM (m : Mn) : List Value := [.int .i64 m.1.kind, .int .i64 m.1.a, .int .i64 m.1.b, .int .i64 m.1.exp, .string m.1.name, .bool m.1.neg, m.2.1, m.2.2]
theorem encM_length (m : Mn) : (encM m).length = 8 := rfl
theorem infoNode : (Tryz.prog.info? 44).map (fun i => (i.zero, i.size, i.bytes)) = some (some (.agg #[.int .i64 0, .int .i64 0, .int .i64 0, .int .i64 0, .string ⟨#[]⟩, .bool false, .slice none 0 0, .slice none 0 0]), 8, 104) := by kernel_rfl
def NumW (W w : World) (m : Mn) : Prop := Own W w m.2.1 m.1.xs.length m.1.xs ∧ Own W w m.2.2 m.1.ys.length m.1.ys
section
variable {W w w' : World} {R : Nat} {la : Option Addr} {lc : Nat} {i l o : Value} {L : List Tok} {r : Rd}
end
end Go.Proofs.YtbcfplaalepnbaaGreatDoor
namespace Go.Proofs.YtbcfplaalepnbaaGreatDoor
open Go.RowKit Go.Lib
theorem stp_append_c {P : Program} {ops : Array Oper} {o : Oper} {a : Act} {K : Act → World → Prop} {Q : Exit → Act → World → Prop} {E : Prop} {t e : TypeId} {z : Value} {k bytes : Nat} (hP : P.underlying t = some (.slice e)) (hI : (P.info? e).map (fun i => (i.zero, i.size, i.bytes)) = some (some z, k, bytes)) (hzs : z.cells.size = k) (hk : 0 < k) (s x : Operand)
    (ho : o.op = .call { callee := .builtin .append, args := #[s, x], argTypes := #[t, t] }) (hgd : Region.wanted o (yielded ops a.tmps) = true)
    (W w : World) (v : Value) (n : Nat) (cs : List Value) (g m d : Nat) (ds : List Value) (hs : a.eval s = v) (hx : a.eval x = .slice (some ⟨g, 0, none⟩) m d) (hown : OwnC e k W w v n cs) (hsrc : IsC k w (some ⟨g, 0, none⟩) m ds) (hm : 0 < m) (h1 : ∀ u ∈ ds, u.oneCell' = true) (hle : n + m ≤ maxLen) (hby : (n + m) * bytes ≤ 140737488355328)
    (h : ∀ a' c' w', OwnC e k W w' (.slice a' (n + m) c') (n + m) (cs ++ ds) → w.grownBy w' v.ownBlock → K (a.put o.dst (.slice a' (n + m) c')) w') : if Region.wanted o (yielded ops a.tmps) = true then Oper.wp P o a w K Q else E := by
  obtain ⟨i, hi, hz, hs1, hb1⟩ := info_parts hI
  rw [if_pos hgd]
  have hcells : ∀ j u, ds[j]? = some u → w.cell? ((⟨g, 0, none⟩ : Addr).add j) = some u := by
    intro j u hj
    rcases hsrc.2 with h0 | ⟨y, e, hc⟩
    · omega
    · obtain rfl := Option.some.inj e
      exact hc j u hj
  refine wp_append_own (P := P) w s x t ho W.heap.size e i _ k bytes hP hi hz hs1 hb1 hzs hk v n _ hs hown.1 ⟨g, 0, none⟩ m d ds hx hsrc.1 hcells h1 hle hby hown.2.size ?_
  intro v' w' h2 h3 _
  have hnew : OwnC e k W w' v' (n + m) (cs ++ ds) := ⟨h2, hown.2.grown h3 hown.2.size (fun k hk => (hown.1.lt k hk).1)⟩
  obtain ⟨a', c', rfl, -⟩ := hnew.lit
  exact h a' c' w' hnew h3
end Go.Proofs.YtbcfplaalepnbaaGreatDoor
namespace Go.Proofs.YtbcfplaalepnbaaGreatDoor
open Go.RowKit Go.Lib
theorem encM_one (m : Mn) (ha : ∃ a n c, m.2.1 = .slice a n c) (hb : ∃ a n c, m.2.2 = .slice a n c) : ∀ x ∈ encM m, x.oneCell' = true := by
  obtain ⟨a, n, c, ha⟩ := ha
  obtain ⟨b, k, d, hb⟩ := hb
  intro x hx
  unfold encM at hx
  rw [ha, hb] at hx
  simp at hx
  rcases hx with rfl | rfl | rfl | rfl | rfl | rfl | rfl | rfl <;> rfl
section
variable {W w : World} {R : Nat} {la : Option Addr} {lc : Nat} {i l o : Value} {L : List Tok} {r : Rd}
end
end Go.Proofs.YtbcfplaalepnbaaGreatDoor
namespace Go.Proofs.YtbcfplaalepnbaaGreatDoor
open Go.Lib
def cnt (L : List Tok) (r : Rd) : Nat := r.all.length + 2 * (L.length - r.pos)
theorem cnt_skip {L : List Tok} {r : Rd} (h : r.pos < L.length) : cnt L r.skip + 2 = cnt L r := by
  show r.all.length + 2 * (L.length - (r.pos + 1)) + 2 = r.all.length + 2 * (L.length - r.pos)
  omega
theorem cnt_node (L : List Tok) (r : Rd) (n : Nd) : cnt L (r.node n).2 = cnt L r + 1 := by
  show (r.all ++ [n]).length + _ = _
  rw [List.length_append]
  show r.all.length + 1 + 2 * (L.length - r.pos) = r.all.length + 2 * (L.length - r.pos) + 1
  omega
theorem cnt_skip_le (L : List Tok) (r : Rd) : cnt L r.skip ≤ cnt L r := by
  show r.all.length + 2 * (L.length - (r.pos + 1)) ≤ r.all.length + 2 * (L.length - r.pos)
  omega
theorem cnt_want (L : List Tok) (r : Rd) (k : Int) (x : List UInt8) : cnt L (r.want L k x) ≤ cnt L r := by
  unfold Rd.want
  split
  · exact cnt_skip_le L r
  · exact Nat.le_refl _
theorem cnt_name (L : List Tok) (r : Rd) : cnt L (r.nameT L).2 ≤ cnt L r := by
  unfold Rd.nameT
  split
  · exact Nat.le_refl _
  · split
    · exact Nat.le_refl _
    · split
      · exact cnt_skip_le L r
      · exact Nat.le_refl _
theorem cnt_powE (L : List Tok) (r : Rd) (a fac : Int) : cnt L (r.powE L a fac).2 ≤ cnt L r := by
  unfold Rd.powE
  split
  · exact Nat.le_refl _
  · split
    · exact Nat.le_refl _
    · rename_i t ht
      have hp := (List.getElem?_eq_some_iff.1 ht).1
      split
      · exact Nat.le_refl _
      · split
        · exact Nat.le_refl _
        · rw [cnt_node]
          have := cnt_skip (r := r) hp
          omega
theorem cnt_powT (L : List Tok) (r : Rd) (a : Int) : cnt L (r.powT L a).2 ≤ cnt L r := by
  unfold Rd.powT
  split
  · split
    · exact Nat.le_trans (cnt_powE L _ _ _) (Nat.le_trans (cnt_skip_le _ _) (cnt_skip_le _ _))
    · exact Nat.le_trans (cnt_powE L _ _ _) (cnt_skip_le _ _)
  · exact Nat.le_refl _
theorem cnt_leaf (num : ByteArray → Bool × Nat × Nat) (L : List Tok) (r : Rd) : cnt L (r.leaf num L).2 ≤ cnt L r + 1 := by
  have h1 := cnt_name L r
  have h2 := cnt_skip_le L r
  unfold Rd.leaf
  split
  · split
    · rw [cnt_node]; omega
    · rw [cnt_node]; omega
  · rw [cnt_node]; omega
def extraN (m : Nat) : Nat := if m = 1 ∨ m = 3 then 0 else 1
theorem extra_more (m : Nat) : extraN (m + 6) = 1 := by unfold extraN; rw [if_neg (by omega)]
theorem cnt_expr (num : ByteArray → Bool × Nat × Nat) (L : List Tok) : ∀ (f m : Nat) (a : Int) (r : Rd), cnt L (exprF num L f m a r).2 ≤ cnt L r + extraN m := by
  intro f
  induction f with
  | zero => intro m a r; unfold exprF; exact Nat.le_add_right _ _
  | succ f ih =>
    have e0 : extraN 0 = 1 := rfl
    have e1 : extraN 1 = 0 := rfl
    have e2 : extraN 2 = 1 := rfl
    have e3 : extraN 3 = 0 := rfl
    have e4 : extraN 4 = 1 := rfl
    have e5 : extraN 5 = 1 := rfl
    have e6 : extraN 6 = 1 := rfl
    intro m a r
    match m with
    | 0 =>
      unfold exprF
      have h1 := ih 2 0 r
      have h2 := ih 1 (exprF num L f 2 0 r).1 (exprF num L f 2 0 r).2
      omega
    | 1 =>
      unfold exprF
      split
      · rename_i h
        have hs : r.pos < L.length := by
          rcases Bool.or_eq_true_iff.1 h with h | h <;> exact (r.is_in h).2
        have h1 := ih 2 0 r.skip
        have h2 := ih 1 ((exprF num L f 2 0 r.skip).2.node ⟨if r.is L 2 [45] = true then 3 else 2, a, (exprF num L f 2 0 r.skip).1, 0, noText, (false, 0, 0)⟩).1 ((exprF num L f 2 0 r.skip).2.node ⟨if r.is L 2 [45] = true then 3 else 2, a, (exprF num L f 2 0 r.skip).1, 0, noText, (false, 0, 0)⟩).2
        rw [cnt_node] at h2
        have h3 := cnt_skip hs
        omega
      · exact Nat.le_add_right _ _
    | 2 =>
      unfold exprF
      have h1 := ih 4 0 r
      have h2 := ih 3 (exprF num L f 4 0 r).1 (exprF num L f 4 0 r).2
      omega
    | 3 =>
      unfold exprF
      split
      · rename_i h
        have hs : r.pos < L.length := by
          rcases Bool.or_eq_true_iff.1 h with h | h <;> exact (r.is_in h).2
        have h1 := ih 4 0 r.skip
        have h2 := ih 3 ((exprF num L f 4 0 r.skip).2.node ⟨if r.is L 2 [47] = true then 5 else 4, a, (exprF num L f 4 0 r.skip).1, 0, noText, (false, 0, 0)⟩).1 ((exprF num L f 4 0 r.skip).2.node ⟨if r.is L 2 [47] = true then 5 else 4, a, (exprF num L f 4 0 r.skip).1, 0, noText, (false, 0, 0)⟩).2
        rw [cnt_node] at h2
        have h3 := cnt_skip hs
        omega
      · exact Nat.le_add_right _ _
    | 4 =>
      unfold exprF
      split
      · rename_i h
        have h1 := ih 4 0 r.skip
        have h3 := cnt_skip (r.is_in h).2
        rw [cnt_node]
        omega
      · have h1 := ih 5 0 r
        omega
    | 5 =>
      unfold exprF
      have h1 := ih 6 0 r
      have h2 := cnt_powT L (exprF num L f 6 0 r).2 (exprF num L f 6 0 r).1
      omega
    | m + 6 =>
      unfold exprF
      rw [extra_more]
      split
      · rename_i h
        have h1 := ih 0 0 r.skip
        have h3 := cnt_skip (r.is_in h).2
        have h4 := cnt_want L (exprF num L f 0 0 r.skip).2 2 [41]
        show cnt L ((exprF num L f 0 0 r.skip).2.want L 2 [41]) ≤ _
        omega
      · exact cnt_leaf num L r
theorem cnt_exprI (num : ByteArray → Bool × Nat × Nat) (L : List Tok) (m : Nat) (a : Int) (r : Rd) : cnt L (exprI num L m a r).2 ≤ cnt L r + extraN m := cnt_expr num L _ m a r
end Go.Proofs.YtbcfplaalepnbaaGreatDoor
