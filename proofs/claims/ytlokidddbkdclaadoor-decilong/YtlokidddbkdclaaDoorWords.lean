/-
  Laws of no function: slices of 32-bit words that a call reads or makes: what reads as words, what the call owns, append onto an owned row, of words and of zeros. Conditions: Go's own limits on sizes.
-/
import Derived.Test.YtlokidddbkdclaaDoorOwn
import Derived.Test.YtlokidddbkdclaaDoorRows
import Derived.OpenShut
namespace Go.Proofs.YtlokidddbkdclaaDoor
open Go.RowKit

theorem infoU32 : (Tryd.prog.info? 36).map (fun i => (i.zero, i.size, i.bytes)) = some (some (.int .u32 0), 1, 4) := by kernel_rfl

/-- The slice value v reads as the words zs. -/
def IsWords (w : World) (v : Value) (zs : List Int) : Prop :=
  (v = .slice none 0 0 ∧ zs = []) ∨ ∃ x cap, v = .slice (some x) zs.length cap ∧ zs.length ≤ cap ∧ cap ≤ maxLen ∧ ∀ i, i < zs.length → w.cell? (x.add i) = some (.int .u32 (zs.getD i 0))

/-- The call that began in W owns v, n words xs; nothing older than W has turned. -/
def Own (W w : World) (v : Value) (n : Nat) (xs : List Int) : Prop :=
  w.ownsRow W.heap.size 36 1 v n (xs.map (Value.int .u32)) ∧ Below W.heap.size W w

theorem Own.length {W w : World} {v : Value} {n : Nat} {xs : List Int} (h : Own W w v n xs) : xs.length = n := by
  have := h.1.1; simpa using this

theorem Own.words {W w : World} {v : Value} {n : Nat} {xs : List Int} (h : Own W w v n xs) : IsWords w v xs := by
  have hl := h.length
  rcases h.1.2 with ⟨rfl, rfl⟩ | ⟨g, cap, cur, rfl, -, hg, hnc, hcm, -, -⟩
  · exact .inl ⟨rfl, List.eq_nil_of_length_eq_zero hl⟩
  · refine .inr ⟨⟨g, 0, none⟩, cap, by rw [hl], by omega, hcm, fun i hi => ?_⟩
    refine h.1.cells (g := g) rfl i _ ?_
    simp [hi]

theorem IsWords.below {w w' : World} {v : Value} {zs : List Int} (h : IsWords w v zs) (hb : Below w.heap.size w w') : IsWords w' v zs := by
  rcases h with h | ⟨x, cap, rfl, h1, h2, hc⟩
  · exact .inl h
  · refine .inr ⟨x, cap, rfl, h1, h2, fun i hi => ?_⟩
    have hci := hc i hi
    rw [hb.cell (p := x.add i) (World.block_lt_of_cell? w _ hci)]
    exact hci

theorem IsWords.lit {w : World} {v : Value} {zs : List Int} (h : IsWords w v zs) : ∃ a c, v = .slice a zs.length c := by
  rcases h with ⟨rfl, rfl⟩ | ⟨x, cap, rfl, -⟩
  · exact ⟨none, 0, rfl⟩
  · exact ⟨_, _, rfl⟩

theorem Own.lit {W w : World} {v : Value} {n : Nat} {xs : List Int} (h : Own W w v n xs) : ∃ a c, v = .slice a n c := by
  obtain ⟨a, c, e⟩ := h.words.lit
  exact ⟨a, c, by rw [e, h.length]⟩

theorem Own.below {W w : World} {v : Value} {n : Nat} {xs : List Int} (h : Own W w v n xs) : Below W.heap.size W w := h.2

theorem oneCells (ys : List Int) : ∀ u ∈ ys.map (Value.int .u32), u.oneCell' = true := by
  intro u hu
  obtain ⟨y, -, rfl⟩ := List.mem_map.1 hu
  rfl

theorem below_grown {W w w' : World} {v : Value} {n : Nat} {xs : List Int} (h : Own W w v n xs) (hg : w.grownBy w' v.ownBlock) : Below W.heap.size W w' :=
  h.2.grown hg h.2.size (fun k hk => (h.1.lt k hk).1)

/-- append(v, vx...), v the call's own. -/
theorem wpl_append_words {ops : Array Oper} {rest : List Oper} {o : Oper} {a : Act} {Q : Exit → Act → World → Prop} (s x : Operand)
    (ho : o.op = .call { callee := .builtin .append, args := #[s, x], argTypes := #[23, 23] }) (hgd : Region.wanted o (yielded ops a.tmps) = true)
    (W w : World) (v vx : Value) (n m : Nat) (xs ys : List Int) (hs : a.eval s = v) (hx : a.eval x = vx) (hown : Own W w v n xs) (hsrc : IsWords w vx ys) (hm : ys.length = m) (N : Nat) (hN : n + m = N) (hle : N ≤ 35184372088832)
    (h : ∀ a' c' w', Own W w' (.slice a' N c') N (xs ++ ys) → w.grownBy w' v.ownBlock → wpList Tryd.prog ops Q rest (a.put o.dst (.slice a' N c')) w') : wpList Tryd.prog ops Q (o :: rest) a w := by
  subst hN
  obtain ⟨i, hi, hz, hs1, hby⟩ := info_parts infoU32
  have hmax : n + m ≤ maxLen := by unfold maxLen; omega
  refine wpList_step fun K hK => ?_
  rw [if_pos hgd]
  rcases hsrc with ⟨rfl, rfl⟩ | ⟨ad, c, rfl, -, -, hc⟩
  · have hrun := run_append_owned_none (P := Tryd.prog) (w := w) W.heap.size 23 o.type 36 i 1 Tryd.underlying23 hi v n _ hown.1
    obtain ⟨a', c', rfl⟩ := hown.lit
    subst hm
    have hK' := hK _ _ (h a' c' w (by simpa using hown) ⟨rfl, rfl, rfl, Nat.le_refl _, fun _ _ _ => rfl⟩)
    unfold Oper.wp
    simp [execOp, ho, resolve, invoke, builtin, hs, hx, hrun, Result.andThen]
    have hK2 : K (a.put o.dst (.slice a' n c')) w := by simpa using hK'
    exact hK2
  · refine wp_append_own (P := Tryd.prog) w s x 23 ho W.heap.size 36 i (.int .u32 0) 1 4 Tryd.underlying23 hi hz hs1 hby rfl (by decide) v n _ hs hown.1 ad ys.length c (ys.map (Value.int .u32)) hx (by simp) ?_ (oneCells ys) (by omega) (by omega) hown.2.size ?_
    · intro j u hj
      rw [List.getElem?_map] at hj
      obtain ⟨y, hy, rfl⟩ := Option.map_eq_some_iff.1 hj
      have hlt : j < ys.length := (List.getElem?_eq_some_iff.1 hy).1
      rw [hc j hlt]
      simp [List.getD_eq_getElem?_getD, hy]
    · intro v' w' h1 h2 _
      subst hm
      have hnew : Own W w' v' (n + ys.length) (xs ++ ys) := ⟨by rw [List.map_append]; exact h1, below_grown hown h2⟩
      obtain ⟨a', c', rfl⟩ := hnew.lit
      exact hK _ _ (h a' c' w' hnew h2)

/-- append(v, make([]uint32, k)...), v the call's own. -/
theorem wpl_append_zeros {ops : Array Oper} {rest : List Oper} {o : Oper} {a : Act} {Q : Exit → Act → World → Prop} (s x : Operand)
    (ho : o.op = .call { callee := .builtin .append, args := #[s, x], argTypes := #[23, 3] }) (hgd : Region.wanted o (yielded ops a.tmps) = true)
    (W w : World) (v : Value) (n k : Nat) (xs : List Int) (kk : Int) (hs : a.eval s = v) (hx : a.eval x = .int .i64 kk) (hkk : kk = k) (hown : Own W w v n xs) (N : Nat) (hN : n + k = N) (hle : N ≤ 35184372088832)
    (h : ∀ a' c' w', Own W w' (.slice a' N c') N (xs ++ List.replicate k 0) → w.grownBy w' v.ownBlock → wpList Tryd.prog ops Q rest (a.put o.dst (.slice a' N c')) w') : wpList Tryd.prog ops Q (o :: rest) a w := by
  subst hN
  obtain ⟨i, hi, hz, hs1, hby⟩ := info_parts infoU32
  have hmax : n + k ≤ maxLen := by unfold maxLen; omega
  subst hkk
  obtain ⟨v', w', hr, h1, h2⟩ := run_append_zeros_own (P := Tryd.prog) w W.heap.size 23 3 o.type 36 i (.int .u32 0) .i64 .i64 Tryd.underlying23 Tryd.underlying3 hi hz hs1 rfl rfl v n _ hown.1 k hmax (by rw [hby]; omega) hown.2.size
  have hnew : Own W w' v' (n + k) (xs ++ List.replicate k 0) := ⟨by rw [List.map_append, List.map_replicate]; exact h1, below_grown hown h2⟩
  obtain ⟨a', c', rfl⟩ := hnew.lit
  refine wpList_step fun K hK => ?_
  rw [if_pos hgd]
  exact Lib.wp_append_run w s x 23 3 ho v (.int .i64 k) hs hx _ w' hr (hK _ _ (h a' c' w' hnew h2))

theorem Own.alloc {W w : World} {v : Value} {n : Nat} {xs : List Int} (h : Own W w v n xs) (o : Obj) : Own W (w.alloc o) v n xs := ⟨h.1.alloc o, h.2.alloc h.2.size o⟩
theorem Own.drew {W w : World} {v : Value} {n : Nat} {xs : List Int} (h : Own W w v n xs) : Own W w.drew v n xs := ⟨h.1, h.2.drew⟩

/-- A literal of n words in a new block reads as these words. -/
theorem lit_words (w : World) (xs : List Int) (n : Nat) (hn : xs.length = n) (hm : n ≤ maxLen) :
    IsWords (w.alloc (.cells (xs.map (Value.int .u32)).toArray 36)) (.slice (some ⟨w.heap.size, 0, none⟩) n n) xs := by
  refine .inr ⟨_, n, by rw [hn], by omega, hm, fun i hi => ?_⟩
  rw [Go.WideShapes.add_plain]
  simp [hi]

/-- A literal of n words in a new block is the call's own. -/
theorem own_lit (W w : World) (xs : List Int) (n : Nat) (hb : Below W.heap.size W w) (hn : xs.length = n) (hm : n ≤ maxLen) :
    Own W (w.alloc (.cells (xs.map (Value.int .u32)).toArray 36)) (.slice (some ⟨w.heap.size, 0, none⟩) n n) n xs :=
  ⟨by simpa using World.ownsRow_lit (base := W.heap.size) (e := 36) (size := 1) w (xs.map (Value.int .u32)).toArray n hb.size hm (by simp [hn]), hb.alloc hb.size _⟩
end Go.Proofs.YtlokidddbkdclaaDoor
