/-
  A law of no function: a range over a function that tells pairs, one after the other, so many: each round goes on, turns what it keeps account of, may make memory, and leaves the range's own two blocks alone. Conditions: none of the program.
-/
import Derived.Test.YtlokidddbkdclaaDoorRangeTold
namespace Go.Proofs.YtlokidddbkdclaaDoor
open Go.RowKit

theorem wpIn_range_made {x y : Nat → Value} {F : Fence} {n : Nat} {P : Program} {g : Operand} {p q : Tmp} {assign body : Code} {Q : Exit → Act → World → Prop} {a : Act} {w : World}
    (hro : F.round = none) (h1 : 1 ≤ n) {gf : Nat} {lb : Array Value} (hg : a.eval g = .func (.func gf) #[] lb) (hFg : F.fn gf) (eg : ∀ args w, (callFunc gf args).run P w = .ok (.enter gf args) w)
    (m : Nat) (I : Nat → World → Prop) (h0 : I 0 w) (hIb : ∀ k A B, I k A → Below A.heap.size A B → I k B) (hIp : ∀ k A r o, I k A → r = w.heap.size ∨ r = w.heap.size + 1 → I k (A.putObj r o))
    (a₁ : Nat → Act)
    (hassign : ∀ l k W K, K (a₁ k) W → assign.wpIn (F.inRound l) (n - 1 - 1) P (Exit.then K (fun _ _ _ => False)) { tmps := (a.tmps.setIfInBounds p (x k)).setIfInBounds q (y k), defers := [] } W)
    (hbody : ∀ l k W, k < m → I k W → w.heap.size + 2 ≤ W.heap.size → body.wpIn (F.inRound l) (n - 1 - 1) P (fun e _ W' => e = .normal ∧ I (k + 1) W' ∧ W.heap.size ≤ W'.heap.size ∧ ∀ j, j = w.heap.size ∨ j = w.heap.size + 1 → W'.heap[j]? = W.heap[j]?) (a₁ k) W)
    (hseq : ∀ l (J : Nat → World → Prop) W, (∀ k A, J k A → I k A) → (∀ k A B, J k A → Below A.heap.size A B → J k B) →
      (∀ k A, k < m → J k A → YieldAt F (n - 1 - 1) P l #[x k, y k] A fun e B => e = .returned (.bool true) ∧ J (k + 1) B) → J 0 W →
      CallsIn F (n - 1) P gf (#[.func (.yield l) #[] #[]] ++ lb) W fun e B => (∃ v, e = .returned v) ∧ J m B)
    (hdone : ∀ D W, w.heap.size ≤ D → D < w.heap.size + 2 → I m W → w.heap.size + 2 ≤ W.heap.size → W.heap[D]? = some (.deferred (some [])) → Q .normal { a with defers := { target := .collected D, args := #[] } :: a.defers } W) :
    (Code.rangeFunc g #[p, q] assign body).wpIn F n P Q a w := by
  refine wpIn_rangeFunc ?_
  intro fn hfn
  rw [hro]
  obtain ⟨R, hR⟩ : ∃ R : LoopState → Loop, R = fun st => { state := st, pending := none, fn, tmps := a.tmps, params := #[p, q], assign, body, defers := w.heap.size } := ⟨_, rfl⟩
  obtain ⟨V, hV⟩ : ∃ V, (w.alloc (.deferred (some []))).alloc (.loop (R .ready)) = V := ⟨_, rfl⟩
  have z1 : V.heap.size = w.heap.size + 2 := by rw [← hV]; simp
  have bV : Below w.heap.size w V := by rw [← hV]; exact ((Below.refl _ w).alloc (Nat.le_refl _) _).alloc (by simp) _
  have kL : V.heap[w.heap.size + 1]? = some (.loop (R .ready)) := by
    rw [← hV]; have := World.alloc_heap_new (w.alloc (.deferred (some []))) (.loop (R .ready)); rwa [World.size_alloc] at this
  have kD : V.heap[w.heap.size]? = some (.deferred (some [])) := by
    rw [← hV]; exact (Below.heap_alloc _ _ _ (by simp)).trans (World.alloc_heap_new w _)
  refine ⟨w.heap.size + 1, [{ target := .collected w.heap.size, args := #[] }], V, { target := .fn (.func gf) lb, args := #[.func (.yield (w.heap.size + 1)) #[] #[]] }, V, gf, #[.func (.yield (w.heap.size + 1)) #[] #[]] ++ lb, V, ?_, ?_, ?_, ?_, fun _ => h1, ?_⟩
  · rw [← hV, hR]; exact run_enterLoop_outer _ _ _ _ _
  · simp only [resolve, hg]; simp [go_sem]
  · intro f' hf'; simp [Target.leads] at hf'; subst hf'; exact hFg
  · simp [invoke, go_sem, eg]
  refine (hseq (w.heap.size + 1) (fun k A => I k A ∧ A.heap[w.heap.size + 1]? = some (.loop (R .ready)) ∧ A.heap[w.heap.size]? = some (.deferred (some []))) V (fun _ _ h => h.1) ?_ ?_ ⟨hIb _ _ _ h0 bV, kL, kD⟩).mono ?_
  · rintro k A B ⟨i, l, d⟩ hb
    have lt := (Array.getElem?_eq_some_iff.1 l).1
    exact ⟨hIb k A B i hb, (hb.block _ lt).trans l, (hb.block _ (by omega)).trans d⟩
  · rintro k A hk ⟨i, l, d⟩
    have lt := (Array.getElem?_eq_some_iff.1 l).1
    have hy : (Instr.yield (w.heap.size + 1) #[x k, y k]).run P A = .ok (.round (w.heap.size + 1) fn ((a.tmps.setIfInBounds p (x k)).setIfInBounds q (y k)) assign body) A := by
      have := run_yield (P := P) (args := #[x k, y k]) l (by rw [hR]; rfl)
      rw [hR] at this
      simpa using this
    refine ⟨fn, _, assign, body, hy, roundIn_of_wpIn hfn ?_⟩
    refine hassign _ k A _ ?_
    refine ⟨_, run_beginRound l (by rw [hR]), ?_⟩
    have l2 : (A.putObj (w.heap.size + 1) (.loop { R .ready with state := .busy })).heap[w.heap.size + 1]? = some (.loop { R .ready with state := .busy }) := World.putObj_heap_same lt
    refine wpIn_mono (hbody _ k _ hk (hIp _ _ _ _ i (.inr rfl)) (by simp; omega)) ?_
    rintro e a3 B ⟨rfl, i3, z3, k3⟩
    have l3 := (k3 (w.heap.size + 1) (.inr rfl)).trans l2
    have hend := run_endRound (P := P) none l3
    have d3 := (k3 w.heap.size (.inl rfl)).trans ((World.putObj_heap_other (by omega)).trans d)
    have l4 := World.putObj_heap_same (o := .loop (R .ready)) (Array.getElem?_eq_some_iff.1 l3).1
    refine ⟨_, _, hend, rfl, hIp _ _ _ _ i3 (.inr rfl), ?_, (World.putObj_heap_other (by omega)).trans d3⟩
    rw [hR] at l4 ⊢; exact l4
  · rintro e B ⟨⟨v, rfl⟩, i, l, d⟩
    have lt := (Array.getElem?_eq_some_iff.1 l).1
    refine ⟨none, _, ?_, hdone w.heap.size _ (Nat.le_refl _) (by omega) (hIp _ _ (w.heap.size + 1) (.loop { R .ready with state := .exhausted }) i (.inr rfl)) (by simp; omega) ((World.putObj_heap_other (by omega)).trans d)⟩
    have := run_endLoop (P := P) l (by rw [hR]; simp)
    rw [hR] at this ⊢
    exact this
end Go.Proofs.YtlokidddbkdclaaDoor
