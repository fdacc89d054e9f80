/-
  A law of no function: a range over a function whose body goes on in every round, turns nothing but what lay ahead of the loop, and makes no memory: what the function tells last, and what it says of that. Conditions: none of the program.
-/
import Derived.Test.YtlokidddbkdclaaDoorRows
import Derived.RangeFuncNested
import Derived.RangeFuncLeaves
namespace Go.Proofs.YtlokidddbkdclaaDoor
open Go.RowKit

theorem below_put {B : Nat} {w W : World} (h : Below B w W) {r : Nat} (hr : B ≤ r) (o : Obj) : Below B w (W.putObj r o) :=
  h.trans ⟨rfl, rfl, rfl, by simp, fun k hk => World.putObj_heap_other (by omega)⟩

theorem wpIn_range_told {α : Type} (enc : α → Value) {F : Fence} {n : Nat} {P : Program} {g : Operand} {p : Tmp} {assign body : Code} {Q : Exit → Act → World → Prop} {a : Act} {w : World}
    (hro : F.round = none) (h1 : 1 ≤ n) {gf : Nat} {lb : Array Value} (hg : a.eval g = .func (.func gf) #[] lb) (hFg : F.fn gf) (eg : ∀ args w, (callFunc gf args).run P w = .ok (.enter gf args) w)
    (I S : α → World → Prop) (v0 : α) (h0 : I v0 w) (hIb : ∀ v A B, I v A → w.heap.size ≤ A.heap.size → Below A.heap.size A B → I v B) (hIp : ∀ v A r o, I v A → w.heap.size ≤ r → I v (A.putObj r o))
    (a₁ : α → Act)
    (hassign : ∀ l v W K, K (a₁ v) W → assign.wpIn (F.inRound l) (n - 1 - 1) P (Exit.then K (fun _ _ _ => False)) { tmps := a.tmps.setIfInBounds p (enc v), defers := [] } W)
    (hbody : ∀ l u v W, I u W → body.wpIn (F.inRound l) (n - 1 - 1) P (fun e _ W' => e = .normal ∧ I v W' ∧ W'.heap.size = W.heap.size ∧ ∀ k, w.heap.size ≤ k → W'.heap[k]? = W.heap[k]?) (a₁ v) W)
    (hseq : ∀ l (J : α → World → Prop) W, W.heap.size = w.heap.size + 2 → Below w.heap.size w W → (∀ v A B, J v A → Below A.heap.size A B → J v B) →
      (∀ u v A, J u A → YieldAt F (n - 1 - 1) P l #[enc v] A fun e B => e = .returned (.bool true) ∧ J v B ∧ B.heap.size = A.heap.size ∧ ∀ k, w.heap.size + 2 ≤ k → B.heap[k]? = A.heap[k]?) → J v0 W →
      CallsIn F (n - 1) P gf (#[.func (.yield l) #[] #[]] ++ lb) W fun e B => (∃ v, e = .returned v) ∧ ∃ v, J v B ∧ S v B)
    (hS : ∀ v A r o, S v A → r < w.heap.size + 2 → S v (A.putObj r o))
    (hdone : ∀ D v W, w.heap.size ≤ D → D < w.heap.size + 2 → I v W → S v W → W.heap[D]? = some (.deferred (some [])) → Q .normal { a with defers := { target := .collected D, args := #[] } :: a.defers } W) :
    (Code.rangeFunc g #[p] assign body).wpIn F n P Q a w := by
  refine wpIn_rangeFunc ?_
  intro fn hfn
  rw [hro]
  obtain ⟨R, hR⟩ : ∃ R : LoopState → Loop, R = fun st => { state := st, pending := none, fn, tmps := a.tmps, params := #[p], assign, body, defers := w.heap.size } := ⟨_, rfl⟩
  obtain ⟨V, hV⟩ : ∃ V, (w.alloc (.deferred (some []))).alloc (.loop (R .ready)) = V := ⟨_, rfl⟩
  have z1 : V.heap.size = w.heap.size + 2 := by rw [← hV]; simp
  have bV : Below w.heap.size w V := by rw [← hV]; exact ((Below.refl _ w).alloc (Nat.le_refl _) _).alloc (by simp) _
  have kL : V.heap[w.heap.size + 1]? = some (.loop (R .ready)) := by
    rw [← hV]; have := World.alloc_heap_new (w.alloc (.deferred (some []))) (.loop (R .ready)); rwa [World.size_alloc] at this
  have kD : V.heap[w.heap.size]? = some (.deferred (some [])) := by
    rw [← hV]; exact (Below.heap_alloc _ _ _ (by simp)).trans (World.alloc_heap_new w _)
  refine ⟨w.heap.size + 1, [{ target := .collected w.heap.size, args := #[] }], V, { target := .fn (.func gf) lb, args := #[.func (.yield (w.heap.size + 1)) #[] #[]] }, V, gf, #[.func (.yield (w.heap.size + 1)) #[] #[]] ++ lb, V, ?_, ?_, ?_, ?_, fun _ => h1, ?_⟩
  · rw [← hV, hR]; exact run_enterLoop_outer _ _ _ _ _
  · simp only [resolve, hg]; simp [go_sem]
  · intro f' hf'; simp [Target.leads] at hf'; subst hf'; exact hFg
  · simp [invoke, go_sem, eg]
  refine (hseq (w.heap.size + 1) (fun v A => I v A ∧ A.heap[w.heap.size + 1]? = some (.loop (R .ready)) ∧ A.heap[w.heap.size]? = some (.deferred (some []))) V z1 bV ?_ ?_ ⟨hIb _ _ _ h0 (Nat.le_refl _) bV, kL, kD⟩).mono ?_
  · rintro v A B ⟨i, l, d⟩ hb
    have lt := (Array.getElem?_eq_some_iff.1 l).1
    exact ⟨hIb v A B i (by omega) hb, (hb.block _ lt).trans l, (hb.block _ (by omega)).trans d⟩
  · rintro u v A ⟨i, l, d⟩
    have lt := (Array.getElem?_eq_some_iff.1 l).1
    have hy : (Instr.yield (w.heap.size + 1) #[enc v]).run P A = .ok (.round (w.heap.size + 1) fn (a.tmps.setIfInBounds p (enc v)) assign body) A := by
      have := run_yield (P := P) (args := #[enc v]) l (by rw [hR]; rfl)
      rw [hR] at this
      simpa using this
    refine ⟨fn, _, assign, body, hy, roundIn_of_wpIn hfn ?_⟩
    refine hassign _ v A _ ?_
    refine ⟨_, run_beginRound l (by rw [hR]), ?_⟩
    have l2 : (A.putObj (w.heap.size + 1) (.loop { R .ready with state := .busy })).heap[w.heap.size + 1]? = some (.loop { R .ready with state := .busy }) := World.putObj_heap_same lt
    refine wpIn_mono (hbody _ u v _ (hIp _ _ _ _ i (by omega))) ?_
    rintro e a3 B ⟨rfl, i3, z3, k3⟩
    have l3 := (k3 (w.heap.size + 1) (by omega)).trans l2
    have hend := run_endRound (P := P) none l3
    have d3 := (k3 w.heap.size (Nat.le_refl _)).trans ((World.putObj_heap_other (by omega)).trans d)
    have l4 := World.putObj_heap_same (o := .loop (R .ready)) (Array.getElem?_eq_some_iff.1 l3).1
    refine ⟨_, _, hend, rfl, ⟨hIp _ _ _ _ i3 (by omega), ?_, (World.putObj_heap_other (by omega)).trans d3⟩, by simpa using z3, fun k hk => ?_⟩
    · rw [hR] at l4 ⊢; exact l4
    · rw [World.putObj_heap_other (by omega), k3 k (by omega), World.putObj_heap_other (by omega)]
  · rintro e B ⟨⟨v, rfl⟩, u, ⟨i, l, d⟩, s⟩
    have lt := (Array.getElem?_eq_some_iff.1 l).1
    refine ⟨none, _, ?_, hdone w.heap.size u _ (Nat.le_refl _) (by omega) (hIp _ _ (w.heap.size + 1) (.loop { R .ready with state := .exhausted }) i (by omega)) (hS _ _ _ _ s (by omega)) ((World.putObj_heap_other (by omega)).trans d)⟩
    have := run_endLoop (P := P) l (by rw [hR]; simp)
    rw [hR] at this ⊢
    exact this
end Go.Proofs.YtlokidddbkdclaaDoor
