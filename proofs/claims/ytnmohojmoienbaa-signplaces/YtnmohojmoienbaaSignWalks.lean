/-
  What the statements over runes and places ask of package sign (its contracts), the chapter's examples by them, and the walks of SignKinds, SignNext, SignPlaces and SignNames: for whatever package sign keeps these; memory that was there stays.
-/
import Derived.Test.YtnmohojmoienbaaSignRefD
namespace Go.Proofs.Ytnmohojmoienbaa
open Go.RowKit Go.Lib

/-- Package sign's contracts. -/
structure SignOk : Prop where
  kind : ∀ (r : Int) (w : World), -2147483648 ≤ r → r ≤ 2147483647 → ∀ k, kindI r = k → Calls Try.prog 11 #[.int .i32 r] w fun e w' => e = .returned (.int .i64 k) ∧ Below w.heap.size w w'
  next : ∀ (s : ByteArray) (i : Nat) (w : World), s.size ≤ 1000000 → i < s.size → Calls Try.prog 13 #[.string s, .int .i64 i] w fun e w' => e = .returned (.tuple #[.int .i32 (nextR s i), .int .i64 (nextN s i)]) ∧ Below w.heap.size w w'
  next_no : ∀ (s : ByteArray) (j : Int) (w : World), s.size ≤ 1000000 → -9223372036854775808 ≤ j → j < 9223372036854775808 → (j < 0 ∨ (s.size : Int) ≤ j) → Calls Try.prog 13 #[.string s, .int .i64 j] w fun e w' => e = .returned (.tuple #[.int .i32 0, .int .i64 0]) ∧ Below w.heap.size w w'
  place : ∀ (s : ByteArray) (j : Int) (w : World), s.size ≤ 1000000 → -9223372036854775808 ≤ j → j < 9223372036854775808 → Calls Try.prog 15 #[.string s, .int .i64 j] w (AnsL w (placeI s j))
  key : ∀ (s : ByteArray) (w : World), s.size ≤ 1000000 → ∀ r, keyB s = r → Calls Try.prog 19 #[.string s] w fun e w' => e = .returned (.bool r) ∧ Below w.heap.size w w'
  name : ∀ (s : ByteArray) (w : World), s.size ≤ 1000000 → ∀ r, nameB s = r → Calls Try.prog 17 #[.string s] w fun e w' => e = .returned (.bool r) ∧ Below w.heap.size w w'

theorem key_list (l : List UInt8) : keyB ⟨l.toArray⟩ = (l == [105, 110] || l == [108, 101, 116] || l == [111, 117, 116]) := by
  unfold keyB; rw [ByteArray.toList_eq]
theorem ex_next : nextR ⟨#[195, 169]⟩ 0 = 233 ∧ nextN ⟨#[195, 169]⟩ 0 = 2 := by decide
theorem ex_place : placeI ⟨#[97, 10, 98, 99]⟩ 3 = (2, 2) := by decide
theorem ex_key : keyB ⟨#[108, 101, 116]⟩ = true := key_list [108, 101, 116]
theorem ex_name1 : nameB ⟨#[120, 49]⟩ = true := by
  unfold nameB; rw [show keyB ⟨#[120, 49]⟩ = false from key_list [120, 49]]; decide
theorem ex_name2 : nameB ⟨#[49, 120]⟩ = false := by
  unfold nameB; rw [show nameF ⟨#[49, 120]⟩ ((⟨#[49, 120]⟩ : ByteArray).size + 1) 0 = false from by decide, Bool.and_false]
theorem ex_name3 : nameB ⟨#[108, 101, 116]⟩ = false := by
  unfold nameB; rw [ex_key, Bool.not_true, Bool.and_false, Bool.false_and]

set_option maxHeartbeats 4000000 in
theorem sign_awake (K : SignOk) (w : World) : Calls Try.prog 10 #[] w fun e w' => e = .returned (.bool true) ∧ Below w.heap.size w w' := by
  have c1 := fun v => K.next ⟨#[195, 169]⟩ 0 v (by decide) (by decide)
  rw [ex_next.1, ex_next.2] at c1
  have c2 := fun v => K.kind 59 v (by omega) (by omega) 4 (by decide)
  have c3 := fun v => K.place ⟨#[97, 10, 98, 99]⟩ 3 v (by decide) (by omega) (by omega)
  rw [ex_place] at c3
  unfold AnsL at c3
  have c4 := fun v => K.name ⟨#[120, 49]⟩ v (by decide) _ ex_name1
  have c5 := fun v => K.name ⟨#[49, 120]⟩ v (by decide) _ ex_name2
  have c6 := fun v => K.name ⟨#[108, 101, 116]⟩ v (by decide) _ ex_name3
  have c7 := fun v => K.key ⟨#[108, 101, 116]⟩ v (by decide) _ ex_key
  clear K
  go_enter Try.func10, Try.ntmps10
  go_wp2_with (first
    | (go_at_call 13; (with_reducible refine Calls.mono (c1 _) ?_); rintro e w1 ⟨rfl, b1⟩)
    | (go_at_call 11; (with_reducible refine Calls.mono (c2 _) ?_); rintro e w2 ⟨rfl, b2⟩)
    | (go_at_call 15; (with_reducible refine Calls.mono (c3 _) ?_); rintro e w3 ⟨rfl, b3⟩)
    | (go_at_call 17; (with_reducible refine Calls.mono (c4 _) ?_); rintro e w4 ⟨rfl, b4⟩)
    | (go_at_call 17; (with_reducible refine Calls.mono (c5 _) ?_); rintro e w5 ⟨rfl, b5⟩)
    | (go_at_call 17; (with_reducible refine Calls.mono (c6 _) ?_); rintro e w6 ⟨rfl, b6⟩)
    | (go_at_call 19; (with_reducible refine Calls.mono (c7 _) ?_); rintro e w7 ⟨rfl, b7⟩))
  go_ret
  exact ⟨rfl, below_more (below_more (below_more (below_more (below_more (below_more b1 b2) b3) b4) b5) b6) b7⟩
end Go.Proofs.Ytnmohojmoienbaa
