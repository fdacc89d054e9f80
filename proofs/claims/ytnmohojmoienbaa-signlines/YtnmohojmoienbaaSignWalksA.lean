/-
  The walks of the statements SignKinds, SignNext, SignPlaces and SignNames, for whatever package sign keeps its contracts: each returns true; memory that was there stays.
-/
import Derived.Test.YtnmohojmoienbaaSignWalks
namespace Go.Proofs.Ytnmohojmoienbaa
open Go.RowKit Go.Lib

theorem wf_s32 {a : Int} (h : (Lit.int .i32 a).wf = true) : -2147483648 ≤ a ∧ a ≤ 2147483647 := by
  simp [Lit.wf, IntKind.min, IntKind.max, IntKind.signed, IntKind.bits] at h; omega
theorem wf_s64 {a : Int} (h : (Lit.int .i64 a).wf = true) : -9223372036854775808 ≤ a ∧ a < 9223372036854775808 := by
  have : -9223372036854775808 ≤ a ∧ a ≤ 9223372036854775807 := by simpa [Lit.wf, IntKind.min, IntKind.max, IntKind.signed, IntKind.bits] using h
  omega

set_option maxHeartbeats 4000000 in
theorem walk_SignKinds (K : SignOk) (a : Int) (w : World) (h0 : (Lit.int .i32 a).wf = true) :
    Calls Try.prog 3 #[.int .i32 a] w fun e w' => e = .returned (.bool true) ∧ Below w.heap.size w w' := by
  obtain ⟨a0, a1⟩ := wf_s32 h0
  have AW := fun v => sign_awake K v
  have c1 := fun v => K.kind a v a0 a1 _ rfl
  have c2 := fun v => ref_skind a _ rfl v
  have hw : wrap64 a = a := by unfold wrap64; omega
  generalize kindI a = k at *
  clear K h0 a0 a1
  go_enter Try.func3, Try.ntmps3
  go_wp2_with (first
    | (go_at_call 10; (with_reducible refine Calls.mono (AW _) ?_); rintro e w1 ⟨rfl, b1⟩)
    | (go_at_call 11; (with_reducible refine Calls.mono (c1 _) ?_); rintro e w2 ⟨rfl, b2⟩)
    | (go_at_call 12; (with_reducible refine Calls.mono (c2 _) ?_); rintro e w3 ⟨rfl, rfl⟩))
  go_ret
  exact ⟨by simp, below_more b1 b2⟩

set_option maxHeartbeats 4000000 in
theorem walk_SignNext (K : SignOk) (s : ByteArray) (a : Int) (w : World) (_hs : s.size ≤ maxLen) (h0 : (Lit.int .i64 a).wf = true) :
    Calls Try.prog 4 #[.string s, .int .i64 a] w fun e w' => e = .returned (.bool true) ∧ Below w.heap.size w w' := by
  obtain ⟨a0, a1⟩ := wf_s64 h0
  have AW := fun v => sign_awake K v
  by_cases h2 : 200 < s.size
  · have k2 : 200 < (s.size : Int) := by omega
    clear _hs h0 K
    go_enter Try.func4, Try.ntmps4
    go_wp2_with (go_at_call 10; (with_reducible refine Calls.mono (AW _) ?_); rintro e w1 ⟨rfl, b1⟩)
    go_ret
    exact ⟨rfl, b1⟩
  have k2 : ¬ 200 < (s.size : Int) := by omega
  obtain ⟨R, M, c1, c2, hR, hR1⟩ : ∃ (R : Int) (M : Int), (∀ v, Calls Try.prog 13 #[.string s, .int .i64 a] v fun e w' => e = .returned (.tuple #[.int .i32 R, .int .i64 M]) ∧ Below v.heap.size v w') ∧ (∀ v, Calls Try.prog 14 #[.string s, .int .i64 a] v fun e w' => e = .returned (.tuple #[.int .i64 R, .int .i64 M]) ∧ v = w') ∧ 0 ≤ R ∧ R ≤ 1114111 := by
    rcases (by omega : (0 ≤ a ∧ a < (s.size : Int)) ∨ (a < 0 ∨ (s.size : Int) ≤ a)) with h | h
    · obtain ⟨i, rfl⟩ : ∃ i : Nat, a = i := ⟨a.toNat, by omega⟩
      exact ⟨nextR s i, nextN s i, fun v => K.next s i v (by omega) (by omega), fun v => ref_snext (by omega) i (by omega) v, next_range s i⟩
    · exact ⟨0, 0, fun v => K.next_no s a v (by omega) a0 a1 h, fun v => ref_snext_no a h v, by omega⟩
  have hw : wrap64 R = R := by unfold wrap64; omega
  clear _hs h0 K a0 a1 h2 hR hR1
  go_enter Try.func4, Try.ntmps4
  go_wp2_with (first
    | (go_at_call 10; (with_reducible refine Calls.mono (AW _) ?_); rintro e w1 ⟨rfl, b1⟩)
    | (go_at_call 13; (with_reducible refine Calls.mono (c1 _) ?_); rintro e w2 ⟨rfl, b2⟩)
    | (go_at_call 14; (with_reducible refine Calls.mono (c2 _) ?_); rintro e w3 ⟨rfl, rfl⟩))
  go_ret
  exact ⟨by simp, below_more b1 b2⟩

set_option maxHeartbeats 4000000 in
theorem walk_SignPlaces (K : SignOk) (s : ByteArray) (a : Int) (w : World) (_hs : s.size ≤ maxLen) (h0 : (Lit.int .i64 a).wf = true) :
    Calls Try.prog 5 #[.string s, .int .i64 a] w fun e w' => e = .returned (.bool true) ∧ Below w.heap.size w w' := by
  obtain ⟨a0, a1⟩ := wf_s64 h0
  have AW := fun v => sign_awake K v
  by_cases h2 : 200 < s.size
  · have k2 : 200 < (s.size : Int) := by omega
    clear _hs h0 K
    go_enter Try.func5, Try.ntmps5
    go_wp2_with (go_at_call 10; (with_reducible refine Calls.mono (AW _) ?_); rintro e w1 ⟨rfl, b1⟩)
    go_ret
    exact ⟨rfl, b1⟩
  have k2 : ¬ 200 < (s.size : Int) := by omega
  have c1 := fun v => K.place s a v (by omega) a0 a1
  have c2 := fun v => ref_splace (s := s) (by omega) a v
  unfold AnsL at c1 c2
  generalize placeI s a = P at *
  obtain ⟨l, c⟩ := P
  dsimp only at c1 c2
  clear _hs h0 K a0 a1 h2
  go_enter Try.func5, Try.ntmps5
  go_wp2_with (first
    | (go_at_call 10; (with_reducible refine Calls.mono (AW _) ?_); rintro e w1 ⟨rfl, b1⟩)
    | (go_at_call 15; (with_reducible refine Calls.mono (c1 _) ?_); rintro e w2 ⟨rfl, b2⟩)
    | (go_at_call 16; (with_reducible refine Calls.mono (c2 _) ?_); rintro e w3 ⟨rfl, b3⟩))
  go_ret
  exact ⟨by simp, below_more (below_more b1 b2) b3⟩

set_option maxHeartbeats 4000000 in
theorem walk_SignNames (K : SignOk) (s : ByteArray) (w : World) (_hs : s.size ≤ maxLen) :
    Calls Try.prog 6 #[.string s] w fun e w' => e = .returned (.bool true) ∧ Below w.heap.size w w' := by
  have AW := fun v => sign_awake K v
  by_cases h2 : 200 < s.size
  · have k2 : 200 < (s.size : Int) := by omega
    clear _hs K
    go_enter Try.func6, Try.ntmps6
    go_wp2_with (go_at_call 10; (with_reducible refine Calls.mono (AW _) ?_); rintro e w1 ⟨rfl, b1⟩)
    go_ret
    exact ⟨rfl, b1⟩
  have k2 : ¬ 200 < (s.size : Int) := by omega
  have c1 := fun v => K.name s v (by omega) _ rfl
  have c2 := fun v => ref_sname (s := s) (by omega) _ rfl v
  have c3 := fun v => K.key s v (by omega) _ rfl
  have c4 := fun v => ref_skey s _ rfl v
  generalize nameB s = n at *
  generalize keyB s = k at *
  clear _hs K h2
  go_enter Try.func6, Try.ntmps6
  go_wp2_with (first
    | (go_at_call 10; (with_reducible refine Calls.mono (AW _) ?_); rintro e w1 ⟨rfl, b1⟩)
    | (go_at_call 17; (with_reducible refine Calls.mono (c1 _) ?_); rintro e w2 ⟨rfl, b2⟩)
    | (go_at_call 18; (with_reducible refine Calls.mono (c2 _) ?_); rintro e w3 ⟨rfl, rfl⟩)
    | (go_at_call 19; (with_reducible refine Calls.mono (c3 _) ?_); rintro e w4 ⟨rfl, b4⟩)
    | (go_at_call 20; (with_reducible refine Calls.mono (c4 _) ?_); rintro e w5 ⟨rfl, rfl⟩))
  go_ret
  exact ⟨by simp, below_more (below_more b1 b2) b4⟩
end Go.Proofs.Ytnmohojmoienbaa
