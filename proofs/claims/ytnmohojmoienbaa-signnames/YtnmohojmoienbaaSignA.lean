/-
  Contracts of package sign's functions isLetter, Kind, Key and behind: kinds of all numbers, words of the language, the place behind a rune; memory that was there stays.
-/
import Derived.Test.YtnmohojmoienbaaSignWalks
namespace Go.Proofs.Ytnmohojmoienbaa
open Go.RowKit Go.Lib

/-- Letters. -/
def letterP (r : Int) : Prop := 97 ≤ r ∧ r ≤ 122 ∨ 65 ≤ r ∧ r ≤ 90 ∨ r = 95 ∨ 128 ≤ r ∧ r ≤ 1114111 ∧ r ≠ 65533

set_option maxHeartbeats 4000000 in
theorem sign_letter_yes (r : Int) (h : letterP r) (w : World) : Calls Try.prog 21 #[.int .i32 r] w fun e w' => e = .returned (.bool true) ∧ w = w' := by
  rcases h with ⟨g1, g2⟩ | ⟨g1, g2⟩ | rfl | ⟨g1, g2, g3⟩
  · have g3 : ¬ 128 ≤ r := by omega
    go_enter Try.func21, Try.ntmps21
    go_wp2
    go_ret
    exact ⟨rfl, rfl⟩
  · have g3 : ¬ 128 ≤ r := by omega
    have g4 : ¬ 97 ≤ r := by omega
    go_enter Try.func21, Try.ntmps21
    go_wp2
    go_ret
    exact ⟨rfl, rfl⟩
  · go_enter Try.func21, Try.ntmps21
    go_wp2
    go_ret
    exact ⟨rfl, rfl⟩
  · have g4 : (r != 65533) = true := by rw [bne_iff_ne]; exact g3
    clear g3
    go_enter Try.func21, Try.ntmps21
    go_wp2
    go_ret
    exact ⟨rfl, rfl⟩

set_option maxHeartbeats 4000000 in
theorem sign_letter_no (r : Int) (h : ¬ letterP r) (w : World) : Calls Try.prog 21 #[.int .i32 r] w fun e w' => e = .returned (.bool false) ∧ w = w' := by
  unfold letterP at h
  rcases (by omega : r < 65 ∨ (90 < r ∧ r < 97 ∧ r ≠ 95) ∨ (122 < r ∧ r < 128) ∨ r = 65533 ∨ 1114111 < r) with g | ⟨g1, g2, g3⟩ | ⟨g1, g2⟩ | rfl | g
  · have g1 : ¬ 128 ≤ r := by omega
    have g2 : ¬ 97 ≤ r := by omega
    have g3 : ¬ 65 ≤ r := by omega
    have g4 : (r == 95) = false := by rw [beq_eq_false_iff_ne]; omega
    clear h
    go_enter Try.func21, Try.ntmps21
    go_wp2
    go_ret
    exact ⟨rfl, rfl⟩
  · have k1 : ¬ 128 ≤ r := by omega
    have k2 : ¬ 97 ≤ r := by omega
    have k3 : ¬ r ≤ 90 := by omega
    have k5 : 65 ≤ r := by omega
    have k4 : (r == 95) = false := by rw [beq_eq_false_iff_ne]; omega
    clear h
    go_enter Try.func21, Try.ntmps21
    go_wp2
    go_ret
    exact ⟨rfl, rfl⟩
  · have k1 : ¬ 128 ≤ r := by omega
    have k2 : 97 ≤ r := by omega
    have k3 : ¬ r ≤ 122 := by omega
    have k5 : 65 ≤ r := by omega
    have k6 : ¬ r ≤ 90 := by omega
    have k4 : (r == 95) = false := by rw [beq_eq_false_iff_ne]; omega
    clear h
    go_enter Try.func21, Try.ntmps21
    go_wp2
    go_ret
    exact ⟨rfl, rfl⟩
  · clear h
    go_enter Try.func21, Try.ntmps21
    go_wp2
    go_ret
    exact ⟨rfl, rfl⟩
  · have k1 : 128 ≤ r := by omega
    have k2 : ¬ r ≤ 1114111 := by omega
    clear h
    go_enter Try.func21, Try.ntmps21
    go_wp2
    go_ret
    exact ⟨rfl, rfl⟩

theorem kindI_letter {r : Int} (h : letterP r) : kindI r = 1 := if_pos h
theorem kindI_rest {r : Int} (h : ¬ letterP r) : kindI r = if 48 ≤ r ∧ r ≤ 57 then 2 else if r = 9 ∨ r = 10 ∨ r = 13 ∨ r = 32 then 3 else if r = 43 ∨ r = 45 ∨ r = 42 ∨ r = 47 ∨ r = 94 ∨ r = 40 ∨ r = 41 ∨ r = 61 ∨ r = 59 ∨ r = 44 then 4 else 0 := if_neg h
set_option maxHeartbeats 4000000 in
theorem sign_kind (r : Int) (k : Int) (hk : kindI r = k) (w : World) : Calls Try.prog 11 #[.int .i32 r] w fun e w' => e = .returned (.int .i64 k) ∧ w = w' := by
  by_cases hl : letterP r
  · have L := fun v => sign_letter_yes r hl v
    obtain rfl : k = 1 := by rw [← hk]; exact kindI_letter hl
    clear hl hk
    go_enter Try.func11, Try.ntmps11
    go_wp2_with (go_at_call 21; (with_reducible refine Calls.mono (L _) ?_); rintro e v1 ⟨rfl, rfl⟩)
    go_ret
    exact ⟨rfl, rfl⟩
  have L := fun v => sign_letter_no r hl v
  have HK : Hid (kindI r = k) := hk
  rcases (by omega : (48 ≤ r ∧ r ≤ 57) ∨ r = 9 ∨ r = 10 ∨ r = 13 ∨ r = 32 ∨ r = 43 ∨ r = 45 ∨ r = 42 ∨ r = 47 ∨ r = 94 ∨ r = 40 ∨ r = 41 ∨ r = 61 ∨ r = 59 ∨ r = 44 ∨ (¬ (48 ≤ r ∧ r ≤ 57) ∧ r ≠ 9 ∧ r ≠ 10 ∧ r ≠ 13 ∧ r ≠ 32 ∧ r ≠ 43 ∧ r ≠ 45 ∧ r ≠ 42 ∧ r ≠ 47 ∧ r ≠ 94 ∧ r ≠ 40 ∧ r ≠ 41 ∧ r ≠ 61 ∧ r ≠ 59 ∧ r ≠ 44)) with ⟨g1, g2⟩ | rfl | rfl | rfl | rfl | rfl | rfl | rfl | rfl | rfl | rfl | rfl | rfl | rfl | rfl | ⟨g, n9, n10, n13, n32, n43, n45, n42, n47, n94, n40, n41, n61, n59, n44⟩
  · obtain rfl : k = 2 := by
      rw [← HK.out, kindI_rest hl, if_pos ⟨g1, g2⟩]
    clear hl hk HK
    go_enter Try.func11, Try.ntmps11
    go_wp2_with (go_at_call 21; (with_reducible refine Calls.mono (L _) ?_); rintro e v1 ⟨rfl, rfl⟩)
    go_ret
    exact ⟨rfl, rfl⟩
  · obtain rfl : k = 3 := by rw [← HK.out]; decide
    clear hl hk HK
    go_enter Try.func11, Try.ntmps11
    go_wp2_with (go_at_call 21; (with_reducible refine Calls.mono (L _) ?_); rintro e v1 ⟨rfl, rfl⟩)
    go_ret
    exact ⟨rfl, rfl⟩
  · obtain rfl : k = 3 := by rw [← HK.out]; decide
    clear hl hk HK
    go_enter Try.func11, Try.ntmps11
    go_wp2_with (go_at_call 21; (with_reducible refine Calls.mono (L _) ?_); rintro e v1 ⟨rfl, rfl⟩)
    go_ret
    exact ⟨rfl, rfl⟩
  · obtain rfl : k = 3 := by rw [← HK.out]; decide
    clear hl hk HK
    go_enter Try.func11, Try.ntmps11
    go_wp2_with (go_at_call 21; (with_reducible refine Calls.mono (L _) ?_); rintro e v1 ⟨rfl, rfl⟩)
    go_ret
    exact ⟨rfl, rfl⟩
  · obtain rfl : k = 3 := by rw [← HK.out]; decide
    clear hl hk HK
    go_enter Try.func11, Try.ntmps11
    go_wp2_with (go_at_call 21; (with_reducible refine Calls.mono (L _) ?_); rintro e v1 ⟨rfl, rfl⟩)
    go_ret
    exact ⟨rfl, rfl⟩
  · obtain rfl : k = 4 := by rw [← HK.out]; decide
    clear hl hk HK
    go_enter Try.func11, Try.ntmps11
    go_wp2_with (go_at_call 21; (with_reducible refine Calls.mono (L _) ?_); rintro e v1 ⟨rfl, rfl⟩)
    go_ret
    exact ⟨rfl, rfl⟩
  · obtain rfl : k = 4 := by rw [← HK.out]; decide
    clear hl hk HK
    go_enter Try.func11, Try.ntmps11
    go_wp2_with (go_at_call 21; (with_reducible refine Calls.mono (L _) ?_); rintro e v1 ⟨rfl, rfl⟩)
    go_ret
    exact ⟨rfl, rfl⟩
  · obtain rfl : k = 4 := by rw [← HK.out]; decide
    clear hl hk HK
    go_enter Try.func11, Try.ntmps11
    go_wp2_with (go_at_call 21; (with_reducible refine Calls.mono (L _) ?_); rintro e v1 ⟨rfl, rfl⟩)
    go_ret
    exact ⟨rfl, rfl⟩
  · obtain rfl : k = 4 := by rw [← HK.out]; decide
    clear hl hk HK
    go_enter Try.func11, Try.ntmps11
    go_wp2_with (go_at_call 21; (with_reducible refine Calls.mono (L _) ?_); rintro e v1 ⟨rfl, rfl⟩)
    go_ret
    exact ⟨rfl, rfl⟩
  · obtain rfl : k = 4 := by rw [← HK.out]; decide
    clear hl hk HK
    go_enter Try.func11, Try.ntmps11
    go_wp2_with (go_at_call 21; (with_reducible refine Calls.mono (L _) ?_); rintro e v1 ⟨rfl, rfl⟩)
    go_ret
    exact ⟨rfl, rfl⟩
  · obtain rfl : k = 4 := by rw [← HK.out]; decide
    clear hl hk HK
    go_enter Try.func11, Try.ntmps11
    go_wp2_with (go_at_call 21; (with_reducible refine Calls.mono (L _) ?_); rintro e v1 ⟨rfl, rfl⟩)
    go_ret
    exact ⟨rfl, rfl⟩
  · obtain rfl : k = 4 := by rw [← HK.out]; decide
    clear hl hk HK
    go_enter Try.func11, Try.ntmps11
    go_wp2_with (go_at_call 21; (with_reducible refine Calls.mono (L _) ?_); rintro e v1 ⟨rfl, rfl⟩)
    go_ret
    exact ⟨rfl, rfl⟩
  · obtain rfl : k = 4 := by rw [← HK.out]; decide
    clear hl hk HK
    go_enter Try.func11, Try.ntmps11
    go_wp2_with (go_at_call 21; (with_reducible refine Calls.mono (L _) ?_); rintro e v1 ⟨rfl, rfl⟩)
    go_ret
    exact ⟨rfl, rfl⟩
  · obtain rfl : k = 4 := by rw [← HK.out]; decide
    clear hl hk HK
    go_enter Try.func11, Try.ntmps11
    go_wp2_with (go_at_call 21; (with_reducible refine Calls.mono (L _) ?_); rintro e v1 ⟨rfl, rfl⟩)
    go_ret
    exact ⟨rfl, rfl⟩
  · obtain rfl : k = 4 := by rw [← HK.out]; decide
    clear hl hk HK
    go_enter Try.func11, Try.ntmps11
    go_wp2_with (go_at_call 21; (with_reducible refine Calls.mono (L _) ?_); rintro e v1 ⟨rfl, rfl⟩)
    go_ret
    exact ⟨rfl, rfl⟩
  · obtain rfl : k = 0 := by
      rw [← HK.out, kindI_rest hl, if_neg g, if_neg (by omega), if_neg (by omega)]
    have e9 : (r == 9) = false := by rw [beq_eq_false_iff_ne]; exact n9
    have e10 : (r == 10) = false := by rw [beq_eq_false_iff_ne]; exact n10
    have e13 : (r == 13) = false := by rw [beq_eq_false_iff_ne]; exact n13
    have e32 : (r == 32) = false := by rw [beq_eq_false_iff_ne]; exact n32
    have e43 : (r == 43) = false := by rw [beq_eq_false_iff_ne]; exact n43
    have e45 : (r == 45) = false := by rw [beq_eq_false_iff_ne]; exact n45
    have e42 : (r == 42) = false := by rw [beq_eq_false_iff_ne]; exact n42
    have e47 : (r == 47) = false := by rw [beq_eq_false_iff_ne]; exact n47
    have e94 : (r == 94) = false := by rw [beq_eq_false_iff_ne]; exact n94
    have e40 : (r == 40) = false := by rw [beq_eq_false_iff_ne]; exact n40
    have e41 : (r == 41) = false := by rw [beq_eq_false_iff_ne]; exact n41
    have e61 : (r == 61) = false := by rw [beq_eq_false_iff_ne]; exact n61
    have e59 : (r == 59) = false := by rw [beq_eq_false_iff_ne]; exact n59
    have e44 : (r == 44) = false := by rw [beq_eq_false_iff_ne]; exact n44
    clear hl hk HK
    rcases (by omega : r < 48 ∨ 57 < r) with q | q
    · have q1 : ¬ 48 ≤ r := by omega
      clear g q n9 n10 n13 n32 n43 n45 n42 n47 n94 n40 n41 n61 n59 n44
      go_enter Try.func11, Try.ntmps11
      go_wp2_with (go_at_call 21; (with_reducible refine Calls.mono (L _) ?_); rintro e v1 ⟨rfl, rfl⟩)
      go_ret
      exact ⟨rfl, rfl⟩
    · have q1 : 48 ≤ r := by omega
      have q2 : ¬ r ≤ 57 := by omega
      clear g q n9 n10 n13 n32 n43 n45 n42 n47 n94 n40 n41 n61 n59 n44
      go_enter Try.func11, Try.ntmps11
      go_wp2_with (go_at_call 21; (with_reducible refine Calls.mono (L _) ?_); rintro e v1 ⟨rfl, rfl⟩)
      go_ret
      exact ⟨rfl, rfl⟩

set_option maxHeartbeats 4000000 in
theorem sign_key (s : ByteArray) (r : Bool) (hr : keyB s = r) (w : World) : Calls Try.prog 19 #[.string s] w fun e w' => e = .returned (.bool r) ∧ w = w' := by
  unfold keyB at hr
  generalize h1 : (s.toList == [105, 110]) = b1 at hr
  generalize h2 : (s.toList == [108, 101, 116]) = b2 at hr
  generalize h3 : (s.toList == [111, 117, 116]) = b3 at hr
  subst hr
  cases b1 <;> cases b2 <;> cases b3
  all_goals
    go_enter Try.func19, Try.ntmps19
    go_wp2
    go_ret
    exact ⟨rfl, rfl⟩

set_option maxHeartbeats 4000000 in
theorem sign_behind (l c R : Int) (hl0 : 0 ≤ l) (hl : l < 10000000) (hc0 : 0 ≤ c) (hc : c < 10000000) (w : World) :
    Calls Try.prog 26 #[.agg #[.int .i64 l, .int .i64 c], .int .i32 R] w (AnsL w (if R = 10 then l + 1 else l, if R = 10 then 1 else c + 1)) := by
  have wl : wrap64 (l + 1) = l + 1 := by unfold wrap64; omega
  have wc : wrap64 (c + 1) = c + 1 := by unfold wrap64; omega
  clear hl0 hl hc0 hc
  by_cases h10 : R = 10
  · have e10 : (R == 10) = true := by rw [beq_iff_eq]; exact h10
    rw [if_pos h10, if_pos h10]
    obtain ⟨B2, B4, bV, hb⟩ := boxes2 w #[.int .i64 l, .int .i64 c] #[.int .i64 (l + 1), .int .i64 1] 32 32
    obtain ⟨x0, x1, x2, x3⟩ := B2.cells2
    obtain ⟨y0, y1, y2, y3⟩ := B4.cells2
    clear h10 B2 B4
    go_enter Try.func26, Try.ntmps26
    go_wp2
    exact bodyPost_ret (v := .agg #[.int .i64 (l + 1), .int .i64 1]) (by simp [results, Try.results26, go_sem, y0, y1]) rfl ⟨rfl, bV⟩
  · have e10 : (R == 10) = false := by rw [beq_eq_false_iff_ne]; exact h10
    rw [if_neg h10, if_neg h10]
    obtain ⟨B2, B4, bV, hb⟩ := boxes2 w #[.int .i64 l, .int .i64 c] #[.int .i64 l, .int .i64 (c + 1)] 32 32
    obtain ⟨x0, x1, x2, x3⟩ := B2.cells2
    obtain ⟨y0, y1, y2, y3⟩ := B4.cells2
    clear h10 B2 B4
    go_enter Try.func26, Try.ntmps26
    go_wp2
    exact bodyPost_ret (v := .agg #[.int .i64 l, .int .i64 (c + 1)]) (by simp [results, Try.results26, go_sem, y0, y1]) rfl ⟨rfl, bV⟩
end Go.Proofs.Ytnmohojmoienbaa
