/-
  Contract of the document's own Kind (package talwegref09), at every number: memory stays as it is.
-/
import Derived.Test.YtnmohojmoienbaaSignRef
namespace Go.Proofs.Ytnmohojmoienbaa
open Go.RowKit Go.Lib

theorem kind_iv0 (r : Int) (h1 : r ≤ 8) (w : World) : Calls Try.prog 12 #[.int .i64 r] w fun e w' => e = .returned (.int .i64 0) ∧ w = w' := by
  have g97 : ¬ 97 ≤ r := by omega
  have g65 : ¬ 65 ≤ r := by omega
  have e95 : (r == 95) = false := by rw [beq_eq_false_iff_ne]; omega
  have g128 : ¬ 128 ≤ r := by omega
  have g48 : ¬ 48 ≤ r := by omega
  have e9 : (r == 9) = false := by rw [beq_eq_false_iff_ne]; omega
  have e10 : (r == 10) = false := by rw [beq_eq_false_iff_ne]; omega
  have e13 : (r == 13) = false := by rw [beq_eq_false_iff_ne]; omega
  have e32 : (r == 32) = false := by rw [beq_eq_false_iff_ne]; omega
  have e43 : (r == 43) = false := by rw [beq_eq_false_iff_ne]; omega
  have e45 : (r == 45) = false := by rw [beq_eq_false_iff_ne]; omega
  have e42 : (r == 42) = false := by rw [beq_eq_false_iff_ne]; omega
  have e47 : (r == 47) = false := by rw [beq_eq_false_iff_ne]; omega
  have e94 : (r == 94) = false := by rw [beq_eq_false_iff_ne]; omega
  have e40 : (r == 40) = false := by rw [beq_eq_false_iff_ne]; omega
  have e41 : (r == 41) = false := by rw [beq_eq_false_iff_ne]; omega
  have e61 : (r == 61) = false := by rw [beq_eq_false_iff_ne]; omega
  have e59 : (r == 59) = false := by rw [beq_eq_false_iff_ne]; omega
  have e44 : (r == 44) = false := by rw [beq_eq_false_iff_ne]; omega
  go_enter Try.func12, Try.ntmps12
  go_wp2
  go_ret
  exact ⟨rfl, rfl⟩
theorem kind_iv1 (r : Int) (h0 : 11 ≤ r) (h1 : r ≤ 12) (w : World) : Calls Try.prog 12 #[.int .i64 r] w fun e w' => e = .returned (.int .i64 0) ∧ w = w' := by
  have g97 : ¬ 97 ≤ r := by omega
  have g65 : ¬ 65 ≤ r := by omega
  have e95 : (r == 95) = false := by rw [beq_eq_false_iff_ne]; omega
  have g128 : ¬ 128 ≤ r := by omega
  have g48 : ¬ 48 ≤ r := by omega
  have e9 : (r == 9) = false := by rw [beq_eq_false_iff_ne]; omega
  have e10 : (r == 10) = false := by rw [beq_eq_false_iff_ne]; omega
  have e13 : (r == 13) = false := by rw [beq_eq_false_iff_ne]; omega
  have e32 : (r == 32) = false := by rw [beq_eq_false_iff_ne]; omega
  have e43 : (r == 43) = false := by rw [beq_eq_false_iff_ne]; omega
  have e45 : (r == 45) = false := by rw [beq_eq_false_iff_ne]; omega
  have e42 : (r == 42) = false := by rw [beq_eq_false_iff_ne]; omega
  have e47 : (r == 47) = false := by rw [beq_eq_false_iff_ne]; omega
  have e94 : (r == 94) = false := by rw [beq_eq_false_iff_ne]; omega
  have e40 : (r == 40) = false := by rw [beq_eq_false_iff_ne]; omega
  have e41 : (r == 41) = false := by rw [beq_eq_false_iff_ne]; omega
  have e61 : (r == 61) = false := by rw [beq_eq_false_iff_ne]; omega
  have e59 : (r == 59) = false := by rw [beq_eq_false_iff_ne]; omega
  have e44 : (r == 44) = false := by rw [beq_eq_false_iff_ne]; omega
  go_enter Try.func12, Try.ntmps12
  go_wp2
  go_ret
  exact ⟨rfl, rfl⟩
theorem kind_iv2 (r : Int) (h0 : 14 ≤ r) (h1 : r ≤ 31) (w : World) : Calls Try.prog 12 #[.int .i64 r] w fun e w' => e = .returned (.int .i64 0) ∧ w = w' := by
  have g97 : ¬ 97 ≤ r := by omega
  have g65 : ¬ 65 ≤ r := by omega
  have e95 : (r == 95) = false := by rw [beq_eq_false_iff_ne]; omega
  have g128 : ¬ 128 ≤ r := by omega
  have g48 : ¬ 48 ≤ r := by omega
  have e9 : (r == 9) = false := by rw [beq_eq_false_iff_ne]; omega
  have e10 : (r == 10) = false := by rw [beq_eq_false_iff_ne]; omega
  have e13 : (r == 13) = false := by rw [beq_eq_false_iff_ne]; omega
  have e32 : (r == 32) = false := by rw [beq_eq_false_iff_ne]; omega
  have e43 : (r == 43) = false := by rw [beq_eq_false_iff_ne]; omega
  have e45 : (r == 45) = false := by rw [beq_eq_false_iff_ne]; omega
  have e42 : (r == 42) = false := by rw [beq_eq_false_iff_ne]; omega
  have e47 : (r == 47) = false := by rw [beq_eq_false_iff_ne]; omega
  have e94 : (r == 94) = false := by rw [beq_eq_false_iff_ne]; omega
  have e40 : (r == 40) = false := by rw [beq_eq_false_iff_ne]; omega
  have e41 : (r == 41) = false := by rw [beq_eq_false_iff_ne]; omega
  have e61 : (r == 61) = false := by rw [beq_eq_false_iff_ne]; omega
  have e59 : (r == 59) = false := by rw [beq_eq_false_iff_ne]; omega
  have e44 : (r == 44) = false := by rw [beq_eq_false_iff_ne]; omega
  go_enter Try.func12, Try.ntmps12
  go_wp2
  go_ret
  exact ⟨rfl, rfl⟩
theorem kind_iv3 (r : Int) (h0 : 33 ≤ r) (h1 : r ≤ 39) (w : World) : Calls Try.prog 12 #[.int .i64 r] w fun e w' => e = .returned (.int .i64 0) ∧ w = w' := by
  have g97 : ¬ 97 ≤ r := by omega
  have g65 : ¬ 65 ≤ r := by omega
  have e95 : (r == 95) = false := by rw [beq_eq_false_iff_ne]; omega
  have g128 : ¬ 128 ≤ r := by omega
  have g48 : ¬ 48 ≤ r := by omega
  have e9 : (r == 9) = false := by rw [beq_eq_false_iff_ne]; omega
  have e10 : (r == 10) = false := by rw [beq_eq_false_iff_ne]; omega
  have e13 : (r == 13) = false := by rw [beq_eq_false_iff_ne]; omega
  have e32 : (r == 32) = false := by rw [beq_eq_false_iff_ne]; omega
  have e43 : (r == 43) = false := by rw [beq_eq_false_iff_ne]; omega
  have e45 : (r == 45) = false := by rw [beq_eq_false_iff_ne]; omega
  have e42 : (r == 42) = false := by rw [beq_eq_false_iff_ne]; omega
  have e47 : (r == 47) = false := by rw [beq_eq_false_iff_ne]; omega
  have e94 : (r == 94) = false := by rw [beq_eq_false_iff_ne]; omega
  have e40 : (r == 40) = false := by rw [beq_eq_false_iff_ne]; omega
  have e41 : (r == 41) = false := by rw [beq_eq_false_iff_ne]; omega
  have e61 : (r == 61) = false := by rw [beq_eq_false_iff_ne]; omega
  have e59 : (r == 59) = false := by rw [beq_eq_false_iff_ne]; omega
  have e44 : (r == 44) = false := by rw [beq_eq_false_iff_ne]; omega
  go_enter Try.func12, Try.ntmps12
  go_wp2
  go_ret
  exact ⟨rfl, rfl⟩
theorem kind_iv4 (r : Int) (h0 : 46 ≤ r) (h1 : r ≤ 46) (w : World) : Calls Try.prog 12 #[.int .i64 r] w fun e w' => e = .returned (.int .i64 0) ∧ w = w' := by
  have g97 : ¬ 97 ≤ r := by omega
  have g65 : ¬ 65 ≤ r := by omega
  have e95 : (r == 95) = false := by rw [beq_eq_false_iff_ne]; omega
  have g128 : ¬ 128 ≤ r := by omega
  have g48 : ¬ 48 ≤ r := by omega
  have e9 : (r == 9) = false := by rw [beq_eq_false_iff_ne]; omega
  have e10 : (r == 10) = false := by rw [beq_eq_false_iff_ne]; omega
  have e13 : (r == 13) = false := by rw [beq_eq_false_iff_ne]; omega
  have e32 : (r == 32) = false := by rw [beq_eq_false_iff_ne]; omega
  have e43 : (r == 43) = false := by rw [beq_eq_false_iff_ne]; omega
  have e45 : (r == 45) = false := by rw [beq_eq_false_iff_ne]; omega
  have e42 : (r == 42) = false := by rw [beq_eq_false_iff_ne]; omega
  have e47 : (r == 47) = false := by rw [beq_eq_false_iff_ne]; omega
  have e94 : (r == 94) = false := by rw [beq_eq_false_iff_ne]; omega
  have e40 : (r == 40) = false := by rw [beq_eq_false_iff_ne]; omega
  have e41 : (r == 41) = false := by rw [beq_eq_false_iff_ne]; omega
  have e61 : (r == 61) = false := by rw [beq_eq_false_iff_ne]; omega
  have e59 : (r == 59) = false := by rw [beq_eq_false_iff_ne]; omega
  have e44 : (r == 44) = false := by rw [beq_eq_false_iff_ne]; omega
  go_enter Try.func12, Try.ntmps12
  go_wp2
  go_ret
  exact ⟨rfl, rfl⟩
theorem kind_iv5 (r : Int) (h0 : 48 ≤ r) (h1 : r ≤ 57) (w : World) : Calls Try.prog 12 #[.int .i64 r] w fun e w' => e = .returned (.int .i64 2) ∧ w = w' := by
  have g97 : ¬ 97 ≤ r := by omega
  have g65 : ¬ 65 ≤ r := by omega
  have e95 : (r == 95) = false := by rw [beq_eq_false_iff_ne]; omega
  have g128 : ¬ 128 ≤ r := by omega
  have g48 : 48 ≤ r := by omega
  have l57 : r ≤ 57 := by omega
  go_enter Try.func12, Try.ntmps12
  go_wp2
  go_ret
  exact ⟨rfl, rfl⟩
theorem kind_iv6 (r : Int) (h0 : 58 ≤ r) (h1 : r ≤ 58) (w : World) : Calls Try.prog 12 #[.int .i64 r] w fun e w' => e = .returned (.int .i64 0) ∧ w = w' := by
  have g97 : ¬ 97 ≤ r := by omega
  have g65 : ¬ 65 ≤ r := by omega
  have e95 : (r == 95) = false := by rw [beq_eq_false_iff_ne]; omega
  have g128 : ¬ 128 ≤ r := by omega
  have g48 : 48 ≤ r := by omega
  have l57 : ¬ r ≤ 57 := by omega
  have e9 : (r == 9) = false := by rw [beq_eq_false_iff_ne]; omega
  have e10 : (r == 10) = false := by rw [beq_eq_false_iff_ne]; omega
  have e13 : (r == 13) = false := by rw [beq_eq_false_iff_ne]; omega
  have e32 : (r == 32) = false := by rw [beq_eq_false_iff_ne]; omega
  have e43 : (r == 43) = false := by rw [beq_eq_false_iff_ne]; omega
  have e45 : (r == 45) = false := by rw [beq_eq_false_iff_ne]; omega
  have e42 : (r == 42) = false := by rw [beq_eq_false_iff_ne]; omega
  have e47 : (r == 47) = false := by rw [beq_eq_false_iff_ne]; omega
  have e94 : (r == 94) = false := by rw [beq_eq_false_iff_ne]; omega
  have e40 : (r == 40) = false := by rw [beq_eq_false_iff_ne]; omega
  have e41 : (r == 41) = false := by rw [beq_eq_false_iff_ne]; omega
  have e61 : (r == 61) = false := by rw [beq_eq_false_iff_ne]; omega
  have e59 : (r == 59) = false := by rw [beq_eq_false_iff_ne]; omega
  have e44 : (r == 44) = false := by rw [beq_eq_false_iff_ne]; omega
  go_enter Try.func12, Try.ntmps12
  go_wp2
  go_ret
  exact ⟨rfl, rfl⟩
theorem kind_iv7 (r : Int) (h0 : 60 ≤ r) (h1 : r ≤ 60) (w : World) : Calls Try.prog 12 #[.int .i64 r] w fun e w' => e = .returned (.int .i64 0) ∧ w = w' := by
  have g97 : ¬ 97 ≤ r := by omega
  have g65 : ¬ 65 ≤ r := by omega
  have e95 : (r == 95) = false := by rw [beq_eq_false_iff_ne]; omega
  have g128 : ¬ 128 ≤ r := by omega
  have g48 : 48 ≤ r := by omega
  have l57 : ¬ r ≤ 57 := by omega
  have e9 : (r == 9) = false := by rw [beq_eq_false_iff_ne]; omega
  have e10 : (r == 10) = false := by rw [beq_eq_false_iff_ne]; omega
  have e13 : (r == 13) = false := by rw [beq_eq_false_iff_ne]; omega
  have e32 : (r == 32) = false := by rw [beq_eq_false_iff_ne]; omega
  have e43 : (r == 43) = false := by rw [beq_eq_false_iff_ne]; omega
  have e45 : (r == 45) = false := by rw [beq_eq_false_iff_ne]; omega
  have e42 : (r == 42) = false := by rw [beq_eq_false_iff_ne]; omega
  have e47 : (r == 47) = false := by rw [beq_eq_false_iff_ne]; omega
  have e94 : (r == 94) = false := by rw [beq_eq_false_iff_ne]; omega
  have e40 : (r == 40) = false := by rw [beq_eq_false_iff_ne]; omega
  have e41 : (r == 41) = false := by rw [beq_eq_false_iff_ne]; omega
  have e61 : (r == 61) = false := by rw [beq_eq_false_iff_ne]; omega
  have e59 : (r == 59) = false := by rw [beq_eq_false_iff_ne]; omega
  have e44 : (r == 44) = false := by rw [beq_eq_false_iff_ne]; omega
  go_enter Try.func12, Try.ntmps12
  go_wp2
  go_ret
  exact ⟨rfl, rfl⟩
theorem kind_iv8 (r : Int) (h0 : 62 ≤ r) (h1 : r ≤ 64) (w : World) : Calls Try.prog 12 #[.int .i64 r] w fun e w' => e = .returned (.int .i64 0) ∧ w = w' := by
  have g97 : ¬ 97 ≤ r := by omega
  have g65 : ¬ 65 ≤ r := by omega
  have e95 : (r == 95) = false := by rw [beq_eq_false_iff_ne]; omega
  have g128 : ¬ 128 ≤ r := by omega
  have g48 : 48 ≤ r := by omega
  have l57 : ¬ r ≤ 57 := by omega
  have e9 : (r == 9) = false := by rw [beq_eq_false_iff_ne]; omega
  have e10 : (r == 10) = false := by rw [beq_eq_false_iff_ne]; omega
  have e13 : (r == 13) = false := by rw [beq_eq_false_iff_ne]; omega
  have e32 : (r == 32) = false := by rw [beq_eq_false_iff_ne]; omega
  have e43 : (r == 43) = false := by rw [beq_eq_false_iff_ne]; omega
  have e45 : (r == 45) = false := by rw [beq_eq_false_iff_ne]; omega
  have e42 : (r == 42) = false := by rw [beq_eq_false_iff_ne]; omega
  have e47 : (r == 47) = false := by rw [beq_eq_false_iff_ne]; omega
  have e94 : (r == 94) = false := by rw [beq_eq_false_iff_ne]; omega
  have e40 : (r == 40) = false := by rw [beq_eq_false_iff_ne]; omega
  have e41 : (r == 41) = false := by rw [beq_eq_false_iff_ne]; omega
  have e61 : (r == 61) = false := by rw [beq_eq_false_iff_ne]; omega
  have e59 : (r == 59) = false := by rw [beq_eq_false_iff_ne]; omega
  have e44 : (r == 44) = false := by rw [beq_eq_false_iff_ne]; omega
  go_enter Try.func12, Try.ntmps12
  go_wp2
  go_ret
  exact ⟨rfl, rfl⟩
theorem kind_iv9 (r : Int) (h0 : 65 ≤ r) (h1 : r ≤ 90) (w : World) : Calls Try.prog 12 #[.int .i64 r] w fun e w' => e = .returned (.int .i64 1) ∧ w = w' := by
  have g97 : ¬ 97 ≤ r := by omega
  have g65 : 65 ≤ r := by omega
  have l90 : r ≤ 90 := by omega
  go_enter Try.func12, Try.ntmps12
  go_wp2
  go_ret
  exact ⟨rfl, rfl⟩
theorem kind_iv10 (r : Int) (h0 : 91 ≤ r) (h1 : r ≤ 93) (w : World) : Calls Try.prog 12 #[.int .i64 r] w fun e w' => e = .returned (.int .i64 0) ∧ w = w' := by
  have g97 : ¬ 97 ≤ r := by omega
  have g65 : 65 ≤ r := by omega
  have l90 : ¬ r ≤ 90 := by omega
  have e95 : (r == 95) = false := by rw [beq_eq_false_iff_ne]; omega
  have g128 : ¬ 128 ≤ r := by omega
  have g48 : 48 ≤ r := by omega
  have l57 : ¬ r ≤ 57 := by omega
  have e9 : (r == 9) = false := by rw [beq_eq_false_iff_ne]; omega
  have e10 : (r == 10) = false := by rw [beq_eq_false_iff_ne]; omega
  have e13 : (r == 13) = false := by rw [beq_eq_false_iff_ne]; omega
  have e32 : (r == 32) = false := by rw [beq_eq_false_iff_ne]; omega
  have e43 : (r == 43) = false := by rw [beq_eq_false_iff_ne]; omega
  have e45 : (r == 45) = false := by rw [beq_eq_false_iff_ne]; omega
  have e42 : (r == 42) = false := by rw [beq_eq_false_iff_ne]; omega
  have e47 : (r == 47) = false := by rw [beq_eq_false_iff_ne]; omega
  have e94 : (r == 94) = false := by rw [beq_eq_false_iff_ne]; omega
  have e40 : (r == 40) = false := by rw [beq_eq_false_iff_ne]; omega
  have e41 : (r == 41) = false := by rw [beq_eq_false_iff_ne]; omega
  have e61 : (r == 61) = false := by rw [beq_eq_false_iff_ne]; omega
  have e59 : (r == 59) = false := by rw [beq_eq_false_iff_ne]; omega
  have e44 : (r == 44) = false := by rw [beq_eq_false_iff_ne]; omega
  go_enter Try.func12, Try.ntmps12
  go_wp2
  go_ret
  exact ⟨rfl, rfl⟩
theorem kind_iv11 (r : Int) (h0 : 96 ≤ r) (h1 : r ≤ 96) (w : World) : Calls Try.prog 12 #[.int .i64 r] w fun e w' => e = .returned (.int .i64 0) ∧ w = w' := by
  have g97 : ¬ 97 ≤ r := by omega
  have g65 : 65 ≤ r := by omega
  have l90 : ¬ r ≤ 90 := by omega
  have e95 : (r == 95) = false := by rw [beq_eq_false_iff_ne]; omega
  have g128 : ¬ 128 ≤ r := by omega
  have g48 : 48 ≤ r := by omega
  have l57 : ¬ r ≤ 57 := by omega
  have e9 : (r == 9) = false := by rw [beq_eq_false_iff_ne]; omega
  have e10 : (r == 10) = false := by rw [beq_eq_false_iff_ne]; omega
  have e13 : (r == 13) = false := by rw [beq_eq_false_iff_ne]; omega
  have e32 : (r == 32) = false := by rw [beq_eq_false_iff_ne]; omega
  have e43 : (r == 43) = false := by rw [beq_eq_false_iff_ne]; omega
  have e45 : (r == 45) = false := by rw [beq_eq_false_iff_ne]; omega
  have e42 : (r == 42) = false := by rw [beq_eq_false_iff_ne]; omega
  have e47 : (r == 47) = false := by rw [beq_eq_false_iff_ne]; omega
  have e94 : (r == 94) = false := by rw [beq_eq_false_iff_ne]; omega
  have e40 : (r == 40) = false := by rw [beq_eq_false_iff_ne]; omega
  have e41 : (r == 41) = false := by rw [beq_eq_false_iff_ne]; omega
  have e61 : (r == 61) = false := by rw [beq_eq_false_iff_ne]; omega
  have e59 : (r == 59) = false := by rw [beq_eq_false_iff_ne]; omega
  have e44 : (r == 44) = false := by rw [beq_eq_false_iff_ne]; omega
  go_enter Try.func12, Try.ntmps12
  go_wp2
  go_ret
  exact ⟨rfl, rfl⟩
theorem kind_iv12 (r : Int) (h0 : 97 ≤ r) (h1 : r ≤ 122) (w : World) : Calls Try.prog 12 #[.int .i64 r] w fun e w' => e = .returned (.int .i64 1) ∧ w = w' := by
  have g97 : 97 ≤ r := by omega
  have l122 : r ≤ 122 := by omega
  go_enter Try.func12, Try.ntmps12
  go_wp2
  go_ret
  exact ⟨rfl, rfl⟩
theorem kind_iv13 (r : Int) (h0 : 123 ≤ r) (h1 : r ≤ 127) (w : World) : Calls Try.prog 12 #[.int .i64 r] w fun e w' => e = .returned (.int .i64 0) ∧ w = w' := by
  have g97 : 97 ≤ r := by omega
  have l122 : ¬ r ≤ 122 := by omega
  have g65 : 65 ≤ r := by omega
  have l90 : ¬ r ≤ 90 := by omega
  have e95 : (r == 95) = false := by rw [beq_eq_false_iff_ne]; omega
  have g128 : ¬ 128 ≤ r := by omega
  have g48 : 48 ≤ r := by omega
  have l57 : ¬ r ≤ 57 := by omega
  have e9 : (r == 9) = false := by rw [beq_eq_false_iff_ne]; omega
  have e10 : (r == 10) = false := by rw [beq_eq_false_iff_ne]; omega
  have e13 : (r == 13) = false := by rw [beq_eq_false_iff_ne]; omega
  have e32 : (r == 32) = false := by rw [beq_eq_false_iff_ne]; omega
  have e43 : (r == 43) = false := by rw [beq_eq_false_iff_ne]; omega
  have e45 : (r == 45) = false := by rw [beq_eq_false_iff_ne]; omega
  have e42 : (r == 42) = false := by rw [beq_eq_false_iff_ne]; omega
  have e47 : (r == 47) = false := by rw [beq_eq_false_iff_ne]; omega
  have e94 : (r == 94) = false := by rw [beq_eq_false_iff_ne]; omega
  have e40 : (r == 40) = false := by rw [beq_eq_false_iff_ne]; omega
  have e41 : (r == 41) = false := by rw [beq_eq_false_iff_ne]; omega
  have e61 : (r == 61) = false := by rw [beq_eq_false_iff_ne]; omega
  have e59 : (r == 59) = false := by rw [beq_eq_false_iff_ne]; omega
  have e44 : (r == 44) = false := by rw [beq_eq_false_iff_ne]; omega
  go_enter Try.func12, Try.ntmps12
  go_wp2
  go_ret
  exact ⟨rfl, rfl⟩
theorem kind_iv14 (r : Int) (h0 : 128 ≤ r) (h1 : r ≤ 65532) (w : World) : Calls Try.prog 12 #[.int .i64 r] w fun e w' => e = .returned (.int .i64 1) ∧ w = w' := by
  have g97 : 97 ≤ r := by omega
  have l122 : ¬ r ≤ 122 := by omega
  have g65 : 65 ≤ r := by omega
  have l90 : ¬ r ≤ 90 := by omega
  have e95 : (r == 95) = false := by rw [beq_eq_false_iff_ne]; omega
  have g128 : 128 ≤ r := by omega
  have l1114111 : r ≤ 1114111 := by omega
  have n1 : (r != 65533) = true := by rw [bne_iff_ne]; omega
  go_enter Try.func12, Try.ntmps12
  go_wp2
  go_ret
  exact ⟨rfl, rfl⟩
theorem kind_iv15 (r : Int) (h0 : 65534 ≤ r) (h1 : r ≤ 1114111) (w : World) : Calls Try.prog 12 #[.int .i64 r] w fun e w' => e = .returned (.int .i64 1) ∧ w = w' := by
  have g97 : 97 ≤ r := by omega
  have l122 : ¬ r ≤ 122 := by omega
  have g65 : 65 ≤ r := by omega
  have l90 : ¬ r ≤ 90 := by omega
  have e95 : (r == 95) = false := by rw [beq_eq_false_iff_ne]; omega
  have g128 : 128 ≤ r := by omega
  have l1114111 : r ≤ 1114111 := by omega
  have n1 : (r != 65533) = true := by rw [bne_iff_ne]; omega
  go_enter Try.func12, Try.ntmps12
  go_wp2
  go_ret
  exact ⟨rfl, rfl⟩
theorem kind_iv16 (r : Int) (h0 : 1114112 ≤ r) (w : World) : Calls Try.prog 12 #[.int .i64 r] w fun e w' => e = .returned (.int .i64 0) ∧ w = w' := by
  have g97 : 97 ≤ r := by omega
  have l122 : ¬ r ≤ 122 := by omega
  have g65 : 65 ≤ r := by omega
  have l90 : ¬ r ≤ 90 := by omega
  have e95 : (r == 95) = false := by rw [beq_eq_false_iff_ne]; omega
  have g128 : 128 ≤ r := by omega
  have l1114111 : ¬ r ≤ 1114111 := by omega
  have g48 : 48 ≤ r := by omega
  have l57 : ¬ r ≤ 57 := by omega
  have e9 : (r == 9) = false := by rw [beq_eq_false_iff_ne]; omega
  have e10 : (r == 10) = false := by rw [beq_eq_false_iff_ne]; omega
  have e13 : (r == 13) = false := by rw [beq_eq_false_iff_ne]; omega
  have e32 : (r == 32) = false := by rw [beq_eq_false_iff_ne]; omega
  have e43 : (r == 43) = false := by rw [beq_eq_false_iff_ne]; omega
  have e45 : (r == 45) = false := by rw [beq_eq_false_iff_ne]; omega
  have e42 : (r == 42) = false := by rw [beq_eq_false_iff_ne]; omega
  have e47 : (r == 47) = false := by rw [beq_eq_false_iff_ne]; omega
  have e94 : (r == 94) = false := by rw [beq_eq_false_iff_ne]; omega
  have e40 : (r == 40) = false := by rw [beq_eq_false_iff_ne]; omega
  have e41 : (r == 41) = false := by rw [beq_eq_false_iff_ne]; omega
  have e61 : (r == 61) = false := by rw [beq_eq_false_iff_ne]; omega
  have e59 : (r == 59) = false := by rw [beq_eq_false_iff_ne]; omega
  have e44 : (r == 44) = false := by rw [beq_eq_false_iff_ne]; omega
  go_enter Try.func12, Try.ntmps12
  go_wp2
  go_ret
  exact ⟨rfl, rfl⟩
theorem kind_one9 (w : World) : Calls Try.prog 12 #[.int .i64 9] w fun e w' => e = .returned (.int .i64 3) ∧ w = w' := by
  go_enter Try.func12, Try.ntmps12
  go_wp2
  go_ret
  exact ⟨rfl, rfl⟩
theorem kind_one10 (w : World) : Calls Try.prog 12 #[.int .i64 10] w fun e w' => e = .returned (.int .i64 3) ∧ w = w' := by
  go_enter Try.func12, Try.ntmps12
  go_wp2
  go_ret
  exact ⟨rfl, rfl⟩
theorem kind_one13 (w : World) : Calls Try.prog 12 #[.int .i64 13] w fun e w' => e = .returned (.int .i64 3) ∧ w = w' := by
  go_enter Try.func12, Try.ntmps12
  go_wp2
  go_ret
  exact ⟨rfl, rfl⟩
theorem kind_one32 (w : World) : Calls Try.prog 12 #[.int .i64 32] w fun e w' => e = .returned (.int .i64 3) ∧ w = w' := by
  go_enter Try.func12, Try.ntmps12
  go_wp2
  go_ret
  exact ⟨rfl, rfl⟩
theorem kind_one40 (w : World) : Calls Try.prog 12 #[.int .i64 40] w fun e w' => e = .returned (.int .i64 4) ∧ w = w' := by
  go_enter Try.func12, Try.ntmps12
  go_wp2
  go_ret
  exact ⟨rfl, rfl⟩
theorem kind_one41 (w : World) : Calls Try.prog 12 #[.int .i64 41] w fun e w' => e = .returned (.int .i64 4) ∧ w = w' := by
  go_enter Try.func12, Try.ntmps12
  go_wp2
  go_ret
  exact ⟨rfl, rfl⟩
theorem kind_one42 (w : World) : Calls Try.prog 12 #[.int .i64 42] w fun e w' => e = .returned (.int .i64 4) ∧ w = w' := by
  go_enter Try.func12, Try.ntmps12
  go_wp2
  go_ret
  exact ⟨rfl, rfl⟩
theorem kind_one43 (w : World) : Calls Try.prog 12 #[.int .i64 43] w fun e w' => e = .returned (.int .i64 4) ∧ w = w' := by
  go_enter Try.func12, Try.ntmps12
  go_wp2
  go_ret
  exact ⟨rfl, rfl⟩
theorem kind_one44 (w : World) : Calls Try.prog 12 #[.int .i64 44] w fun e w' => e = .returned (.int .i64 4) ∧ w = w' := by
  go_enter Try.func12, Try.ntmps12
  go_wp2
  go_ret
  exact ⟨rfl, rfl⟩
theorem kind_one45 (w : World) : Calls Try.prog 12 #[.int .i64 45] w fun e w' => e = .returned (.int .i64 4) ∧ w = w' := by
  go_enter Try.func12, Try.ntmps12
  go_wp2
  go_ret
  exact ⟨rfl, rfl⟩
theorem kind_one47 (w : World) : Calls Try.prog 12 #[.int .i64 47] w fun e w' => e = .returned (.int .i64 4) ∧ w = w' := by
  go_enter Try.func12, Try.ntmps12
  go_wp2
  go_ret
  exact ⟨rfl, rfl⟩
theorem kind_one59 (w : World) : Calls Try.prog 12 #[.int .i64 59] w fun e w' => e = .returned (.int .i64 4) ∧ w = w' := by
  go_enter Try.func12, Try.ntmps12
  go_wp2
  go_ret
  exact ⟨rfl, rfl⟩
theorem kind_one61 (w : World) : Calls Try.prog 12 #[.int .i64 61] w fun e w' => e = .returned (.int .i64 4) ∧ w = w' := by
  go_enter Try.func12, Try.ntmps12
  go_wp2
  go_ret
  exact ⟨rfl, rfl⟩
theorem kind_one94 (w : World) : Calls Try.prog 12 #[.int .i64 94] w fun e w' => e = .returned (.int .i64 4) ∧ w = w' := by
  go_enter Try.func12, Try.ntmps12
  go_wp2
  go_ret
  exact ⟨rfl, rfl⟩
theorem kind_one95 (w : World) : Calls Try.prog 12 #[.int .i64 95] w fun e w' => e = .returned (.int .i64 1) ∧ w = w' := by
  go_enter Try.func12, Try.ntmps12
  go_wp2
  go_ret
  exact ⟨rfl, rfl⟩
theorem kind_one65533 (w : World) : Calls Try.prog 12 #[.int .i64 65533] w fun e w' => e = .returned (.int .i64 0) ∧ w = w' := by
  go_enter Try.func12, Try.ntmps12
  go_wp2
  go_ret
  exact ⟨rfl, rfl⟩
theorem kind_ways (r : Int) : (r ≤ 8) ∨ (r = 9) ∨ (r = 10) ∨ (11 ≤ r ∧ r ≤ 12) ∨ (r = 13) ∨ (14 ≤ r ∧ r ≤ 31) ∨ (r = 32) ∨ (33 ≤ r ∧ r ≤ 39) ∨ (r = 40) ∨ (r = 41) ∨ (r = 42) ∨ (r = 43) ∨ (r = 44) ∨ (r = 45) ∨ (46 ≤ r ∧ r ≤ 46) ∨ (r = 47) ∨ (48 ≤ r ∧ r ≤ 57) ∨ (58 ≤ r ∧ r ≤ 58) ∨ (r = 59) ∨ (60 ≤ r ∧ r ≤ 60) ∨ (r = 61) ∨ (62 ≤ r ∧ r ≤ 64) ∨ (65 ≤ r ∧ r ≤ 90) ∨ (91 ≤ r ∧ r ≤ 93) ∨ (r = 94) ∨ (r = 95) ∨ (96 ≤ r ∧ r ≤ 96) ∨ (97 ≤ r ∧ r ≤ 122) ∨ (123 ≤ r ∧ r ≤ 127) ∨ (128 ≤ r ∧ r ≤ 65532) ∨ (r = 65533) ∨ (65534 ≤ r ∧ r ≤ 1114111) ∨ (1114112 ≤ r) := by omega
set_option maxHeartbeats 1000000 in
theorem ref_skind (r : Int) (k : Int) (hk : kindI r = k) (w : World) : Calls Try.prog 12 #[.int .i64 r] w fun e w' => e = .returned (.int .i64 k) ∧ w = w' := by
  subst hk
  rcases kind_ways r with h0 | rfl | rfl | ⟨h0, h1⟩ | rfl | ⟨h0, h1⟩ | rfl | ⟨h0, h1⟩ | rfl | rfl | rfl | rfl | rfl | rfl | ⟨h0, h1⟩ | rfl | ⟨h0, h1⟩ | ⟨h0, h1⟩ | rfl | ⟨h0, h1⟩ | rfl | ⟨h0, h1⟩ | ⟨h0, h1⟩ | ⟨h0, h1⟩ | rfl | rfl | ⟨h0, h1⟩ | ⟨h0, h1⟩ | ⟨h0, h1⟩ | ⟨h0, h1⟩ | rfl | ⟨h0, h1⟩ | h0
  · rw [show kindI r = 0 from by unfold kindI; (repeat' split) <;> omega]; exact kind_iv0 r h0 w
  · rw [show kindI 9 = 3 from by decide]; exact kind_one9 w
  · rw [show kindI 10 = 3 from by decide]; exact kind_one10 w
  · rw [show kindI r = 0 from by unfold kindI; (repeat' split) <;> omega]; exact kind_iv1 r h0 h1 w
  · rw [show kindI 13 = 3 from by decide]; exact kind_one13 w
  · rw [show kindI r = 0 from by unfold kindI; (repeat' split) <;> omega]; exact kind_iv2 r h0 h1 w
  · rw [show kindI 32 = 3 from by decide]; exact kind_one32 w
  · rw [show kindI r = 0 from by unfold kindI; (repeat' split) <;> omega]; exact kind_iv3 r h0 h1 w
  · rw [show kindI 40 = 4 from by decide]; exact kind_one40 w
  · rw [show kindI 41 = 4 from by decide]; exact kind_one41 w
  · rw [show kindI 42 = 4 from by decide]; exact kind_one42 w
  · rw [show kindI 43 = 4 from by decide]; exact kind_one43 w
  · rw [show kindI 44 = 4 from by decide]; exact kind_one44 w
  · rw [show kindI 45 = 4 from by decide]; exact kind_one45 w
  · rw [show kindI r = 0 from by unfold kindI; (repeat' split) <;> omega]; exact kind_iv4 r h0 h1 w
  · rw [show kindI 47 = 4 from by decide]; exact kind_one47 w
  · rw [show kindI r = 2 from by unfold kindI; (repeat' split) <;> omega]; exact kind_iv5 r h0 h1 w
  · rw [show kindI r = 0 from by unfold kindI; (repeat' split) <;> omega]; exact kind_iv6 r h0 h1 w
  · rw [show kindI 59 = 4 from by decide]; exact kind_one59 w
  · rw [show kindI r = 0 from by unfold kindI; (repeat' split) <;> omega]; exact kind_iv7 r h0 h1 w
  · rw [show kindI 61 = 4 from by decide]; exact kind_one61 w
  · rw [show kindI r = 0 from by unfold kindI; (repeat' split) <;> omega]; exact kind_iv8 r h0 h1 w
  · rw [show kindI r = 1 from by unfold kindI; (repeat' split) <;> omega]; exact kind_iv9 r h0 h1 w
  · rw [show kindI r = 0 from by unfold kindI; (repeat' split) <;> omega]; exact kind_iv10 r h0 h1 w
  · rw [show kindI 94 = 4 from by decide]; exact kind_one94 w
  · rw [show kindI 95 = 1 from by decide]; exact kind_one95 w
  · rw [show kindI r = 0 from by unfold kindI; (repeat' split) <;> omega]; exact kind_iv11 r h0 h1 w
  · rw [show kindI r = 1 from by unfold kindI; (repeat' split) <;> omega]; exact kind_iv12 r h0 h1 w
  · rw [show kindI r = 0 from by unfold kindI; (repeat' split) <;> omega]; exact kind_iv13 r h0 h1 w
  · rw [show kindI r = 1 from by unfold kindI; (repeat' split) <;> omega]; exact kind_iv14 r h0 h1 w
  · rw [show kindI 65533 = 0 from by decide]; exact kind_one65533 w
  · rw [show kindI r = 1 from by unfold kindI; (repeat' split) <;> omega]; exact kind_iv15 r h0 h1 w
  · rw [show kindI r = 0 from by unfold kindI; (repeat' split) <;> omega]; exact kind_iv16 r h0 w
end Go.Proofs.Ytnmohojmoienbaa
