/-
  Texts of mine in build order. No conditions of their own.
-/
import Derived.Test.YtaeladkcmpdkhaaGreatDoorPack5
import Derived.Test.YtaeladkcmpdkhaaGreatDoorPack30
import Derived.Test.YtaeladkcmpdkhaaGreatDoorPack41
set_option maxHeartbeats 4000000
namespace Go.Proofs.YtaeladkcmpdkhaaGreatDoor
section
open Go.RowKit Go.Lib
theorem kind_iv0 (r : Int) (h1 : r ≤ 8) (w : World) : Calls Tryz.prog 47 #[.int .i64 r] w fun e w' => e = .returned (.int .i64 0) ∧ w = w' := by
 have g97 : ¬ 97 ≤ r := by omega
 have g65 : ¬ 65 ≤ r := by omega
 have e95 : (r == 95) = false := by rw [beq_eq_false_iff_ne]; omega
 have g128 : ¬ 128 ≤ r := by omega
 have g48 : ¬ 48 ≤ r := by omega
 have e9 : (r == 9) = false := by rw [beq_eq_false_iff_ne]; omega
 have e10 : (r == 10) = false := by rw [beq_eq_false_iff_ne]; omega
 have e13 : (r == 13) = false := by rw [beq_eq_false_iff_ne]; omega
 have e32 : (r == 32) = false := by rw [beq_eq_false_iff_ne]; omega
 have e43 : (r == 43) = false := by rw [beq_eq_false_iff_ne]; omega
 have e45 : (r == 45) = false := by rw [beq_eq_false_iff_ne]; omega
 have e42 : (r == 42) = false := by rw [beq_eq_false_iff_ne]; omega
 have e47 : (r == 47) = false := by rw [beq_eq_false_iff_ne]; omega
 have e94 : (r == 94) = false := by rw [beq_eq_false_iff_ne]; omega
 have e40 : (r == 40) = false := by rw [beq_eq_false_iff_ne]; omega
 have e41 : (r == 41) = false := by rw [beq_eq_false_iff_ne]; omega
 have e61 : (r == 61) = false := by rw [beq_eq_false_iff_ne]; omega
 have e59 : (r == 59) = false := by rw [beq_eq_false_iff_ne]; omega
 have e44 : (r == 44) = false := by rw [beq_eq_false_iff_ne]; omega
 go_enter Tryz.func47, Tryz.ntmps47
 go_wp2
 go_ret
 exact ⟨rfl, rfl⟩
theorem kind_iv1 (r : Int) (h0 : 11 ≤ r) (h1 : r ≤ 12) (w : World) : Calls Tryz.prog 47 #[.int .i64 r] w fun e w' => e = .returned (.int .i64 0) ∧ w = w' := by
 have g97 : ¬ 97 ≤ r := by omega
 have g65 : ¬ 65 ≤ r := by omega
 have e95 : (r == 95) = false := by rw [beq_eq_false_iff_ne]; omega
 have g128 : ¬ 128 ≤ r := by omega
 have g48 : ¬ 48 ≤ r := by omega
 have e9 : (r == 9) = false := by rw [beq_eq_false_iff_ne]; omega
 have e10 : (r == 10) = false := by rw [beq_eq_false_iff_ne]; omega
 have e13 : (r == 13) = false := by rw [beq_eq_false_iff_ne]; omega
 have e32 : (r == 32) = false := by rw [beq_eq_false_iff_ne]; omega
 have e43 : (r == 43) = false := by rw [beq_eq_false_iff_ne]; omega
 have e45 : (r == 45) = false := by rw [beq_eq_false_iff_ne]; omega
 have e42 : (r == 42) = false := by rw [beq_eq_false_iff_ne]; omega
 have e47 : (r == 47) = false := by rw [beq_eq_false_iff_ne]; omega
 have e94 : (r == 94) = false := by rw [beq_eq_false_iff_ne]; omega
 have e40 : (r == 40) = false := by rw [beq_eq_false_iff_ne]; omega
 have e41 : (r == 41) = false := by rw [beq_eq_false_iff_ne]; omega
 have e61 : (r == 61) = false := by rw [beq_eq_false_iff_ne]; omega
 have e59 : (r == 59) = false := by rw [beq_eq_false_iff_ne]; omega
 have e44 : (r == 44) = false := by rw [beq_eq_false_iff_ne]; omega
 go_enter Tryz.func47, Tryz.ntmps47
 go_wp2
 go_ret
 exact ⟨rfl, rfl⟩
theorem kind_iv2 (r : Int) (h0 : 14 ≤ r) (h1 : r ≤ 31) (w : World) : Calls Tryz.prog 47 #[.int .i64 r] w fun e w' => e = .returned (.int .i64 0) ∧ w = w' := by
 have g97 : ¬ 97 ≤ r := by omega
 have g65 : ¬ 65 ≤ r := by omega
 have e95 : (r == 95) = false := by rw [beq_eq_false_iff_ne]; omega
 have g128 : ¬ 128 ≤ r := by omega
 have g48 : ¬ 48 ≤ r := by omega
 have e9 : (r == 9) = false := by rw [beq_eq_false_iff_ne]; omega
 have e10 : (r == 10) = false := by rw [beq_eq_false_iff_ne]; omega
 have e13 : (r == 13) = false := by rw [beq_eq_false_iff_ne]; omega
 have e32 : (r == 32) = false := by rw [beq_eq_false_iff_ne]; omega
 have e43 : (r == 43) = false := by rw [beq_eq_false_iff_ne]; omega
 have e45 : (r == 45) = false := by rw [beq_eq_false_iff_ne]; omega
 have e42 : (r == 42) = false := by rw [beq_eq_false_iff_ne]; omega
 have e47 : (r == 47) = false := by rw [beq_eq_false_iff_ne]; omega
 have e94 : (r == 94) = false := by rw [beq_eq_false_iff_ne]; omega
 have e40 : (r == 40) = false := by rw [beq_eq_false_iff_ne]; omega
 have e41 : (r == 41) = false := by rw [beq_eq_false_iff_ne]; omega
 have e61 : (r == 61) = false := by rw [beq_eq_false_iff_ne]; omega
 have e59 : (r == 59) = false := by rw [beq_eq_false_iff_ne]; omega
 have e44 : (r == 44) = false := by rw [beq_eq_false_iff_ne]; omega
 go_enter Tryz.func47, Tryz.ntmps47
 go_wp2
 go_ret
 exact ⟨rfl, rfl⟩
theorem kind_iv3 (r : Int) (h0 : 33 ≤ r) (h1 : r ≤ 39) (w : World) : Calls Tryz.prog 47 #[.int .i64 r] w fun e w' => e = .returned (.int .i64 0) ∧ w = w' := by
 have g97 : ¬ 97 ≤ r := by omega
 have g65 : ¬ 65 ≤ r := by omega
 have e95 : (r == 95) = false := by rw [beq_eq_false_iff_ne]; omega
 have g128 : ¬ 128 ≤ r := by omega
 have g48 : ¬ 48 ≤ r := by omega
 have e9 : (r == 9) = false := by rw [beq_eq_false_iff_ne]; omega
 have e10 : (r == 10) = false := by rw [beq_eq_false_iff_ne]; omega
 have e13 : (r == 13) = false := by rw [beq_eq_false_iff_ne]; omega
 have e32 : (r == 32) = false := by rw [beq_eq_false_iff_ne]; omega
 have e43 : (r == 43) = false := by rw [beq_eq_false_iff_ne]; omega
 have e45 : (r == 45) = false := by rw [beq_eq_false_iff_ne]; omega
 have e42 : (r == 42) = false := by rw [beq_eq_false_iff_ne]; omega
 have e47 : (r == 47) = false := by rw [beq_eq_false_iff_ne]; omega
 have e94 : (r == 94) = false := by rw [beq_eq_false_iff_ne]; omega
 have e40 : (r == 40) = false := by rw [beq_eq_false_iff_ne]; omega
 have e41 : (r == 41) = false := by rw [beq_eq_false_iff_ne]; omega
 have e61 : (r == 61) = false := by rw [beq_eq_false_iff_ne]; omega
 have e59 : (r == 59) = false := by rw [beq_eq_false_iff_ne]; omega
 have e44 : (r == 44) = false := by rw [beq_eq_false_iff_ne]; omega
 go_enter Tryz.func47, Tryz.ntmps47
 go_wp2
 go_ret
 exact ⟨rfl, rfl⟩
theorem kind_iv4 (r : Int) (h0 : 46 ≤ r) (h1 : r ≤ 46) (w : World) : Calls Tryz.prog 47 #[.int .i64 r] w fun e w' => e = .returned (.int .i64 0) ∧ w = w' := by
 have g97 : ¬ 97 ≤ r := by omega
 have g65 : ¬ 65 ≤ r := by omega
 have e95 : (r == 95) = false := by rw [beq_eq_false_iff_ne]; omega
 have g128 : ¬ 128 ≤ r := by omega
 have g48 : ¬ 48 ≤ r := by omega
 have e9 : (r == 9) = false := by rw [beq_eq_false_iff_ne]; omega
 have e10 : (r == 10) = false := by rw [beq_eq_false_iff_ne]; omega
 have e13 : (r == 13) = false := by rw [beq_eq_false_iff_ne]; omega
 have e32 : (r == 32) = false := by rw [beq_eq_false_iff_ne]; omega
 have e43 : (r == 43) = false := by rw [beq_eq_false_iff_ne]; omega
 have e45 : (r == 45) = false := by rw [beq_eq_false_iff_ne]; omega
 have e42 : (r == 42) = false := by rw [beq_eq_false_iff_ne]; omega
 have e47 : (r == 47) = false := by rw [beq_eq_false_iff_ne]; omega
 have e94 : (r == 94) = false := by rw [beq_eq_false_iff_ne]; omega
 have e40 : (r == 40) = false := by rw [beq_eq_false_iff_ne]; omega
 have e41 : (r == 41) = false := by rw [beq_eq_false_iff_ne]; omega
 have e61 : (r == 61) = false := by rw [beq_eq_false_iff_ne]; omega
 have e59 : (r == 59) = false := by rw [beq_eq_false_iff_ne]; omega
 have e44 : (r == 44) = false := by rw [beq_eq_false_iff_ne]; omega
 go_enter Tryz.func47, Tryz.ntmps47
 go_wp2
 go_ret
 exact ⟨rfl, rfl⟩
theorem kind_iv5 (r : Int) (h0 : 48 ≤ r) (h1 : r ≤ 57) (w : World) : Calls Tryz.prog 47 #[.int .i64 r] w fun e w' => e = .returned (.int .i64 2) ∧ w = w' := by
 have g97 : ¬ 97 ≤ r := by omega
 have g65 : ¬ 65 ≤ r := by omega
 have e95 : (r == 95) = false := by rw [beq_eq_false_iff_ne]; omega
 have g128 : ¬ 128 ≤ r := by omega
 have g48 : 48 ≤ r := by omega
 have l57 : r ≤ 57 := by omega
 go_enter Tryz.func47, Tryz.ntmps47
 go_wp2
 go_ret
 exact ⟨rfl, rfl⟩
theorem kind_iv6 (r : Int) (h0 : 58 ≤ r) (h1 : r ≤ 58) (w : World) : Calls Tryz.prog 47 #[.int .i64 r] w fun e w' => e = .returned (.int .i64 0) ∧ w = w' := by
 have g97 : ¬ 97 ≤ r := by omega
 have g65 : ¬ 65 ≤ r := by omega
 have e95 : (r == 95) = false := by rw [beq_eq_false_iff_ne]; omega
 have g128 : ¬ 128 ≤ r := by omega
 have g48 : 48 ≤ r := by omega
 have l57 : ¬ r ≤ 57 := by omega
 have e9 : (r == 9) = false := by rw [beq_eq_false_iff_ne]; omega
 have e10 : (r == 10) = false := by rw [beq_eq_false_iff_ne]; omega
 have e13 : (r == 13) = false := by rw [beq_eq_false_iff_ne]; omega
 have e32 : (r == 32) = false := by rw [beq_eq_false_iff_ne]; omega
 have e43 : (r == 43) = false := by rw [beq_eq_false_iff_ne]; omega
 have e45 : (r == 45) = false := by rw [beq_eq_false_iff_ne]; omega
 have e42 : (r == 42) = false := by rw [beq_eq_false_iff_ne]; omega
 have e47 : (r == 47) = false := by rw [beq_eq_false_iff_ne]; omega
 have e94 : (r == 94) = false := by rw [beq_eq_false_iff_ne]; omega
 have e40 : (r == 40) = false := by rw [beq_eq_false_iff_ne]; omega
 have e41 : (r == 41) = false := by rw [beq_eq_false_iff_ne]; omega
 have e61 : (r == 61) = false := by rw [beq_eq_false_iff_ne]; omega
 have e59 : (r == 59) = false := by rw [beq_eq_false_iff_ne]; omega
 have e44 : (r == 44) = false := by rw [beq_eq_false_iff_ne]; omega
 go_enter Tryz.func47, Tryz.ntmps47
 go_wp2
 go_ret
 exact ⟨rfl, rfl⟩
theorem kind_iv7 (r : Int) (h0 : 60 ≤ r) (h1 : r ≤ 60) (w : World) : Calls Tryz.prog 47 #[.int .i64 r] w fun e w' => e = .returned (.int .i64 0) ∧ w = w' := by
 have g97 : ¬ 97 ≤ r := by omega
 have g65 : ¬ 65 ≤ r := by omega
 have e95 : (r == 95) = false := by rw [beq_eq_false_iff_ne]; omega
 have g128 : ¬ 128 ≤ r := by omega
 have g48 : 48 ≤ r := by omega
 have l57 : ¬ r ≤ 57 := by omega
 have e9 : (r == 9) = false := by rw [beq_eq_false_iff_ne]; omega
 have e10 : (r == 10) = false := by rw [beq_eq_false_iff_ne]; omega
 have e13 : (r == 13) = false := by rw [beq_eq_false_iff_ne]; omega
 have e32 : (r == 32) = false := by rw [beq_eq_false_iff_ne]; omega
 have e43 : (r == 43) = false := by rw [beq_eq_false_iff_ne]; omega
 have e45 : (r == 45) = false := by rw [beq_eq_false_iff_ne]; omega
 have e42 : (r == 42) = false := by rw [beq_eq_false_iff_ne]; omega
 have e47 : (r == 47) = false := by rw [beq_eq_false_iff_ne]; omega
 have e94 : (r == 94) = false := by rw [beq_eq_false_iff_ne]; omega
 have e40 : (r == 40) = false := by rw [beq_eq_false_iff_ne]; omega
 have e41 : (r == 41) = false := by rw [beq_eq_false_iff_ne]; omega
 have e61 : (r == 61) = false := by rw [beq_eq_false_iff_ne]; omega
 have e59 : (r == 59) = false := by rw [beq_eq_false_iff_ne]; omega
 have e44 : (r == 44) = false := by rw [beq_eq_false_iff_ne]; omega
 go_enter Tryz.func47, Tryz.ntmps47
 go_wp2
 go_ret
 exact ⟨rfl, rfl⟩
theorem kind_iv8 (r : Int) (h0 : 62 ≤ r) (h1 : r ≤ 64) (w : World) : Calls Tryz.prog 47 #[.int .i64 r] w fun e w' => e = .returned (.int .i64 0) ∧ w = w' := by
 have g97 : ¬ 97 ≤ r := by omega
 have g65 : ¬ 65 ≤ r := by omega
 have e95 : (r == 95) = false := by rw [beq_eq_false_iff_ne]; omega
 have g128 : ¬ 128 ≤ r := by omega
 have g48 : 48 ≤ r := by omega
 have l57 : ¬ r ≤ 57 := by omega
 have e9 : (r == 9) = false := by rw [beq_eq_false_iff_ne]; omega
 have e10 : (r == 10) = false := by rw [beq_eq_false_iff_ne]; omega
 have e13 : (r == 13) = false := by rw [beq_eq_false_iff_ne]; omega
 have e32 : (r == 32) = false := by rw [beq_eq_false_iff_ne]; omega
 have e43 : (r == 43) = false := by rw [beq_eq_false_iff_ne]; omega
 have e45 : (r == 45) = false := by rw [beq_eq_false_iff_ne]; omega
 have e42 : (r == 42) = false := by rw [beq_eq_false_iff_ne]; omega
 have e47 : (r == 47) = false := by rw [beq_eq_false_iff_ne]; omega
 have e94 : (r == 94) = false := by rw [beq_eq_false_iff_ne]; omega
 have e40 : (r == 40) = false := by rw [beq_eq_false_iff_ne]; omega
 have e41 : (r == 41) = false := by rw [beq_eq_false_iff_ne]; omega
 have e61 : (r == 61) = false := by rw [beq_eq_false_iff_ne]; omega
 have e59 : (r == 59) = false := by rw [beq_eq_false_iff_ne]; omega
 have e44 : (r == 44) = false := by rw [beq_eq_false_iff_ne]; omega
 go_enter Tryz.func47, Tryz.ntmps47
 go_wp2
 go_ret
 exact ⟨rfl, rfl⟩
theorem kind_iv9 (r : Int) (h0 : 65 ≤ r) (h1 : r ≤ 90) (w : World) : Calls Tryz.prog 47 #[.int .i64 r] w fun e w' => e = .returned (.int .i64 1) ∧ w = w' := by
 have g97 : ¬ 97 ≤ r := by omega
 have g65 : 65 ≤ r := by omega
 have l90 : r ≤ 90 := by omega
 go_enter Tryz.func47, Tryz.ntmps47
 go_wp2
 go_ret
 exact ⟨rfl, rfl⟩
theorem kind_iv10 (r : Int) (h0 : 91 ≤ r) (h1 : r ≤ 93) (w : World) : Calls Tryz.prog 47 #[.int .i64 r] w fun e w' => e = .returned (.int .i64 0) ∧ w = w' := by
 have g97 : ¬ 97 ≤ r := by omega
 have g65 : 65 ≤ r := by omega
 have l90 : ¬ r ≤ 90 := by omega
 have e95 : (r == 95) = false := by rw [beq_eq_false_iff_ne]; omega
 have g128 : ¬ 128 ≤ r := by omega
 have g48 : 48 ≤ r := by omega
 have l57 : ¬ r ≤ 57 := by omega
 have e9 : (r == 9) = false := by rw [beq_eq_false_iff_ne]; omega
 have e10 : (r == 10) = false := by rw [beq_eq_false_iff_ne]; omega
 have e13 : (r == 13) = false := by rw [beq_eq_false_iff_ne]; omega
 have e32 : (r == 32) = false := by rw [beq_eq_false_iff_ne]; omega
 have e43 : (r == 43) = false := by rw [beq_eq_false_iff_ne]; omega
 have e45 : (r == 45) = false := by rw [beq_eq_false_iff_ne]; omega
 have e42 : (r == 42) = false := by rw [beq_eq_false_iff_ne]; omega
 have e47 : (r == 47) = false := by rw [beq_eq_false_iff_ne]; omega
 have e94 : (r == 94) = false := by rw [beq_eq_false_iff_ne]; omega
 have e40 : (r == 40) = false := by rw [beq_eq_false_iff_ne]; omega
 have e41 : (r == 41) = false := by rw [beq_eq_false_iff_ne]; omega
 have e61 : (r == 61) = false := by rw [beq_eq_false_iff_ne]; omega
 have e59 : (r == 59) = false := by rw [beq_eq_false_iff_ne]; omega
 have e44 : (r == 44) = false := by rw [beq_eq_false_iff_ne]; omega
 go_enter Tryz.func47, Tryz.ntmps47
 go_wp2
 go_ret
 exact ⟨rfl, rfl⟩
theorem kind_iv11 (r : Int) (h0 : 96 ≤ r) (h1 : r ≤ 96) (w : World) : Calls Tryz.prog 47 #[.int .i64 r] w fun e w' => e = .returned (.int .i64 0) ∧ w = w' := by
 have g97 : ¬ 97 ≤ r := by omega
 have g65 : 65 ≤ r := by omega
 have l90 : ¬ r ≤ 90 := by omega
 have e95 : (r == 95) = false := by rw [beq_eq_false_iff_ne]; omega
 have g128 : ¬ 128 ≤ r := by omega
 have g48 : 48 ≤ r := by omega
 have l57 : ¬ r ≤ 57 := by omega
 have e9 : (r == 9) = false := by rw [beq_eq_false_iff_ne]; omega
 have e10 : (r == 10) = false := by rw [beq_eq_false_iff_ne]; omega
 have e13 : (r == 13) = false := by rw [beq_eq_false_iff_ne]; omega
 have e32 : (r == 32) = false := by rw [beq_eq_false_iff_ne]; omega
 have e43 : (r == 43) = false := by rw [beq_eq_false_iff_ne]; omega
 have e45 : (r == 45) = false := by rw [beq_eq_false_iff_ne]; omega
 have e42 : (r == 42) = false := by rw [beq_eq_false_iff_ne]; omega
 have e47 : (r == 47) = false := by rw [beq_eq_false_iff_ne]; omega
 have e94 : (r == 94) = false := by rw [beq_eq_false_iff_ne]; omega
 have e40 : (r == 40) = false := by rw [beq_eq_false_iff_ne]; omega
 have e41 : (r == 41) = false := by rw [beq_eq_false_iff_ne]; omega
 have e61 : (r == 61) = false := by rw [beq_eq_false_iff_ne]; omega
 have e59 : (r == 59) = false := by rw [beq_eq_false_iff_ne]; omega
 have e44 : (r == 44) = false := by rw [beq_eq_false_iff_ne]; omega
 go_enter Tryz.func47, Tryz.ntmps47
 go_wp2
 go_ret
 exact ⟨rfl, rfl⟩
theorem kind_iv12 (r : Int) (h0 : 97 ≤ r) (h1 : r ≤ 122) (w : World) : Calls Tryz.prog 47 #[.int .i64 r] w fun e w' => e = .returned (.int .i64 1) ∧ w = w' := by
 have g97 : 97 ≤ r := by omega
 have l122 : r ≤ 122 := by omega
 go_enter Tryz.func47, Tryz.ntmps47
 go_wp2
 go_ret
 exact ⟨rfl, rfl⟩
theorem kind_iv13 (r : Int) (h0 : 123 ≤ r) (h1 : r ≤ 127) (w : World) : Calls Tryz.prog 47 #[.int .i64 r] w fun e w' => e = .returned (.int .i64 0) ∧ w = w' := by
 have g97 : 97 ≤ r := by omega
 have l122 : ¬ r ≤ 122 := by omega
 have g65 : 65 ≤ r := by omega
 have l90 : ¬ r ≤ 90 := by omega
 have e95 : (r == 95) = false := by rw [beq_eq_false_iff_ne]; omega
 have g128 : ¬ 128 ≤ r := by omega
 have g48 : 48 ≤ r := by omega
 have l57 : ¬ r ≤ 57 := by omega
 have e9 : (r == 9) = false := by rw [beq_eq_false_iff_ne]; omega
 have e10 : (r == 10) = false := by rw [beq_eq_false_iff_ne]; omega
 have e13 : (r == 13) = false := by rw [beq_eq_false_iff_ne]; omega
 have e32 : (r == 32) = false := by rw [beq_eq_false_iff_ne]; omega
 have e43 : (r == 43) = false := by rw [beq_eq_false_iff_ne]; omega
 have e45 : (r == 45) = false := by rw [beq_eq_false_iff_ne]; omega
 have e42 : (r == 42) = false := by rw [beq_eq_false_iff_ne]; omega
 have e47 : (r == 47) = false := by rw [beq_eq_false_iff_ne]; omega
 have e94 : (r == 94) = false := by rw [beq_eq_false_iff_ne]; omega
 have e40 : (r == 40) = false := by rw [beq_eq_false_iff_ne]; omega
 have e41 : (r == 41) = false := by rw [beq_eq_false_iff_ne]; omega
 have e61 : (r == 61) = false := by rw [beq_eq_false_iff_ne]; omega
 have e59 : (r == 59) = false := by rw [beq_eq_false_iff_ne]; omega
 have e44 : (r == 44) = false := by rw [beq_eq_false_iff_ne]; omega
 go_enter Tryz.func47, Tryz.ntmps47
 go_wp2
 go_ret
 exact ⟨rfl, rfl⟩
theorem kind_iv14 (r : Int) (h0 : 128 ≤ r) (h1 : r ≤ 65532) (w : World) : Calls Tryz.prog 47 #[.int .i64 r] w fun e w' => e = .returned (.int .i64 1) ∧ w = w' := by
 have g97 : 97 ≤ r := by omega
 have l122 : ¬ r ≤ 122 := by omega
 have g65 : 65 ≤ r := by omega
 have l90 : ¬ r ≤ 90 := by omega
 have e95 : (r == 95) = false := by rw [beq_eq_false_iff_ne]; omega
 have g128 : 128 ≤ r := by omega
 have l1114111 : r ≤ 1114111 := by omega
 have n1 : (r != 65533) = true := by rw [bne_iff_ne]; omega
 go_enter Tryz.func47, Tryz.ntmps47
 go_wp2
 go_ret
 exact ⟨rfl, rfl⟩
theorem kind_iv15 (r : Int) (h0 : 65534 ≤ r) (h1 : r ≤ 1114111) (w : World) : Calls Tryz.prog 47 #[.int .i64 r] w fun e w' => e = .returned (.int .i64 1) ∧ w = w' := by
 have g97 : 97 ≤ r := by omega
 have l122 : ¬ r ≤ 122 := by omega
 have g65 : 65 ≤ r := by omega
 have l90 : ¬ r ≤ 90 := by omega
 have e95 : (r == 95) = false := by rw [beq_eq_false_iff_ne]; omega
 have g128 : 128 ≤ r := by omega
 have l1114111 : r ≤ 1114111 := by omega
 have n1 : (r != 65533) = true := by rw [bne_iff_ne]; omega
 go_enter Tryz.func47, Tryz.ntmps47
 go_wp2
 go_ret
 exact ⟨rfl, rfl⟩
theorem kind_iv16 (r : Int) (h0 : 1114112 ≤ r) (w : World) : Calls Tryz.prog 47 #[.int .i64 r] w fun e w' => e = .returned (.int .i64 0) ∧ w = w' := by
 have g97 : 97 ≤ r := by omega
 have l122 : ¬ r ≤ 122 := by omega
 have g65 : 65 ≤ r := by omega
 have l90 : ¬ r ≤ 90 := by omega
 have e95 : (r == 95) = false := by rw [beq_eq_false_iff_ne]; omega
 have g128 : 128 ≤ r := by omega
 have l1114111 : ¬ r ≤ 1114111 := by omega
 have g48 : 48 ≤ r := by omega
 have l57 : ¬ r ≤ 57 := by omega
 have e9 : (r == 9) = false := by rw [beq_eq_false_iff_ne]; omega
 have e10 : (r == 10) = false := by rw [beq_eq_false_iff_ne]; omega
 have e13 : (r == 13) = false := by rw [beq_eq_false_iff_ne]; omega
 have e32 : (r == 32) = false := by rw [beq_eq_false_iff_ne]; omega
 have e43 : (r == 43) = false := by rw [beq_eq_false_iff_ne]; omega
 have e45 : (r == 45) = false := by rw [beq_eq_false_iff_ne]; omega
 have e42 : (r == 42) = false := by rw [beq_eq_false_iff_ne]; omega
 have e47 : (r == 47) = false := by rw [beq_eq_false_iff_ne]; omega
 have e94 : (r == 94) = false := by rw [beq_eq_false_iff_ne]; omega
 have e40 : (r == 40) = false := by rw [beq_eq_false_iff_ne]; omega
 have e41 : (r == 41) = false := by rw [beq_eq_false_iff_ne]; omega
 have e61 : (r == 61) = false := by rw [beq_eq_false_iff_ne]; omega
 have e59 : (r == 59) = false := by rw [beq_eq_false_iff_ne]; omega
 have e44 : (r == 44) = false := by rw [beq_eq_false_iff_ne]; omega
 go_enter Tryz.func47, Tryz.ntmps47
 go_wp2
 go_ret
 exact ⟨rfl, rfl⟩
theorem kind_one9 (w : World) : Calls Tryz.prog 47 #[.int .i64 9] w fun e w' => e = .returned (.int .i64 3) ∧ w = w' := by
 go_enter Tryz.func47, Tryz.ntmps47
 go_wp2
 go_ret
 exact ⟨rfl, rfl⟩
theorem kind_one10 (w : World) : Calls Tryz.prog 47 #[.int .i64 10] w fun e w' => e = .returned (.int .i64 3) ∧ w = w' := by
 go_enter Tryz.func47, Tryz.ntmps47
 go_wp2
 go_ret
 exact ⟨rfl, rfl⟩
theorem kind_one13 (w : World) : Calls Tryz.prog 47 #[.int .i64 13] w fun e w' => e = .returned (.int .i64 3) ∧ w = w' := by
 go_enter Tryz.func47, Tryz.ntmps47
 go_wp2
 go_ret
 exact ⟨rfl, rfl⟩
theorem kind_one32 (w : World) : Calls Tryz.prog 47 #[.int .i64 32] w fun e w' => e = .returned (.int .i64 3) ∧ w = w' := by
 go_enter Tryz.func47, Tryz.ntmps47
 go_wp2
 go_ret
 exact ⟨rfl, rfl⟩
theorem kind_one40 (w : World) : Calls Tryz.prog 47 #[.int .i64 40] w fun e w' => e = .returned (.int .i64 4) ∧ w = w' := by
 go_enter Tryz.func47, Tryz.ntmps47
 go_wp2
 go_ret
 exact ⟨rfl, rfl⟩
theorem kind_one41 (w : World) : Calls Tryz.prog 47 #[.int .i64 41] w fun e w' => e = .returned (.int .i64 4) ∧ w = w' := by
 go_enter Tryz.func47, Tryz.ntmps47
 go_wp2
 go_ret
 exact ⟨rfl, rfl⟩
theorem kind_one42 (w : World) : Calls Tryz.prog 47 #[.int .i64 42] w fun e w' => e = .returned (.int .i64 4) ∧ w = w' := by
 go_enter Tryz.func47, Tryz.ntmps47
 go_wp2
 go_ret
 exact ⟨rfl, rfl⟩
theorem kind_one43 (w : World) : Calls Tryz.prog 47 #[.int .i64 43] w fun e w' => e = .returned (.int .i64 4) ∧ w = w' := by
 go_enter Tryz.func47, Tryz.ntmps47
 go_wp2
 go_ret
 exact ⟨rfl, rfl⟩
theorem kind_one44 (w : World) : Calls Tryz.prog 47 #[.int .i64 44] w fun e w' => e = .returned (.int .i64 4) ∧ w = w' := by
 go_enter Tryz.func47, Tryz.ntmps47
 go_wp2
 go_ret
 exact ⟨rfl, rfl⟩
theorem kind_one45 (w : World) : Calls Tryz.prog 47 #[.int .i64 45] w fun e w' => e = .returned (.int .i64 4) ∧ w = w' := by
 go_enter Tryz.func47, Tryz.ntmps47
 go_wp2
 go_ret
 exact ⟨rfl, rfl⟩
theorem kind_one47 (w : World) : Calls Tryz.prog 47 #[.int .i64 47] w fun e w' => e = .returned (.int .i64 4) ∧ w = w' := by
 go_enter Tryz.func47, Tryz.ntmps47
 go_wp2
 go_ret
 exact ⟨rfl, rfl⟩
theorem kind_one59 (w : World) : Calls Tryz.prog 47 #[.int .i64 59] w fun e w' => e = .returned (.int .i64 4) ∧ w = w' := by
 go_enter Tryz.func47, Tryz.ntmps47
 go_wp2
 go_ret
 exact ⟨rfl, rfl⟩
theorem kind_one61 (w : World) : Calls Tryz.prog 47 #[.int .i64 61] w fun e w' => e = .returned (.int .i64 4) ∧ w = w' := by
 go_enter Tryz.func47, Tryz.ntmps47
 go_wp2
 go_ret
 exact ⟨rfl, rfl⟩
theorem kind_one94 (w : World) : Calls Tryz.prog 47 #[.int .i64 94] w fun e w' => e = .returned (.int .i64 4) ∧ w = w' := by
 go_enter Tryz.func47, Tryz.ntmps47
 go_wp2
 go_ret
 exact ⟨rfl, rfl⟩
theorem kind_one95 (w : World) : Calls Tryz.prog 47 #[.int .i64 95] w fun e w' => e = .returned (.int .i64 1) ∧ w = w' := by
 go_enter Tryz.func47, Tryz.ntmps47
 go_wp2
 go_ret
 exact ⟨rfl, rfl⟩
theorem kind_one65533 (w : World) : Calls Tryz.prog 47 #[.int .i64 65533] w fun e w' => e = .returned (.int .i64 0) ∧ w = w' := by
 go_enter Tryz.func47, Tryz.ntmps47
 go_wp2
 go_ret
 exact ⟨rfl, rfl⟩
theorem kind_ways (r : Int) : (r ≤ 8) ∨ (r = 9) ∨ (r = 10) ∨ (11 ≤ r ∧ r ≤ 12) ∨ (r = 13) ∨ (14 ≤ r ∧ r ≤ 31) ∨ (r = 32) ∨ (33 ≤ r ∧ r ≤ 39) ∨ (r = 40) ∨ (r = 41) ∨ (r = 42) ∨ (r = 43) ∨ (r = 44) ∨ (r = 45) ∨ (46 ≤ r ∧ r ≤ 46) ∨ (r = 47) ∨ (48 ≤ r ∧ r ≤ 57) ∨ (58 ≤ r ∧ r ≤ 58) ∨ (r = 59) ∨ (60 ≤ r ∧ r ≤ 60) ∨ (r = 61) ∨ (62 ≤ r ∧ r ≤ 64) ∨ (65 ≤ r ∧ r ≤ 90) ∨ (91 ≤ r ∧ r ≤ 93) ∨ (r = 94) ∨ (r = 95) ∨ (96 ≤ r ∧ r ≤ 96) ∨ (97 ≤ r ∧ r ≤ 122) ∨ (123 ≤ r ∧ r ≤ 127) ∨ (128 ≤ r ∧ r ≤ 65532) ∨ (r = 65533) ∨ (65534 ≤ r ∧ r ≤ 1114111) ∨ (1114112 ≤ r) := by omega
theorem ref_skind (r : Int) (k : Int) (hk : kindI r = k) (w : World) : Calls Tryz.prog 47 #[.int .i64 r] w fun e w' => e = .returned (.int .i64 k) ∧ w = w' := by
 subst hk
 rcases kind_ways r with h0 | rfl | rfl | ⟨h0, h1⟩ | rfl | ⟨h0, h1⟩ | rfl | ⟨h0, h1⟩ | rfl | rfl | rfl | rfl | rfl | rfl | ⟨h0, h1⟩ | rfl | ⟨h0, h1⟩ | ⟨h0, h1⟩ | rfl | ⟨h0, h1⟩ | rfl | ⟨h0, h1⟩ | ⟨h0, h1⟩ | ⟨h0, h1⟩ | rfl | rfl | ⟨h0, h1⟩ | ⟨h0, h1⟩ | ⟨h0, h1⟩ | ⟨h0, h1⟩ | rfl | ⟨h0, h1⟩ | h0
 ·rw [show kindI r = 0 from by unfold kindI; (repeat' split) <;> omega]; exact kind_iv0 r h0 w
 ·rw [show kindI 9 = 3 from by decide]; exact kind_one9 w
 ·rw [show kindI 10 = 3 from by decide]; exact kind_one10 w
 ·rw [show kindI r = 0 from by unfold kindI; (repeat' split) <;> omega]; exact kind_iv1 r h0 h1 w
 ·rw [show kindI 13 = 3 from by decide]; exact kind_one13 w
 ·rw [show kindI r = 0 from by unfold kindI; (repeat' split) <;> omega]; exact kind_iv2 r h0 h1 w
 ·rw [show kindI 32 = 3 from by decide]; exact kind_one32 w
 ·rw [show kindI r = 0 from by unfold kindI; (repeat' split) <;> omega]; exact kind_iv3 r h0 h1 w
 ·rw [show kindI 40 = 4 from by decide]; exact kind_one40 w
 ·rw [show kindI 41 = 4 from by decide]; exact kind_one41 w
 ·rw [show kindI 42 = 4 from by decide]; exact kind_one42 w
 ·rw [show kindI 43 = 4 from by decide]; exact kind_one43 w
 ·rw [show kindI 44 = 4 from by decide]; exact kind_one44 w
 ·rw [show kindI 45 = 4 from by decide]; exact kind_one45 w
 ·rw [show kindI r = 0 from by unfold kindI; (repeat' split) <;> omega]; exact kind_iv4 r h0 h1 w
 ·rw [show kindI 47 = 4 from by decide]; exact kind_one47 w
 ·rw [show kindI r = 2 from by unfold kindI; (repeat' split) <;> omega]; exact kind_iv5 r h0 h1 w
 ·rw [show kindI r = 0 from by unfold kindI; (repeat' split) <;> omega]; exact kind_iv6 r h0 h1 w
 ·rw [show kindI 59 = 4 from by decide]; exact kind_one59 w
 ·rw [show kindI r = 0 from by unfold kindI; (repeat' split) <;> omega]; exact kind_iv7 r h0 h1 w
 ·rw [show kindI 61 = 4 from by decide]; exact kind_one61 w
 ·rw [show kindI r = 0 from by unfold kindI; (repeat' split) <;> omega]; exact kind_iv8 r h0 h1 w
 ·rw [show kindI r = 1 from by unfold kindI; (repeat' split) <;> omega]; exact kind_iv9 r h0 h1 w
 ·rw [show kindI r = 0 from by unfold kindI; (repeat' split) <;> omega]; exact kind_iv10 r h0 h1 w
 ·rw [show kindI 94 = 4 from by decide]; exact kind_one94 w
 ·rw [show kindI 95 = 1 from by decide]; exact kind_one95 w
 ·rw [show kindI r = 0 from by unfold kindI; (repeat' split) <;> omega]; exact kind_iv11 r h0 h1 w
 ·rw [show kindI r = 1 from by unfold kindI; (repeat' split) <;> omega]; exact kind_iv12 r h0 h1 w
 ·rw [show kindI r = 0 from by unfold kindI; (repeat' split) <;> omega]; exact kind_iv13 r h0 h1 w
 ·rw [show kindI r = 1 from by unfold kindI; (repeat' split) <;> omega]; exact kind_iv14 r h0 h1 w
 ·rw [show kindI 65533 = 0 from by decide]; exact kind_one65533 w
 ·rw [show kindI r = 1 from by unfold kindI; (repeat' split) <;> omega]; exact kind_iv15 r h0 h1 w
 ·rw [show kindI r = 0 from by unfold kindI; (repeat' split) <;> omega]; exact kind_iv16 r h0 w
end
section
open Go.RowKit Go.Lib
theorem ref_sname {s : ByteArray} (hs : s.size ≤ 1000000) (r : Bool) (hr : nameB s = r) (w : World) :
  Calls Tryz.prog 21 #[.string s] w fun e w' => e = .returned (.bool r) ∧ w = w' := by
 have KY := fun v => ref_skey s _ rfl v
 have NX := fun i (h : i < s.size) v => ref_snext hs i h v
 unfold nameB at hr
 rcases (by by_cases h1 : s.size < 1 <;> by_cases h2 : 40 < s.size <;> by_cases h3 : keyB s = true <;> simp [h1, h2, h3] : s.size < 1 ∨ (¬ s.size < 1 ∧ 40 < s.size) ∨ (¬ s.size < 1 ∧ ¬ 40 < s.size ∧ keyB s = true) ∨ (¬ s.size < 1 ∧ ¬ 40 < s.size ∧ keyB s = false)) with h | ⟨h, h2⟩ | ⟨h, h2, h3⟩ | ⟨h, h2, h3⟩
 ·obtain rfl : r = false := by rw [← hr, decide_eq_false (by omega)]; rfl
  have k1 : (s.size : Int) < 1 := by omega
  clear hr hs NX
  go_enter Tryz.func21, Tryz.ntmps21
  go_wp2
  go_ret
  exact ⟨rfl, rfl⟩
 ·obtain rfl : r = false := by rw [← hr, decide_eq_false (by omega)]; rfl
  have k1 : ¬ (s.size : Int) < 1 := by omega
  have k2 : 40 < (s.size : Int) := by omega
  clear hr hs NX
  go_enter Tryz.func21, Tryz.ntmps21
  go_wp2
  go_ret
  exact ⟨rfl, rfl⟩
 ·obtain rfl : r = false := by rw [← hr, h3]; simp
  have k1 : ¬ (s.size : Int) < 1 := by omega
  have k2 : ¬ 40 < (s.size : Int) := by omega
  rw [h3] at KY
  clear hr hs NX h3
  go_enter Tryz.func21, Tryz.ntmps21
  go_wp2_with (go_at_call 45; (with_reducible refine Calls.mono (KY _) ?_); rintro e v1 ⟨rfl, rfl⟩)
  go_ret
  exact ⟨rfl, rfl⟩
 ·have k1 : ¬ (s.size : Int) < 1 := by omega
  have k2 : ¬ 40 < (s.size : Int) := by omega
  have hF : nameF s (s.size + 1) 0 = r := by rw [← hr, h3, decide_eq_true (by omega : 1 ≤ s.size ∧ s.size ≤ 40)]; rfl
  have HF : Hid (nameF s (s.size + 1) 0 = r) := hF
  rw [h3] at KY
  clear hr h3 hF hs h h2
  go_enter Tryz.func21, Tryz.ntmps21
  go_wp2_with (go_at_call 45; (with_reducible refine Calls.mono (KY _) ?_); rintro e v1 ⟨rfl, rfl⟩)
  go_loopg [3] s.size (fun g s3 v => ∃ i : Nat, s3 = .int .i64 i ∧ i + g = s.size ∧ nameF s (s.size + 1) i = r ∧ w = v)
  case atStart => exact ⟨0, rfl, by omega, HF.out, rfl⟩
  case round =>
   obtain ⟨i, rfl, hg, hF, rfl⟩ := hrel
   clear HF KY
   have HF : Hid (nameF s (s.size + 1) i = r) := hF
   clear hF
   rcases Nat.lt_or_ge i s.size with hi | hi
   ·have hi' : (i : Int) < s.size := by omega
    have N1 := fun v => NX i hi v
    have hz := next_size hi
    have HS : Hid (nameF s (s.size + 1) i = if (kindI (nextR s i) ≠ 1 ∧ kindI (nextR s i) ≠ 2) ∨ (kindI (nextR s i) = 2 ∧ i = 0) then false else nameF s (s.size + 1) (i + nextN s i)) := nameF_step hi
    have K1 := fun v => ref_skind (nextR s i) _ rfl v
    have hk := kindI_range (nextR s i)
    have hw : wrap64 ((i : Int) + nextN s i) = (i : Int) + nextN s i := by unfold wrap64; omega
    have HZ : Hid (1 ≤ nextN s i ∧ i + nextN s i ≤ s.size) := ⟨hz.1, hz.2.2⟩
    generalize kindI (nextR s i) = k at *
    generalize nextR s i = R at *
    generalize nextN s i = M at *
    clear hz NX
    rcases (by omega : ((k = 0 ∨ k = 3 ∨ k = 4) ∨ (k = 2 ∧ i = 0)) ∨ (k = 1 ∨ (k = 2 ∧ i ≠ 0))) with hA | hB
    ·obtain rfl : r = false := by rw [← HF.out, HS.out, if_pos (by omega)]
     clear hk HS HF
     rcases hA with (rfl | rfl | rfl) | ⟨rfl, h0⟩
     all_goals
      (try (have e0 : ((i : Int) == 0) = true := by (rw [beq_iff_eq]; omega)); clear h0)
      go_wp2_with (first
       | (go_at_call 46; (with_reducible refine Calls.mono (N1 _) ?_); rintro e v1 ⟨rfl, rfl⟩)
       | (go_at_call 47; (with_reducible refine Calls.mono (K1 _) ?_); rintro e v2 ⟨rfl, rfl⟩))
      go_ret
      exact ⟨rfl, rfl⟩
    ·have HR : Hid (nameF s (s.size + 1) (i + M) = r) := by show _ = _; rw [← HF.out, HS.out, if_neg (by omega)]
     clear hk HS HF
     rcases hB with rfl | ⟨rfl, h0⟩
     all_goals
      (try (have e0 : ((i : Int) == 0) = false := by (rw [beq_eq_false_iff_ne]; omega)); clear h0)
      go_wp2_with (first
       | (go_at_call 46; (with_reducible refine Calls.mono (N1 _) ?_); rintro e v1 ⟨rfl, rfl⟩)
       | (go_at_call 47; (with_reducible refine Calls.mono (K1 _) ?_); rintro e v2 ⟨rfl, rfl⟩))
      have hZ := HZ.out
      go_roundg (s.size - (i + M))
      case measure => omega
      case rel => exact ⟨i + M, by go_num, by omega, HR.out, rfl⟩
   ·have hi' : ¬ (i : Int) < s.size := by omega
    obtain rfl : r = true := by rw [← HF.out, nameF_end (by omega)]
    clear NX HF
    go_wp2
    go_ret
    exact ⟨rfl, rfl⟩
end
section
open Go.RowKit
theorem natOf_lit {n : Nat} (zs : List Int) (h : Wd zs) (hv : val zs = n) (hl : lowN zs zs.length = zs.length) : natOf n = zs := by
 rw [← hv, natOf_val zs h, hl]; exact List.take_length
end
section
open Go.RowKit
theorem ref_low (a : Option Addr) (n cap : Nat) (zs : List Int) (w : World) (hr : Reads .u32 w a n zs) (hn : n ≤ 9223372036854775807) :
  Calls Tryz.prog 106 #[.slice a n cap] w fun e w' => e = .returned (.int .i64 (lowN zs n)) ∧ w = w' := by
 obtain ⟨-, rfl | ⟨b, off, rfl, hc⟩⟩ := hr
 ·go_enter Tryz.func106, Tryz.ntmps106
  go_wp2
  go_loop [3, 4] (fun s i => s = .int .i64 0 ∧ i = .int .i64 0) (fun _ _ => 0)
  case atStart => exact ⟨rfl, rfl⟩
  case round =>
   obtain ⟨rfl, rfl⟩ := hrel
   go_wp2
   go_ret
   exact ⟨rfl, rfl⟩
 ·go_enter Tryz.func106, Tryz.ntmps106
  go_wp2
  go_loop [3, 4] (fun s i => ∃ k m : Nat, k ≤ n ∧ i = .int .i64 k ∧ s = .int .i64 m ∧ lowN zs k = m) (fun _ i => n - (intOf i).toNat)
  case atStart => exact ⟨0, 0, by omega, rfl, rfl, rfl⟩
  case round =>
   obtain ⟨k, m, hk, rfl, rfl, hl⟩ := hrel
   have HL : Hid (lowN zs k = m) := hl
   clear hl
   by_cases hlt : k < n
   ·have hck := hc k hlt
    by_cases hz : zs.getD k 0 = 0
    ·rw [hz] at hck
     have HZ : Hid (zs.getD k 0 = 0) := hz
     clear hz hc
     go_wp2
     go_round
     case rel => exact ⟨k + 1, m, by omega, by go_num, rfl, by rw [lowN_zero HZ.out]; exact HL.out⟩
     case measure => simp [intOf]; omega
    ·have HZ : Hid (zs.getD k 0 ≠ 0) := hz
     generalize zs.getD k 0 = z at hck hz
     have hz' : (z == 0) = false := by simpa using hz
     clear hz hc
     go_wp2
     go_round
     case rel => exact ⟨k + 1, k + 1, by omega, by go_num, by go_num, lowN_keep HZ.out⟩
     case measure => simp [intOf]; omega
   ·have HE : Hid (k = n) := (by omega : k = n)
    clear hc
    go_wp2
    go_ret
    exact ⟨ret_int (by rw [← HE.out, HL.out]), rfl⟩
end
section
open Go.RowKit
theorem ref_at (a : Option Addr) (n c : Nat) (zs : List Int) (w : World) (h : IsWords w (.slice a n c) zs) (k : Nat) (hk : k ≤ 9223372036854775807) (z : Int) (hz : zs.getD k 0 = z) (z0 : 0 ≤ z) (z1 : z < 4294967296) :
  Calls Tryz.prog 166 #[.slice a n c, .int .i64 k] w fun e w' => e = .returned (.int .u64 z) ∧ w = w' := by
 obtain ⟨⟨hl, hr⟩, hn⟩ := h.reads
 by_cases hlt : k < n
 ·rcases hr with h0 | ⟨b, off, rfl, hc⟩
  ·omega
  ·have hck := hc k hlt
   rw [hz] at hck
   clear hc hz h
   go_enter Tryz.func166, Tryz.ntmps166
   go_wp2
   go_ret
   exact ⟨rfl, rfl⟩
 ·have : z = 0 := by rw [← hz]; simp [List.getD_eq_getElem?_getD, List.getElem?_eq_none (by omega : zs.length ≤ k)]
  subst this
  clear h hr hz
  go_enter Tryz.func166, Tryz.ntmps166
  go_wp2
  go_ret
  exact ⟨rfl, rfl⟩
end
section
open Go.RowKit
theorem ref_low_nl (a : Option Addr) (n c : Nat) (zs : List Int) (w : World) (h : IsWords w (.slice a n c) zs) (hz : Wd zs) :
  Calls Tryz.prog 106 #[.slice a n c] w fun e w' => e = .returned (.int .i64 (nl (val zs))) ∧ w = w' := by
 have C := ref_low a n c zs w h.reads.1 h.reads.2
 rw [(h.low hz).1] at C
 exact C
theorem take_snoc {zs : List Int} {k : Nat} (h : k < zs.length) : zs.take k ++ [zs.getD k 0] = zs.take (k + 1) := by
 rw [List.take_succ_eq_append_getElem h]; simp [List.getD_eq_getElem?_getD, h]
theorem ref_trim (a : Option Addr) (n c : Nat) (zs : List Int) (w : World) (h : IsWords w (.slice a n c) zs) (hz : Wd zs) (hn : n ≤ 1000000000000) :
  Calls Tryz.prog 71 #[.slice a n c] w (Ans w (val zs)) := by
 have C := ref_low_nl a n c zs w h hz
 have hl := h.low hz
 have hL := hl.2.2
 have hr := h.reads.1
 have HE : Hid (zs.take (nl (val zs)) = natOf (val zs)) := hl.2.1
 unfold Ans
 generalize nl (val zs) = L at C hL HE
 clear hl h hz
 go_enter Tryz.func71, Tryz.ntmps71
 go_wp2_with (go_at_call 106; with_reducible refine Calls.mono C ?_; rintro e w1 ⟨rfl, rfl⟩)
 clear C
 go_loopw [4, 5] (fun s i v => ∃ (k : Nat) (oa : Option Addr) (oc : Nat), k ≤ L ∧ i = .int .i64 k ∧ s = .slice oa k oc ∧ Own w v (.slice oa k oc) k (zs.take k)) (fun _ i _ => L - (intOf i).toNat)
 case atStart => exact ⟨0, none, 0, by omega, rfl, rfl, Own.nil (Below.refl _ _)⟩
 case round =>
  obtain ⟨k, oa, oc, hk, rfl, rfl, o⟩ := hrel
  by_cases hlt : k < L
  ·rcases hr.2 with h0 | ⟨b1, o1, rfl, hc1⟩
   ·omega
   have h1 := hc1 k (by omega)
   rw [← o.below.cell (p := ⟨b1, o1 + k, none⟩) (World.block_lt_of_cell? w _ h1)] at h1
   have HT : Hid (zs.take k ++ [zs.getD k 0] = zs.take (k + 1)) := take_snoc (by rw [hr.1]; omega)
   clear hc1 hr
   generalize zs.getD k 0 = z at h1 HT
   generalize zs.take k = xs at o HT
   go_wp2_with (first
    | (at_builtin; refine wpl_append_words (.tmp 13) (.tmp 18) rfl rfl w _ _ _ k 1 xs [z] rfl rfl (o.alloc _) (lit_words _ [z] 1 rfl (by decide)) rfl (k + 1) rfl (by omega) ?_; intro a1 c1 w1 o1 g1))
   go_roundw
   case rel => exact ⟨k + 1, a1, c1, by omega, by go_num, rfl, by rw [← HT.out]; exact o1⟩
   case measure => simp [intOf]; omega
  ·obtain rfl : k = L := by omega
   rw [HE.out] at o
   clear hr HE
   go_wp2
   go_ret
   exact ⟨_, _, rfl, o⟩
theorem ref_of (n : Int) (w : World) (h0 : 0 ≤ n) (h1 : n < 18446744073709551616) :
  Calls Tryz.prog 52 #[.int .u64 n] w (Ans w n.toNat) := by
 have HB : Hid ((natOf n.toNat).length ≤ 2) := nl_le 2 n.toNat (by omega)
 have HN : Hid (nl n.toNat = (natOf n.toNat).length) := rfl
 unfold Ans
 generalize hys : natOf n.toNat = ys at HB HN
 generalize nl n.toNat = L at HN
 have HM : Hid (natOf n.toNat = ys) := hys
 clear hys
 go_enter Tryz.func52, Tryz.ntmps52
 go_wp2
 go_loopw [0, 3] (fun i s v => ∃ (r : Int) (k : Nat) (oa : Option Addr) (oc : Nat) (xs : List Int), 0 ≤ r ∧ r < 18446744073709551616 ∧ i = .int .u64 r ∧ s = .slice oa k oc ∧ Own w v (.slice oa k oc) k xs ∧ xs ++ natOf r.toNat = ys) (fun i _ _ => (intOf i).toNat)
 case atStart => exact ⟨n, 0, none, 0, [], h0, h1, rfl, rfl, Own.nil (Below.refl _ _), HM.out⟩
 case round =>
  obtain ⟨r, k, oa, oc, xs, hr0, hr, rfl, rfl, o, hx⟩ := hrel
  have HX : Hid (xs ++ natOf r.toNat = ys) := hx
  clear hx
  by_cases h0 : r = 0
  ·subst h0
   have HX' := HX.out
   rw [show (0 : Int).toNat = 0 from rfl, natOf_zero, List.append_nil] at HX'
   subst HX'
   have hk := o.length
   rw [← HN.out] at hk
   subst hk
   clear HX HM HB HN
   go_wp2
   go_ret
   exact ⟨_, _, rfl, o⟩
  ·have hpos : 0 < r := by omega
   have hX := HX.out
   rw [natOf_pos (by omega), List.append_cons, show ((r.toNat % 4294967296 : Nat) : Int) = r % 4294967296 by omega, show r.toNat / 4294967296 = (r / 4294967296).toNat by omega] at hX
   have HX2 : Hid (xs ++ [r % 4294967296] ++ natOf (r / 4294967296).toNat = ys) := hX
   have hk : k + 1 ≤ 2 := by
    have e := congrArg List.length hX
    have := HB.out
    have := o.length
    simp only [List.length_append, List.length_cons, List.length_nil] at e
    omega
   clear HX hX HM HB HN
   go_wp2_with (first
    | (at_builtin; refine wpl_append_words (.tmp 6) (.tmp 10) rfl rfl w _ _ _ k 1 xs [r % 4294967296] rfl rfl (o.alloc _) (lit_words _ [r % 4294967296] 1 rfl (by decide)) rfl (k + 1) rfl (by omega) ?_; intro a1 c1 w1 o1 g1))
   go_roundw
   case rel => exact ⟨r / 4294967296, k + 1, a1, c1, _, by omega, by omega, rfl, rfl, o1, HX2.out⟩
   case measure => simp [intOf]; omega
end
end Go.Proofs.YtaeladkcmpdkhaaGreatDoor
