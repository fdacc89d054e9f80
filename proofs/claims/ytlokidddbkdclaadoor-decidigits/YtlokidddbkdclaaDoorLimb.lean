/-
  Contracts of package limb's functions (variadic sum, halves, Add, Sub, Mul, Div, Bits, Low), each for every word: what it answers in plain integers, and that memory that was there stays. No conditions but that arguments are words.
-/
import Derived.Test.YtlokidddbkdclaaDoorRows
import Derived.WalkKit
import Derived.ProofKit
import Derived.WalkLawsBesides
import Derived.Deep.QuietTactic
import Derived.BigQuiet
import Derived.Outline
namespace Go.Proofs.YtlokidddbkdclaaDoor
open Go.RowKit

def isum : List Int → Int
  | [] => 0
  | x :: r => x + isum r
theorem isum_snoc (l : List Int) (x : Int) : isum (l ++ [x]) = isum l + x := by
  induction l with
  | nil => simp [isum]
  | cons y r ih => simp only [List.cons_append, isum, ih]; omega

theorem ret_two {k l : IntKind} {a b c d : Int} (h : a = c) (g : b = d) : Ending.returned (.tuple #[.int k a, .int l b]) = .returned (.tuple #[.int k c, .int l d]) := by rw [h, g]

theorem limb_total (b : Nat) (zs : List Int) (n cap : Nat) (w : World) (hn : zs.length = n) (hl : n ≤ 1000)
    (hc : ∀ i, i < n → w.cell? ⟨b, i, none⟩ = some (.int .u64 (zs.getD i 0)))
    (hb : ∀ k, k ≤ n → 0 ≤ isum (zs.take k) ∧ isum (zs.take k) < 18446744073709551616) :
    Calls Tryd.prog 59 #[.slice (some ⟨b, 0, none⟩) n cap] w fun e w' => e = .returned (.int .u64 (isum zs)) ∧ w = w' := by
  go_enter Tryd.func59, Tryd.ntmps59
  go_wp2
  go_loop [3, 8] (fun s i => ∃ k : Nat, k ≤ n ∧ i = .int .i64 k ∧ s = .int .u64 (isum (zs.take k))) (fun _ i => n - (intOf i).toNat)
  case atStart => exact ⟨0, Nat.zero_le _, rfl, rfl⟩
  case round =>
    obtain ⟨k, hk, rfl, rfl⟩ := hrel
    by_cases hlt : k < n
    · have hck := hc k hlt
      have hb1 := hb k hk
      have hb2 := hb (k+1) hlt
      have e : zs.take (k+1) = zs.take k ++ [zs.getD k 0] := by
        rw [List.take_succ_eq_append_getElem (by omega)]; simp [show k < zs.length by omega]
      rw [e, isum_snoc] at hb2
      have E : Hid (isum (zs.take (k+1)) = isum (zs.take k) + zs.getD k 0) := by rw [e, isum_snoc]; rfl
      clear e hb hc hn
      generalize zs.getD k 0 = z at hck hb2 E
      go_wp2
      go_round
      case rel => exact ⟨k+1, by omega, by go_num, by rw [E.out]⟩
      case measure => simp [intOf]; omega
    · have e : zs.take k = zs := List.take_of_length_le (by omega)
      clear hb hc hn
      rw [e]
      go_wp2
      go_ret
      exact ⟨rfl, rfl⟩

theorem limb_total3 (a b c : Int) (w : World) (h0 : 0 ≤ a) (h1 : 0 ≤ b) (h2 : 0 ≤ c) (h3 : a + b + c < 18446744073709551616) :
    Calls Tryd.prog 59 #[.slice (some ⟨w.heap.size, 0, none⟩) 3 3] (w.alloc (.cells #[.int .u64 a, .int .u64 b, .int .u64 c] 54)) fun e w' => e = .returned (.int .u64 (a + b + c)) ∧ w.alloc (.cells #[.int .u64 a, .int .u64 b, .int .u64 c] 54) = w' := by
  have e : isum [a, b, c] = a + b + c := by simp [isum]; omega
  rw [← e]
  refine limb_total _ [a, b, c] 3 3 _ rfl (by decide) ?_ ?_
  · intro i hi
    match i, hi with
    | 0, _ => simp
    | 1, _ => simp
    | 2, _ => simp
  · intro k hk
    match k, hk with
    | 0, _ => simp [isum]
    | 1, _ => simp [isum]; omega
    | 2, _ => simp [isum]; omega
    | 3, _ => simp [isum]; omega

theorem limb_total2 (a b : Int) (w : World) (h0 : 0 ≤ a) (h1 : 0 ≤ b) (h3 : a + b < 18446744073709551616) :
    Calls Tryd.prog 59 #[.slice (some ⟨w.heap.size, 0, none⟩) 2 2] (w.alloc (.cells #[.int .u64 a, .int .u64 b] 54)) fun e w' => e = .returned (.int .u64 (a + b)) ∧ w.alloc (.cells #[.int .u64 a, .int .u64 b] 54) = w' := by
  have e : isum [a, b] = a + b := by simp [isum]
  rw [← e]
  refine limb_total _ [a, b] 2 2 _ rfl (by decide) ?_ ?_
  · intro i hi
    match i, hi with
    | 0, _ => simp
    | 1, _ => simp
  · intro k hk
    match k, hk with
    | 0, _ => simp [isum]
    | 1, _ => simp [isum]; omega
    | 2, _ => simp [isum]; omega

theorem limb_halves (n : Int) (w : World) (h0 : 0 ≤ n) (h1 : n < 18446744073709551616) :
    Calls Tryd.prog 58 #[.int .u64 n] w fun e w' => e = .returned (.tuple #[.int .u32 (n / 4294967296), .int .u32 (n % 4294967296)]) ∧ w = w' := by
  go_enter Tryd.func58, Tryd.ntmps58
  go_wp2
  go_ret2
  exact ⟨rfl, rfl⟩

theorem limb_add (a b c : Int) (w : World) (h0 : 0 ≤ a) (h1 : a < 4294967296) (h2 : 0 ≤ b) (h3 : b < 4294967296) (h4 : 0 ≤ c) (h5 : c < 4294967296) :
    Calls Tryd.prog 41 #[.int .u32 a, .int .u32 b, .int .u32 c] w fun e w' => e = .returned (.tuple #[.int .u32 ((a + b + c) % 4294967296), .int .u32 ((a + b + c) / 4294967296)]) ∧ Below w.heap.size w w' := by
  go_enter Tryd.func41, Tryd.ntmps41
  go_wp2_with (first | (go_at_call 59; refine (limb_total3 a b c w h0 h2 h4 (by omega)).mono ?_; rintro e w' ⟨rfl, rfl⟩) | (go_at_call 58; refine (limb_halves (a + b + c) _ (by omega) (by omega)).mono ?_; rintro e w' ⟨rfl, rfl⟩))
  go_ret2
  exact ⟨rfl, (Below.refl _ _).alloc (Nat.le_refl _) _⟩


theorem limb_mul (a b c d : Int) (w : World) (h0 : 0 ≤ a) (h1 : a < 4294967296) (h2 : 0 ≤ b) (h3 : b < 4294967296) (h4 : 0 ≤ c) (h5 : c < 4294967296) (h6 : 0 ≤ d) (h7 : d < 4294967296) :
    Calls Tryd.prog 60 #[.int .u32 a, .int .u32 b, .int .u32 c, .int .u32 d] w fun e w' => e = .returned (.tuple #[.int .u32 ((a * b + c + d) / 4294967296), .int .u32 ((a * b + c + d) % 4294967296)]) ∧ Below w.heap.size w w' := by
  have m0 : 0 ≤ a * b := Int.mul_nonneg h0 h2
  have m1 : a * b ≤ 4294967295 * 4294967295 := Int.mul_le_mul (by omega) (by omega) h2 (by omega)
  go_enter Tryd.func60, Tryd.ntmps60
  go_wp2_with (first | (go_at_call 59; refine (limb_total3 (a * b) c d w m0 h4 h6 (by omega)).mono ?_; rintro e w' ⟨rfl, rfl⟩) | (go_at_call 58; refine (limb_halves (a * b + c + d) _ (by omega) (by omega)).mono ?_; rintro e w' ⟨rfl, rfl⟩))
  go_ret2
  exact ⟨rfl, (Below.refl _ _).alloc (Nat.le_refl _) _⟩

theorem limb_div_no (a b d : Int) (w : World) (h : d ≤ a) :
    Calls Tryd.prog 65 #[.int .u32 a, .int .u32 b, .int .u32 d] w fun e w' => e = .returned (.tuple #[.int .u32 0, .int .u32 0, .bool false]) ∧ Below w.heap.size w w' := by
  go_enter Tryd.func65, Tryd.ntmps65
  go_wp2
  go_ret3
  exact ⟨rfl, Below.refl _ _⟩

theorem limb_div (a b d : Int) (w : World) (h0 : 0 ≤ a) (h1 : a < d) (h2 : 0 ≤ b) (h3 : b < 4294967296) (h5 : d < 4294967296) :
    Calls Tryd.prog 65 #[.int .u32 a, .int .u32 b, .int .u32 d] w fun e w' => e = .returned (.tuple #[.int .u32 ((a * 4294967296 + b) / d), .int .u32 ((a * 4294967296 + b) % d), .bool true]) ∧ Below w.heap.size w w' := by
  have q0 : 0 ≤ (a * 4294967296 + b) / d := Int.ediv_nonneg (by omega) (by omega)
  have q1 : (a * 4294967296 + b) / d < 4294967296 := Int.ediv_lt_of_lt_mul (by omega) (by omega)
  have r0 : 0 ≤ (a * 4294967296 + b) % d := Int.emod_nonneg _ (by omega)
  have r1 : (a * 4294967296 + b) % d < d := Int.emod_lt_of_pos _ (by omega)
  go_enter Tryd.func65, Tryd.ntmps65
  go_wp2_with ((go_at_call 59; refine (limb_total2 (a * 4294967296) b w (by omega) h2 (by omega)).mono ?_; rintro e w' ⟨rfl, rfl⟩))
  go_quiet (fail)
  go_wp2
  go_ret3
  exact ⟨rfl, below_drewN ((Below.refl _ _).alloc (Nat.le_refl _) _) _⟩
end Go.Proofs.YtlokidddbkdclaaDoor
