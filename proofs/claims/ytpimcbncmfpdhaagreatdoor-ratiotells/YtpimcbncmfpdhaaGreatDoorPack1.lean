/-
  Texts of mine put together in build order: Limb, LimbB, Own, Words, Came, NatMath, NatA, Words2, Boxes, NatB, NatAdd, NatCmp, NatSub, NatMore, LimbRef, NatRef, NatRefB, NatRefC, TimesA, TimesB, SplitA, SplitB, SplitC, SplitD. Each says at its head what it proves. No conditions of its own.
-/
import Derived.Test.YtpimcbncmfpdhaaGreatDoorRows
import Derived.WalkKit
import Derived.ProofKit
import Derived.WalkLawsBesides
import Derived.Deep.QuietTactic
import Derived.BigQuiet
import Derived.Outline
import Derived.Lib.BitFns
import Derived.Lib.AppendZerosOnto
import Derived.OpenShut
import Derived.Laws.CopyOwn
import Derived.Deep.RegionWith
import Derived.Deep.DrawnRows
import Derived.Deep.LoopGhost
/-
  Contracts of package limb's functions (variadic sum, halves, Add, Sub, Mul, Div, Bits, Low), each for every word: what it answers in plain integers, and that memory that was there stays. No conditions but that arguments are words.
-/
namespace Go.Proofs.YtpimcbncmfpdhaaGreatDoor
open Go.RowKit

def isum : List Int → Int
  | [] => 0
  | x :: r => x + isum r
theorem isum_snoc (l : List Int) (x : Int) : isum (l ++ [x]) = isum l + x := by
  induction l with
  | nil => simp [isum]
  | cons y r ih => simp only [List.cons_append, isum, ih]; omega

theorem ret_two {k l : IntKind} {a b c d : Int} (h : a = c) (g : b = d) : Ending.returned (.tuple #[.int k a, .int l b]) = .returned (.tuple #[.int k c, .int l d]) := by rw [h, g]

theorem limb_total (b : Nat) (zs : List Int) (n cap : Nat) (w : World) (hn : zs.length = n) (hl : n ≤ 1000)
    (hc : ∀ i, i < n → w.cell? ⟨b, i, none⟩ = some (.int .u64 (zs.getD i 0)))
    (hb : ∀ k, k ≤ n → 0 ≤ isum (zs.take k) ∧ isum (zs.take k) < 18446744073709551616) :
    Calls Tryz.prog 166 #[.slice (some ⟨b, 0, none⟩) n cap] w fun e w' => e = .returned (.int .u64 (isum zs)) ∧ w = w' := by
  go_enter Tryz.func166, Tryz.ntmps166
  go_wp2
  go_loop [3, 8] (fun s i => ∃ k : Nat, k ≤ n ∧ i = .int .i64 k ∧ s = .int .u64 (isum (zs.take k))) (fun _ i => n - (intOf i).toNat)
  case atStart => exact ⟨0, Nat.zero_le _, rfl, rfl⟩
  case round =>
    obtain ⟨k, hk, rfl, rfl⟩ := hrel
    by_cases hlt : k < n
    · have hck := hc k hlt
      have hb1 := hb k hk
      have hb2 := hb (k+1) hlt
      have e : zs.take (k+1) = zs.take k ++ [zs.getD k 0] := by
        rw [List.take_succ_eq_append_getElem (by omega)]; simp [show k < zs.length by omega]
      rw [e, isum_snoc] at hb2
      have E : Hid (isum (zs.take (k+1)) = isum (zs.take k) + zs.getD k 0) := by rw [e, isum_snoc]; rfl
      clear e hb hc hn
      generalize zs.getD k 0 = z at hck hb2 E
      go_wp2
      go_round
      case rel => exact ⟨k+1, by omega, by go_num, by rw [E.out]⟩
      case measure => simp [intOf]; omega
    · have e : zs.take k = zs := List.take_of_length_le (by omega)
      clear hb hc hn
      rw [e]
      go_wp2
      go_ret
      exact ⟨rfl, rfl⟩

theorem limb_total3 (a b c : Int) (w : World) (h0 : 0 ≤ a) (h1 : 0 ≤ b) (h2 : 0 ≤ c) (h3 : a + b + c < 18446744073709551616) :
    Calls Tryz.prog 166 #[.slice (some ⟨w.heap.size, 0, none⟩) 3 3] (w.alloc (.cells #[.int .u64 a, .int .u64 b, .int .u64 c] 61)) fun e w' => e = .returned (.int .u64 (a + b + c)) ∧ w.alloc (.cells #[.int .u64 a, .int .u64 b, .int .u64 c] 61) = w' := by
  have e : isum [a, b, c] = a + b + c := by simp [isum]; omega
  rw [← e]
  refine limb_total _ [a, b, c] 3 3 _ rfl (by decide) ?_ ?_
  · intro i hi
    match i, hi with
    | 0, _ => simp
    | 1, _ => simp
    | 2, _ => simp
  · intro k hk
    match k, hk with
    | 0, _ => simp [isum]
    | 1, _ => simp [isum]; omega
    | 2, _ => simp [isum]; omega
    | 3, _ => simp [isum]; omega

theorem limb_total2 (a b : Int) (w : World) (h0 : 0 ≤ a) (h1 : 0 ≤ b) (h3 : a + b < 18446744073709551616) :
    Calls Tryz.prog 166 #[.slice (some ⟨w.heap.size, 0, none⟩) 2 2] (w.alloc (.cells #[.int .u64 a, .int .u64 b] 61)) fun e w' => e = .returned (.int .u64 (a + b)) ∧ w.alloc (.cells #[.int .u64 a, .int .u64 b] 61) = w' := by
  have e : isum [a, b] = a + b := by simp [isum]
  rw [← e]
  refine limb_total _ [a, b] 2 2 _ rfl (by decide) ?_ ?_
  · intro i hi
    match i, hi with
    | 0, _ => simp
    | 1, _ => simp
  · intro k hk
    match k, hk with
    | 0, _ => simp [isum]
    | 1, _ => simp [isum]; omega
    | 2, _ => simp [isum]; omega

theorem limb_halves (n : Int) (w : World) (h0 : 0 ≤ n) (h1 : n < 18446744073709551616) :
    Calls Tryz.prog 165 #[.int .u64 n] w fun e w' => e = .returned (.tuple #[.int .u32 (n / 4294967296), .int .u32 (n % 4294967296)]) ∧ w = w' := by
  go_enter Tryz.func165, Tryz.ntmps165
  go_wp2
  go_ret2
  exact ⟨rfl, rfl⟩

theorem limb_add (a b c : Int) (w : World) (h0 : 0 ≤ a) (h1 : a < 4294967296) (h2 : 0 ≤ b) (h3 : b < 4294967296) (h4 : 0 ≤ c) (h5 : c < 4294967296) :
    Calls Tryz.prog 167 #[.int .u32 a, .int .u32 b, .int .u32 c] w fun e w' => e = .returned (.tuple #[.int .u32 ((a + b + c) % 4294967296), .int .u32 ((a + b + c) / 4294967296)]) ∧ Below w.heap.size w w' := by
  go_enter Tryz.func167, Tryz.ntmps167
  go_wp2_with (first | (go_at_call 166; refine (limb_total3 a b c w h0 h2 h4 (by omega)).mono ?_; rintro e w' ⟨rfl, rfl⟩) | (go_at_call 165; refine (limb_halves (a + b + c) _ (by omega) (by omega)).mono ?_; rintro e w' ⟨rfl, rfl⟩))
  go_ret2
  exact ⟨rfl, (Below.refl _ _).alloc (Nat.le_refl _) _⟩

theorem limb_sub (a b c : Int) (w : World) (h0 : 0 ≤ a) (h1 : a < 4294967296) (h2 : 0 ≤ b) (h3 : b < 4294967296) (h4 : 0 ≤ c) (h5 : c < 4294967296) :
    Calls Tryz.prog 174 #[.int .u32 a, .int .u32 b, .int .u32 c] w fun e w' => e = .returned (.tuple #[.int .u32 ((a - b - c) % 4294967296), .int .u32 (-((a - b - c) / 4294967296))]) ∧ Below w.heap.size w w' := by
  go_enter Tryz.func174, Tryz.ntmps174
  go_wp2_with (first | (go_at_call 166; refine (limb_total2 b c w h2 h4 (by omega)).mono ?_; rintro e w' ⟨rfl, rfl⟩) | (go_at_call 165; refine (limb_halves (IntKind.u64.wrap (a - (b + c))) _ (by rw [IntKind.wrap_u64]; omega) (by rw [IntKind.wrap_u64]; omega)).mono ?_; rintro e w' ⟨rfl, rfl⟩))
  go_ret2
  exact ⟨ret_two (by rw [IntKind.wrap_u64]; omega) (by rw [IntKind.wrap_u64]; omega), (Below.refl _ _).alloc (Nat.le_refl _) _⟩

theorem limb_mul (a b c d : Int) (w : World) (h0 : 0 ≤ a) (h1 : a < 4294967296) (h2 : 0 ≤ b) (h3 : b < 4294967296) (h4 : 0 ≤ c) (h5 : c < 4294967296) (h6 : 0 ≤ d) (h7 : d < 4294967296) :
    Calls Tryz.prog 145 #[.int .u32 a, .int .u32 b, .int .u32 c, .int .u32 d] w fun e w' => e = .returned (.tuple #[.int .u32 ((a * b + c + d) / 4294967296), .int .u32 ((a * b + c + d) % 4294967296)]) ∧ Below w.heap.size w w' := by
  have m0 : 0 ≤ a * b := Int.mul_nonneg h0 h2
  have m1 : a * b ≤ 4294967295 * 4294967295 := Int.mul_le_mul (by omega) (by omega) h2 (by omega)
  go_enter Tryz.func145, Tryz.ntmps145
  go_wp2_with (first | (go_at_call 166; refine (limb_total3 (a * b) c d w m0 h4 h6 (by omega)).mono ?_; rintro e w' ⟨rfl, rfl⟩) | (go_at_call 165; refine (limb_halves (a * b + c + d) _ (by omega) (by omega)).mono ?_; rintro e w' ⟨rfl, rfl⟩))
  go_ret2
  exact ⟨rfl, (Below.refl _ _).alloc (Nat.le_refl _) _⟩

theorem limb_div_no (a b d : Int) (w : World) (h : d ≤ a) :
    Calls Tryz.prog 155 #[.int .u32 a, .int .u32 b, .int .u32 d] w fun e w' => e = .returned (.tuple #[.int .u32 0, .int .u32 0, .bool false]) ∧ Below w.heap.size w w' := by
  go_enter Tryz.func155, Tryz.ntmps155
  go_wp2
  go_ret3
  exact ⟨rfl, Below.refl _ _⟩

theorem limb_div (a b d : Int) (w : World) (h0 : 0 ≤ a) (h1 : a < d) (h2 : 0 ≤ b) (h3 : b < 4294967296) (h5 : d < 4294967296) :
    Calls Tryz.prog 155 #[.int .u32 a, .int .u32 b, .int .u32 d] w fun e w' => e = .returned (.tuple #[.int .u32 ((a * 4294967296 + b) / d), .int .u32 ((a * 4294967296 + b) % d), .bool true]) ∧ Below w.heap.size w w' := by
  have q0 : 0 ≤ (a * 4294967296 + b) / d := Int.ediv_nonneg (by omega) (by omega)
  have q1 : (a * 4294967296 + b) / d < 4294967296 := Int.ediv_lt_of_lt_mul (by omega) (by omega)
  have r0 : 0 ≤ (a * 4294967296 + b) % d := Int.emod_nonneg _ (by omega)
  have r1 : (a * 4294967296 + b) % d < d := Int.emod_lt_of_pos _ (by omega)
  go_enter Tryz.func155, Tryz.ntmps155
  go_wp2_with ((go_at_call 166; refine (limb_total2 (a * 4294967296) b w (by omega) h2 (by omega)).mono ?_; rintro e w' ⟨rfl, rfl⟩))
  go_quiet (fail)
  go_wp2
  go_ret3
  exact ⟨rfl, below_drewN ((Below.refl _ _).alloc (Nat.le_refl _) _) _⟩
end Go.Proofs.YtpimcbncmfpdhaaGreatDoor
/-
  Contracts of limb.Bits and limb.Low, for every word and every list of words: how many binary digits, how many words without the 0s at the end; memory stays.
-/
namespace Go.Proofs.YtpimcbncmfpdhaaGreatDoor
open Go.RowKit

theorem ret_int {k : IntKind} {a b : Int} (h : a = b) : Ending.returned (.int k a) = .returned (.int k b) := by rw [h]

set_option maxRecDepth 100000 in
theorem bits_len32 (a : Int) (w : World) (h0 : 0 ≤ a) (h1 : a < 4294967296) :
    Calls Tryz.prog 112 #[.int .u32 a] w fun e w' => e = .returned (.int .i64 (Lib.bitLen a.toNat)) ∧ w = w' := by
  by_cases c1 : 65536 ≤ a
  · by_cases c2 : 256 ≤ a / 65536
    · have i0 : 0 ≤ a / 65536 / 256 := by omega
      have i1 : a / 65536 / 256 ≤ 255 := by omega
      have E : Hid (Lib.len8 (a / 65536 / 256) = (Lib.bitLen (a.toNat / 2 ^ 24) : Int)) := by
        show _ = _
        rw [Lib.len8_of _ i0 i1, show (a / 65536 / 256).toNat = a.toNat / 2 ^ 24 by omega]
      have S : Hid (Lib.bitLen a.toNat = 24 + Lib.bitLen (a.toNat / 2 ^ 24)) := Lib.bitLen_shift 24 a.toNat (by omega) (by omega)
      have l0 : 0 ≤ Lib.len8 (a / 65536 / 256) := by rw [E.out]; omega
      have l1 : Lib.len8 (a / 65536 / 256) ≤ 8 := by rw [E.out]; have := Lib.bitLen_le (a.toNat / 2 ^ 24) 8 (by omega) (by omega); omega
      go_enter Tryz.func112, Tryz.ntmps112
      go_wp2
      go_ret
      exact ⟨ret_int (by rw [E.out, S.out]; omega), rfl⟩
    · have i0 : 0 ≤ a / 65536 := by omega
      have i1 : a / 65536 ≤ 255 := by omega
      have E : Hid (Lib.len8 (a / 65536) = (Lib.bitLen (a.toNat / 2 ^ 16) : Int)) := by
        show _ = _
        rw [Lib.len8_of _ i0 i1, show (a / 65536).toNat = a.toNat / 2 ^ 16 by omega]
      have S : Hid (Lib.bitLen a.toNat = 16 + Lib.bitLen (a.toNat / 2 ^ 16)) := Lib.bitLen_shift 16 a.toNat (by omega) (by omega)
      have l0 : 0 ≤ Lib.len8 (a / 65536) := by rw [E.out]; omega
      have l1 : Lib.len8 (a / 65536) ≤ 8 := by rw [E.out]; have := Lib.bitLen_le (a.toNat / 2 ^ 16) 8 (by omega) (by omega); omega
      go_enter Tryz.func112, Tryz.ntmps112
      go_wp2
      go_ret
      exact ⟨ret_int (by rw [E.out, S.out]; omega), rfl⟩
  · by_cases c2 : 256 ≤ a
    · have i0 : 0 ≤ a / 256 := by omega
      have i1 : a / 256 ≤ 255 := by omega
      have E : Hid (Lib.len8 (a / 256) = (Lib.bitLen (a.toNat / 2 ^ 8) : Int)) := by
        show _ = _
        rw [Lib.len8_of _ i0 i1, show (a / 256).toNat = a.toNat / 2 ^ 8 by omega]
      have S : Hid (Lib.bitLen a.toNat = 8 + Lib.bitLen (a.toNat / 2 ^ 8)) := Lib.bitLen_shift 8 a.toNat (by omega) (by omega)
      have l0 : 0 ≤ Lib.len8 (a / 256) := by rw [E.out]; omega
      have l1 : Lib.len8 (a / 256) ≤ 8 := by rw [E.out]; have := Lib.bitLen_le (a.toNat / 2 ^ 8) 8 (by omega) (by omega); omega
      go_enter Tryz.func112, Tryz.ntmps112
      go_wp2
      go_ret
      exact ⟨ret_int (by rw [E.out, S.out]; omega), rfl⟩
    · have i1 : a ≤ 255 := by omega
      have E : Hid (Lib.len8 a = (Lib.bitLen a.toNat : Int)) := Lib.len8_of _ h0 i1
      have l0 : 0 ≤ Lib.len8 a := by rw [E.out]; omega
      have l1 : Lib.len8 a ≤ 8 := by rw [E.out]; have := Lib.bitLen_le a.toNat 8 (by omega) (by omega); omega
      go_enter Tryz.func112, Tryz.ntmps112
      go_wp2
      go_ret
      exact ⟨ret_int (by rw [E.out]), rfl⟩

theorem limb_bits (a : Int) (w : World) (h0 : 0 ≤ a) (h1 : a < 4294967296) :
    Calls Tryz.prog 81 #[.int .u32 a] w fun e w' => e = .returned (.int .i64 (Lib.bitLen a.toNat)) ∧ w = w' := by
  go_enter Tryz.func81, Tryz.ntmps81
  go_wp2_with (go_at_call 112; refine (bits_len32 a w h0 h1).mono ?_; rintro e w' ⟨rfl, rfl⟩)
  go_ret
  exact ⟨rfl, rfl⟩

/-- How many of the first n words there are without the 0s at the end. -/
def lowN (zs : List Int) : Nat → Nat
  | 0 => 0
  | n + 1 => if zs.getD n 0 = 0 then lowN zs n else n + 1
theorem lowN_le (zs : List Int) (n : Nat) : lowN zs n ≤ n := by
  induction n with
  | zero => simp [lowN]
  | succ n ih => simp only [lowN]; split <;> omega
theorem lowN_zero {zs : List Int} {n : Nat} (h : zs.getD n 0 = 0) : lowN zs (n + 1) = lowN zs n := by simp only [lowN]; rw [if_pos h]
theorem lowN_keep {zs : List Int} {n : Nat} (h : zs.getD n 0 ≠ 0) : lowN zs (n + 1) = n + 1 := by simp only [lowN]; rw [if_neg h]

/-- The slice (a, n) reads as the integers zs: it is empty, or its cells hold them. -/
def Reads (k : IntKind) (w : World) (a : Option Addr) (n : Nat) (zs : List Int) : Prop :=
  zs.length = n ∧ (n = 0 ∨ ∃ b off, a = some ⟨b, off, none⟩ ∧ ∀ i, i < n → w.cell? ⟨b, off + i, none⟩ = some (.int k (zs.getD i 0)))

theorem limb_low (a : Option Addr) (n cap : Nat) (zs : List Int) (w : World) (hr : Reads .u32 w a n zs) (hn : n ≤ 9223372036854775807) :
    Calls Tryz.prog 84 #[.slice a n cap] w fun e w' => e = .returned (.int .i64 (lowN zs n)) ∧ w = w' := by
  obtain ⟨-, rfl | ⟨b, off, rfl, hc⟩⟩ := hr
  · go_enter Tryz.func84, Tryz.ntmps84
    go_wp2
    go_loop [3] (fun s => s = .int .i64 0) (fun _ => 0)
    case atStart => exact rfl
    case round =>
      subst hrel
      go_wp2
      go_ret
      exact ⟨rfl, rfl⟩
  · go_enter Tryz.func84, Tryz.ntmps84
    go_wp2
    go_loop [3] (fun s => ∃ k : Nat, k ≤ n ∧ s = .int .i64 k ∧ lowN zs k = lowN zs n) (fun s => (intOf s).toNat)
    case atStart => exact ⟨n, Nat.le_refl _, rfl, rfl⟩
    case round =>
      obtain ⟨k, hk, rfl, hl⟩ := hrel
      have HL : Hid (lowN zs k = lowN zs n) := hl
      clear hl
      match k, hk, HL with
      | 0, hk, HL =>
        clear hc
        go_wp2
        go_ret
        exact ⟨ret_int (by rw [← HL.out]; simp [lowN]), rfl⟩
      | k + 1, hk, HL =>
        have hck := hc k (by omega)
        by_cases hz : zs.getD k 0 = 0
        · rw [hz] at hck
          have HZ : Hid (zs.getD k 0 = 0) := hz
          clear hz hc
          go_wp2
          go_round
          case rel => exact ⟨k, by omega, by go_num, by rw [← lowN_zero HZ.out]; exact HL.out⟩
          case measure => simp [intOf]
        · have HZ : Hid (zs.getD k 0 ≠ 0) := hz
          generalize zs.getD k 0 = z at hck hz
          have hz' : (z == 0) = false := by simpa using hz
          clear hz hc
          go_wp2
          go_ret
          exact ⟨ret_int (by rw [← HL.out, lowN_keep HZ.out]; rfl), rfl⟩
end Go.Proofs.YtpimcbncmfpdhaaGreatDoor
/-
  A law of no program: append(s, make([]T, k)...) onto a row that the call itself owns: k zero values are owned behind what was, whether there was room or not. Conditions: one cell an element; Go's own limits on sizes.
-/
namespace Go.Proofs.YtpimcbncmfpdhaaGreatDoor
open Go.RowKit

theorem zeroCells_one (z : Value) (n : Nat) : (Builtin.zeroCells #[z] n).toList = List.replicate n z := by
  apply List.ext_getElem?
  intro j
  by_cases hj : j < n
  · simp [Builtin.zeroCells, hj, Nat.mod_one]
  · simp [Builtin.zeroCells, hj]

theorem run_append_zeros_own {P : Program} (w : World) (base : Nat) (t tn ty e : TypeId) (i : TypeInfo) (z : Value) (kq kn : IntKind) (ht : P.underlying t = some (.slice e)) (htn : P.underlying tn = some (.int kn))
    (hi : P.info? e = some i) (hz : i.zero = some z) (hsize : i.size = 1) (hzc : z.cells = #[z]) (hone : z.oneCell' = true)
    (v : Value) (n : Nat) (xs : List Value) (hown : w.ownsRow base e 1 v n xs) (k : Nat) (h63 : n + k ≤ maxLen) (hbytes : (n + k) * i.bytes ≤ 140737488355328) (hbase : base ≤ w.heap.size) :
    ∃ v' w', (Builtin.append_ #[t, tn] ty #[v, .int kq k]).run P w = .ok v' w' ∧ w'.ownsRow base e 1 v' (n + k) (xs ++ List.replicate k z) ∧ w.grownBy w' v.ownBlock := by
  have hsmall : n + k ≤ 9223372036854775807 := by simp only [maxLen] at h63; omega
  have hlen : (xs ++ List.replicate k z).length = (n + k) * 1 := by rw [List.length_append, hown.1, List.length_replicate]; omega
  have h48 : k * i.bytes ≤ 281474976710656 := by
    have : k * i.bytes ≤ (n + k) * i.bytes := Nat.mul_le_mul_right _ (by omega)
    omega
  have hw : IntKind.i64.wrap (k : Int) = k := by rw [IntKind.wrap_i64]; omega
  have hw0 : IntKind.i64.wrap 0 = 0 := by rw [IntKind.wrap_i64]; omega
  have hneg : ¬ ((k : Int) < 0) := by omega
  have h48i : ¬ (281474976710656 < (k : Int) * (i.bytes : Int)) := by
    rw [← Int.natCast_mul]; omega
  have grown : ∀ (old : Nat) (row : Option Nat),
      (w.drew.alloc (.cells (xs.toArray ++ Builtin.zeroCells z.cells k ++ Builtin.zeroCells z.cells (grownCap w (n + k) old e - (n + k))) e)).ownsRow base e 1
        (.slice (some ⟨w.heap.size, 0, none⟩) (n + k) (grownCap w (n + k) old e)) (n + k) (xs ++ List.replicate k z) ∧
      w.grownBy (w.drew.alloc (.cells (xs.toArray ++ Builtin.zeroCells z.cells k ++ Builtin.zeroCells z.cells (grownCap w (n + k) old e - (n + k))) e)) row := by
    intro old row
    have hge := grownCap_ge w (n + k) old e
    have hcm : grownCap w (n + k) old e ≤ maxLen := grownCap_le_maxLen w (n + k) old e h63
    refine ⟨⟨hlen, .inr ⟨w.heap.size, _, _, rfl, hbase, heap_alloc_new w.drew _, hge, hcm, ?_, ?_⟩⟩, ⟨rfl, rfl, rfl, by simp, fun j hj _ => Below.heap_alloc w.drew _ j hj⟩⟩
    · simp only [Array.size_append, List.size_toArray, size_zeroCells, hzc, hown.1]
      simp; omega
    · simp only [Array.toList_append, hzc, zeroCells_one]
      rw [← hlen]
      exact List.take_left
  rcases hown.2 with ⟨rfl, rfl⟩ | ⟨g, cap, cur, rfl, hbg, hg, hnc, hcm, hcs, htake⟩
  · have hx : xs = [] := List.eq_nil_of_length_eq_zero (by simpa using hown.1)
    subst hx
    by_cases hk : k = 0
    · subst hk
      refine ⟨.slice none 0 0, w, ?_, World.ownsRow_nil w base e 1, ⟨rfl, rfl, rfl, Nat.le_refl _, fun _ _ _ => rfl⟩⟩
      simp [Builtin.append_, run_underlying ht, run_underlying htn, sizeOf, typeInfo, hi, asInt, asIntOf, hw0]
    · have hr := Lib.run_append_nil_zeros (P := P) w t tn ty e i z kq kn ht htn hi hz k (by omega) (by omega) (by omega) h48
      have hgr := grown 0 (Value.ownBlock (.slice none 0 0))
      simp only [Nat.zero_add, List.nil_append, Array.empty_append] at hgr ⊢
      exact ⟨_, _, hr, hgr.1, hgr.2⟩
  · by_cases hroom : n + k ≤ cap
    · have hst := run_storeCells_at P g n e (List.replicate k z) 0 cur w hg (by simp only [Nat.add_zero, List.length_replicate]; omega) (by intro u hu; rw [List.eq_of_mem_replicate hu]; exact hone)
      simp only [Nat.add_zero] at hst
      have hr : (Builtin.append_ #[t, tn] ty #[.slice (some ⟨g, 0, none⟩) n cap, .int kq k]).run P w = .ok (.slice (some ⟨g, 0, none⟩) (n + k) cap) (w.setRow g (cur.toList.take n ++ List.replicate k z ++ cur.toList.drop (n + (List.replicate k z).length)).toArray) := by
        by_cases hk : k = 0
        · subst hk
          simp at hst
          simp [Builtin.append_, run_underlying ht, run_underlying htn, sizeOf, typeInfo, hi, asInt, asIntOf, hw0, hsize, hnc, Addr.add_lit, hst]
        · have hns : ¬ (k * i.size = 0) := by rw [hsize]; omega
          simp [Builtin.append_, run_underlying ht, run_underlying htn, sizeOf, typeInfo, zeroValue, hi, hz, asInt, asIntOf, hw, hsize, hk, hneg, h48i, hroom, Addr.add_lit, hzc, zeroCells_one, hst]
      refine ⟨_, _, hr, ⟨hlen, .inr ⟨g, cap, _, rfl, hbg, setRow_heap w g cur _ e _ hg, hroom, hcm, ?_, ?_⟩⟩, ⟨rfl, rfl, rfl, by simp, fun j _ hj => setRow_other w g j _ (fun e => hj (by simp [Value.ownBlock, e]))⟩⟩
      · simp only [List.size_toArray, List.length_append, List.length_take, List.length_drop, Array.length_toList, List.length_replicate]
        omega
      · have ht' : cur.toList.take n = xs := by simpa using htake
        rw [ht', ← hlen]
        exact List.take_left
    · by_cases hk : k = 0
      · omega
      · have holds : ∀ j u, xs[j]? = some u → w.cell? ((⟨g, 0, none⟩ : Addr).add j) = some u := hown.cells (g := g) rfl
        have hf := run_firstCells_some (P := P) w.drew i.size n ⟨g, 0, none⟩ n cap xs (by rw [hsize]; exact hown.1) holds
        have hr := Lib.run_append_grow_zeros (P := P) w t tn ty e i z kq kn ht htn hi hz (some ⟨g, 0, none⟩) n cap xs hf k (by omega) (by omega) (by omega) (by omega) h48 (growslice_fits (by omega) hbytes)
        have hgr := grown cap (Value.ownBlock (.slice (some ⟨g, 0, none⟩) n cap))
        exact ⟨_, _, hr, hgr.1, hgr.2⟩

theorem wpList_append_zeros {P : Program} (w : World) {ops : Array Oper} {rest : List Oper} {o : Oper} {a : Act} {Q : Exit → Act → World → Prop} (hgd : o.guard = none) (s x : Operand) (t tn : TypeId)
    (ho : o.op = .call { callee := .builtin .append, args := #[s, x], argTypes := #[t, tn] })
    (base : Nat) (e : TypeId) (i : TypeInfo) (z : Value) (kq kn : IntKind) (ht : P.underlying t = some (.slice e)) (htn : P.underlying tn = some (.int kn))
    (hi : P.info? e = some i) (hz : i.zero = some z) (hsize : i.size = 1) (hzc : z.cells = #[z]) (hone : z.oneCell' = true)
    (v : Value) (n : Nat) (xs : List Value) (hs : a.eval s = v) (hown : w.ownsRow base e 1 v n xs) (k : Nat) (K : Int) (hx : a.eval x = .int kq K) (hK : K = (k : Int)) (h63 : n + k ≤ maxLen) (hbytes : (n + k) * i.bytes ≤ 140737488355328) (hbase : base ≤ w.heap.size)
    (h : ∀ v' w', w'.ownsRow base e 1 v' (n + k) (xs ++ List.replicate k z) → w.grownBy w' v.ownBlock → wpList P ops Q rest (a.put o.dst v') w') : wpList P ops Q (o :: rest) a w := by
  subst hK
  obtain ⟨v', w', hr, h1, h2⟩ := run_append_zeros_own (P := P) w base t tn o.type e i z kq kn ht htn hi hz hsize hzc hone v n xs hown k h63 hbytes hbase
  exact Lib.wpList_append_run w hgd s x t tn ho v (.int kq k) hs hx v' w' hr (h v' w' h1 h2)
end Go.Proofs.YtpimcbncmfpdhaaGreatDoor
/-
  Laws of no function: slices of 32-bit words that a call reads or makes: what reads as words, what the call owns, append onto an owned row, of words and of zeros. Conditions: Go's own limits on sizes.
-/
namespace Go.Proofs.YtpimcbncmfpdhaaGreatDoor
open Go.RowKit

theorem infoU32 : (Tryz.prog.info? 62).map (fun i => (i.zero, i.size, i.bytes)) = some (some (.int .u32 0), 1, 4) := by kernel_rfl

/-- The slice value v reads as the words zs. -/
def IsWords (w : World) (v : Value) (zs : List Int) : Prop :=
  (v = .slice none 0 0 ∧ zs = []) ∨ ∃ x cap, v = .slice (some x) zs.length cap ∧ zs.length ≤ cap ∧ cap ≤ maxLen ∧ ∀ i, i < zs.length → w.cell? (x.add i) = some (.int .u32 (zs.getD i 0))

/-- The call that began in W owns v, n words xs; nothing older than W has turned. -/
def Own (W w : World) (v : Value) (n : Nat) (xs : List Int) : Prop :=
  w.ownsRow W.heap.size 62 1 v n (xs.map (Value.int .u32)) ∧ Below W.heap.size W w

theorem Own.length {W w : World} {v : Value} {n : Nat} {xs : List Int} (h : Own W w v n xs) : xs.length = n := by
  have := h.1.1; simpa using this

theorem Own.words {W w : World} {v : Value} {n : Nat} {xs : List Int} (h : Own W w v n xs) : IsWords w v xs := by
  have hl := h.length
  rcases h.1.2 with ⟨rfl, rfl⟩ | ⟨g, cap, cur, rfl, -, hg, hnc, hcm, -, -⟩
  · exact .inl ⟨rfl, List.eq_nil_of_length_eq_zero hl⟩
  · refine .inr ⟨⟨g, 0, none⟩, cap, by rw [hl], by omega, hcm, fun i hi => ?_⟩
    refine h.1.cells (g := g) rfl i _ ?_
    simp [hi]

theorem IsWords.below {w w' : World} {v : Value} {zs : List Int} (h : IsWords w v zs) (hb : Below w.heap.size w w') : IsWords w' v zs := by
  rcases h with h | ⟨x, cap, rfl, h1, h2, hc⟩
  · exact .inl h
  · refine .inr ⟨x, cap, rfl, h1, h2, fun i hi => ?_⟩
    have hci := hc i hi
    rw [hb.cell (p := x.add i) (World.block_lt_of_cell? w _ hci)]
    exact hci

theorem IsWords.lit {w : World} {v : Value} {zs : List Int} (h : IsWords w v zs) : ∃ a c, v = .slice a zs.length c := by
  rcases h with ⟨rfl, rfl⟩ | ⟨x, cap, rfl, -⟩
  · exact ⟨none, 0, rfl⟩
  · exact ⟨_, _, rfl⟩

theorem Own.lit {W w : World} {v : Value} {n : Nat} {xs : List Int} (h : Own W w v n xs) : ∃ a c, v = .slice a n c := by
  obtain ⟨a, c, e⟩ := h.words.lit
  exact ⟨a, c, by rw [e, h.length]⟩

theorem Own.below {W w : World} {v : Value} {n : Nat} {xs : List Int} (h : Own W w v n xs) : Below W.heap.size W w := h.2

theorem oneCells (ys : List Int) : ∀ u ∈ ys.map (Value.int .u32), u.oneCell' = true := by
  intro u hu
  obtain ⟨y, -, rfl⟩ := List.mem_map.1 hu
  rfl

theorem below_grown {W w w' : World} {v : Value} {n : Nat} {xs : List Int} (h : Own W w v n xs) (hg : w.grownBy w' v.ownBlock) : Below W.heap.size W w' :=
  h.2.grown hg h.2.size (fun k hk => (h.1.lt k hk).1)

/-- append(v, vx...), v the call's own. -/
theorem wpl_append_words {ops : Array Oper} {rest : List Oper} {o : Oper} {a : Act} {Q : Exit → Act → World → Prop} (s x : Operand)
    (ho : o.op = .call { callee := .builtin .append, args := #[s, x], argTypes := #[22, 22] }) (hgd : Region.wanted o (yielded ops a.tmps) = true)
    (W w : World) (v vx : Value) (n m : Nat) (xs ys : List Int) (hs : a.eval s = v) (hx : a.eval x = vx) (hown : Own W w v n xs) (hsrc : IsWords w vx ys) (hm : ys.length = m) (N : Nat) (hN : n + m = N) (hle : N ≤ 35184372088832)
    (h : ∀ a' c' w', Own W w' (.slice a' N c') N (xs ++ ys) → w.grownBy w' v.ownBlock → wpList Tryz.prog ops Q rest (a.put o.dst (.slice a' N c')) w') : wpList Tryz.prog ops Q (o :: rest) a w := by
  subst hN
  obtain ⟨i, hi, hz, hs1, hby⟩ := info_parts infoU32
  have hmax : n + m ≤ maxLen := by unfold maxLen; omega
  refine wpList_step fun K hK => ?_
  rw [if_pos hgd]
  rcases hsrc with ⟨rfl, rfl⟩ | ⟨ad, c, rfl, -, -, hc⟩
  · have hrun := run_append_owned_none (P := Tryz.prog) (w := w) W.heap.size 22 o.type 62 i 1 Tryz.underlying22 hi v n _ hown.1
    obtain ⟨a', c', rfl⟩ := hown.lit
    subst hm
    have hK' := hK _ _ (h a' c' w (by simpa using hown) ⟨rfl, rfl, rfl, Nat.le_refl _, fun _ _ _ => rfl⟩)
    unfold Oper.wp
    simp [execOp, ho, resolve, invoke, builtin, hs, hx, hrun, Result.andThen]
    have hK2 : K (a.put o.dst (.slice a' n c')) w := by simpa using hK'
    exact hK2
  · refine wp_append_own (P := Tryz.prog) w s x 22 ho W.heap.size 62 i (.int .u32 0) 1 4 Tryz.underlying22 hi hz hs1 hby rfl (by decide) v n _ hs hown.1 ad ys.length c (ys.map (Value.int .u32)) hx (by simp) ?_ (oneCells ys) (by omega) (by omega) hown.2.size ?_
    · intro j u hj
      rw [List.getElem?_map] at hj
      obtain ⟨y, hy, rfl⟩ := Option.map_eq_some_iff.1 hj
      have hlt : j < ys.length := (List.getElem?_eq_some_iff.1 hy).1
      rw [hc j hlt]
      simp [List.getD_eq_getElem?_getD, hy]
    · intro v' w' h1 h2 _
      subst hm
      have hnew : Own W w' v' (n + ys.length) (xs ++ ys) := ⟨by rw [List.map_append]; exact h1, below_grown hown h2⟩
      obtain ⟨a', c', rfl⟩ := hnew.lit
      exact hK _ _ (h a' c' w' hnew h2)

/-- append(v, make([]uint32, k)...), v the call's own. -/
theorem wpl_append_zeros {ops : Array Oper} {rest : List Oper} {o : Oper} {a : Act} {Q : Exit → Act → World → Prop} (s x : Operand)
    (ho : o.op = .call { callee := .builtin .append, args := #[s, x], argTypes := #[22, 3] }) (hgd : Region.wanted o (yielded ops a.tmps) = true)
    (W w : World) (v : Value) (n k : Nat) (xs : List Int) (kk : Int) (hs : a.eval s = v) (hx : a.eval x = .int .i64 kk) (hkk : kk = k) (hown : Own W w v n xs) (N : Nat) (hN : n + k = N) (hle : N ≤ 35184372088832)
    (h : ∀ a' c' w', Own W w' (.slice a' N c') N (xs ++ List.replicate k 0) → w.grownBy w' v.ownBlock → wpList Tryz.prog ops Q rest (a.put o.dst (.slice a' N c')) w') : wpList Tryz.prog ops Q (o :: rest) a w := by
  subst hN
  obtain ⟨i, hi, hz, hs1, hby⟩ := info_parts infoU32
  have hmax : n + k ≤ maxLen := by unfold maxLen; omega
  subst hkk
  obtain ⟨v', w', hr, h1, h2⟩ := run_append_zeros_own (P := Tryz.prog) w W.heap.size 22 3 o.type 62 i (.int .u32 0) .i64 .i64 Tryz.underlying22 Tryz.underlying3 hi hz hs1 rfl rfl v n _ hown.1 k hmax (by rw [hby]; omega) hown.2.size
  have hnew : Own W w' v' (n + k) (xs ++ List.replicate k 0) := ⟨by rw [List.map_append, List.map_replicate]; exact h1, below_grown hown h2⟩
  obtain ⟨a', c', rfl⟩ := hnew.lit
  refine wpList_step fun K hK => ?_
  rw [if_pos hgd]
  exact Lib.wp_append_run w s x 22 3 ho v (.int .i64 k) hs hx _ w' hr (hK _ _ (h a' c' w' hnew h2))

theorem Own.alloc {W w : World} {v : Value} {n : Nat} {xs : List Int} (h : Own W w v n xs) (o : Obj) : Own W (w.alloc o) v n xs := ⟨h.1.alloc o, h.2.alloc h.2.size o⟩
theorem Own.drew {W w : World} {v : Value} {n : Nat} {xs : List Int} (h : Own W w v n xs) : Own W w.drew v n xs := ⟨h.1, h.2.drew⟩

/-- A literal of n words in a new block reads as these words. -/
theorem lit_words (w : World) (xs : List Int) (n : Nat) (hn : xs.length = n) (hm : n ≤ maxLen) :
    IsWords (w.alloc (.cells (xs.map (Value.int .u32)).toArray 62)) (.slice (some ⟨w.heap.size, 0, none⟩) n n) xs := by
  refine .inr ⟨_, n, by rw [hn], by omega, hm, fun i hi => ?_⟩
  rw [Go.WideShapes.add_plain]
  simp [hi]

/-- A literal of n words in a new block is the call's own. -/
theorem own_lit (W w : World) (xs : List Int) (n : Nat) (hb : Below W.heap.size W w) (hn : xs.length = n) (hm : n ≤ maxLen) :
    Own W (w.alloc (.cells (xs.map (Value.int .u32)).toArray 62)) (.slice (some ⟨w.heap.size, 0, none⟩) n n) n xs :=
  ⟨by simpa using World.ownsRow_lit (base := W.heap.size) (e := 62) (size := 1) w (xs.map (Value.int .u32)).toArray n hb.size hm (by simp [hn]), hb.alloc hb.size _⟩
end Go.Proofs.YtpimcbncmfpdhaaGreatDoor
/-
  Laws of no function: what reads as words (slices that came in, slices that a call made), how many words there are without the 0s at the end. Conditions: Go's own limits on sizes.
-/
namespace Go.Proofs.YtpimcbncmfpdhaaGreatDoor
open Go.RowKit

theorem wf_u32 {a : Int} (h : (Lit.int .u32 a).wf = true) : 0 ≤ a ∧ a < 4294967296 := by
  simp [Lit.wf, IntKind.min, IntKind.max, IntKind.signed, IntKind.bits] at h; omega

theorem bcell {W w1 : World} (hb : Below W.heap.size W w1) : (∀ b o, b < W.heap.size → w1.cell? ⟨b, o, none⟩ = W.cell? ⟨b, o, none⟩) ∧ (∀ b o, b < W.heap.size → w1.frozen? ⟨b, o, none⟩ = W.frozen? ⟨b, o, none⟩) :=
  ⟨fun b o h => hb.cell (p := ⟨b, o, none⟩) h, fun b o h => hb.frozen (p := ⟨b, o, none⟩) h⟩

theorem below_more {a b c : World} (h : Below a.heap.size a b) (k : Below b.heap.size b c) : Below a.heap.size a c := h.trans (k.mono h.size)

/-- What the frame of a statement says of a slice of integers that came in. -/
def CameIn (k : IntKind) (w : World) (a : Option Addr) (len cap : Nat) (zs : List Int) : Prop :=
  (a = none ∧ len = 0 ∧ cap = 0 ∧ zs = []) ∨
  ∃ x, a = some x ∧ len ≤ cap ∧ cap ≤ maxLen ∧ zs.length = cap ∧ (∀ i, i < zs.length → w.cell? (x.add i) = some (.int k (zs.getD i 0))) ∧ ∀ n ∈ zs, (Lit.int k n).wf = true

theorem came_reads {k : IntKind} {w : World} {a : Option Addr} {len cap : Nat} {zs : List Int} (h : CameIn k w a len cap zs) :
    Reads k w a len (zs.take len) ∧ len ≤ 9223372036854775807 ∧ len ≤ cap ∧ ∀ n ∈ zs.take len, (Lit.int k n).wf = true := by
  rcases h with ⟨rfl, rfl, rfl, rfl⟩ | ⟨x, rfl, hl, hm, hz, hc, hw⟩
  · exact ⟨⟨rfl, .inl rfl⟩, by omega, by omega, by simp⟩
  · refine ⟨⟨by simp; omega, ?_⟩, by unfold maxLen at hm; omega, hl, fun n hn => hw n (List.mem_of_mem_take hn)⟩
    by_cases h0 : len = 0
    · exact .inl h0
    · obtain ⟨b, off, rfl, hc'⟩ := Go.ints_at hc (by omega)
      refine .inr ⟨b, off, rfl, fun i hi => ?_⟩
      rw [hc' i (by omega)]
      simp [List.getD_eq_getElem?_getD, hi]

theorem Reads.below {k : IntKind} {w w' : World} {a : Option Addr} {n : Nat} {zs : List Int} (h : Reads k w a n zs) (hb : Below w.heap.size w w') : Reads k w' a n zs := by
  refine ⟨h.1, h.2.imp id ?_⟩
  rintro ⟨b, off, rfl, hc⟩
  refine ⟨b, off, rfl, fun i hi => ?_⟩
  have hci := hc i hi
  rw [hb.cell (p := ⟨b, off + i, none⟩) (World.block_lt_of_cell? w _ hci)]
  exact hci

theorem IsWords.reads {w : World} {a : Option Addr} {n c : Nat} {zs : List Int} (h : IsWords w (.slice a n c) zs) : Reads .u32 w a n zs ∧ n ≤ 9223372036854775807 := by
  rcases h with ⟨e, rfl⟩ | ⟨x, cap, e, h1, h2, hc⟩
  · simp only [Value.slice.injEq] at e
    obtain ⟨rfl, rfl, rfl⟩ := e
    exact ⟨⟨rfl, .inl rfl⟩, by omega⟩
  · simp only [Value.slice.injEq] at e
    obtain ⟨rfl, rfl, rfl⟩ := e
    refine ⟨⟨rfl, ?_⟩, by unfold maxLen at h2; omega⟩
    by_cases h0 : zs.length = 0
    · exact .inl h0
    · obtain ⟨b, off, rfl, hc'⟩ := Go.ints_at hc (by omega)
      exact .inr ⟨b, off, rfl, hc'⟩

theorem came_words {w : World} {a : Option Addr} {len cap : Nat} {zs : List Int} (h : CameIn .u32 w a len cap zs) : IsWords w (.slice a len cap) (zs.take len) := by
  rcases h with ⟨rfl, rfl, rfl, rfl⟩ | ⟨x, rfl, hl, hm, hz, hc, hw⟩
  · exact .inl ⟨rfl, rfl⟩
  · have e : (zs.take len).length = len := by simp; omega
    refine .inr ⟨x, cap, by rw [e], by omega, hm, fun i hi => ?_⟩
    rw [e] at hi
    rw [hc i (by omega)]
    simp [List.getD_eq_getElem?_getD, hi]

/-- limb.Low of whatever reads as words. -/
theorem limb_low_words (a : Option Addr) (n cap : Nat) (zs : List Int) (w : World) (h : IsWords w (.slice a n cap) zs) :
    Calls Tryz.prog 84 #[.slice a n cap] w fun e w' => e = .returned (.int .i64 (lowN zs n)) ∧ w = w' :=
  limb_low a n cap zs w h.reads.1 h.reads.2

theorem lowN_append (zs ys : List Int) : ∀ n, n ≤ zs.length → lowN (zs ++ ys) n = lowN zs n
  | 0, _ => rfl
  | n + 1, h => by
    have e : (zs ++ ys).getD n 0 = zs.getD n 0 := by
      simp [List.getD_eq_getElem?_getD, List.getElem?_append, show n < zs.length by omega]
    simp only [lowN, e, lowN_append zs ys n (by omega)]

theorem lowN_zeros (zs : List Int) (k : Nat) : ∀ j, j ≤ k → lowN (zs ++ List.replicate k 0) (zs.length + j) = lowN zs zs.length
  | 0, _ => lowN_append zs _ _ (Nat.le_refl _)
  | j + 1, h => by
    have e : (zs ++ List.replicate k (0 : Int)).getD (zs.length + j) 0 = 0 := by
      rw [List.getD_eq_getElem?_getD, List.getElem?_append_right (by omega)]
      simp [show j < k by omega]
    rw [← Nat.add_assoc, lowN_zero e, lowN_zeros zs k j (by omega)]

theorem lowN_last (zs : List Int) (x : Int) (hx : x ≠ 0) : lowN (zs ++ [x]) (zs.length + 1) = zs.length + 1 :=
  lowN_keep (by simpa [List.getD_eq_getElem?_getD] using hx)

theorem lowN_top (zs : List Int) : ∀ n, lowN zs n = 0 ∨ zs.getD (lowN zs n - 1) 0 ≠ 0
  | 0 => .inl rfl
  | n + 1 => by
    by_cases h : zs.getD n 0 = 0
    · rw [lowN_zero h]; exact lowN_top zs n
    · rw [lowN_keep h]; exact .inr (by simpa using h)

theorem lowN_again (zs : List Int) (n : Nat) : lowN zs (lowN zs n) = lowN zs n := by
  rcases lowN_top zs n with h | h
  · rw [h]; rfl
  · match hm : lowN zs n with
    | 0 => rfl
    | m + 1 => rw [hm] at h; exact lowN_keep (by simpa using h)

theorem lowN_take (zs : List Int) (k : Nat) : ∀ n, n ≤ k → lowN (zs.take k) n = lowN zs n
  | 0, _ => rfl
  | n + 1, h => by
    have e : (zs.take k).getD n 0 = zs.getD n 0 := by
      simp [List.getD_eq_getElem?_getD, show n < k by omega]
    simp only [lowN, e, lowN_take zs k n (by omega)]

end Go.Proofs.YtpimcbncmfpdhaaGreatDoor
/-
  Plain mathematics, of no program: lists of 32-bit words as numbers; the one list of a number; how many bits; what adding, taking away and holding against each other do to them. Conditions: each word is in its range.
-/
namespace Go.Proofs.YtpimcbncmfpdhaaGreatDoor

/-- The number of a list of words, the lowest one first. -/
def val : List Int → Nat
  | [] => 0
  | z :: zs => z.toNat + 4294967296 * val zs

/-- Each is a word. -/
def Wd (zs : List Int) : Prop := ∀ z ∈ zs, 0 ≤ z ∧ z < 4294967296

/-- The list of a number, without a 0 at its end. -/
def natOf (n : Nat) : List Int := if h : n = 0 then [] else ((n % 4294967296 : Nat) : Int) :: natOf (n / 4294967296)

/-- How many words a number has. -/
def nl (n : Nat) : Nat := (natOf n).length

/-- How many bits a number has. -/
def nbits (n : Nat) : Nat := if h : n = 0 then 0 else 1 + nbits (n / 2)

theorem natOf_zero : natOf 0 = [] := by rw [natOf]; simp
theorem natOf_pos {n : Nat} (h : n ≠ 0) : natOf n = ((n % 4294967296 : Nat) : Int) :: natOf (n / 4294967296) := by rw [natOf]; simp [h]

theorem val_natOf (n : Nat) : val (natOf n) = n := by
  induction n using Nat.strongRecOn with
  | _ n ih =>
    by_cases h : n = 0
    · rw [h, natOf_zero]; rfl
    · rw [natOf_pos h, val, ih (n / 4294967296) (by omega)]; omega

theorem wd_nil : Wd [] := by intro z hz; simp at hz
theorem wd_cons {z : Int} {zs : List Int} (h : Wd (z :: zs)) : 0 ≤ z ∧ z < 4294967296 ∧ Wd zs :=
  ⟨(h z (by simp)).1, (h z (by simp)).2, fun y hy => h y (by simp [hy])⟩
theorem wd_cons' {z : Int} {zs : List Int} (h0 : 0 ≤ z) (h1 : z < 4294967296) (h : Wd zs) : Wd (z :: zs) := by
  intro y hy
  rcases List.mem_cons.1 hy with rfl | hy
  · exact ⟨h0, h1⟩
  · exact h y hy
theorem wd_append {a b : List Int} (ha : Wd a) (hb : Wd b) : Wd (a ++ b) := by
  intro z hz
  rcases List.mem_append.1 hz with h | h
  · exact ha z h
  · exact hb z h
theorem wd_take {a : List Int} (ha : Wd a) (k : Nat) : Wd (a.take k) := fun z hz => ha z (List.mem_of_mem_take hz)
theorem wd_drop {a : List Int} (ha : Wd a) (k : Nat) : Wd (a.drop k) := fun z hz => ha z (List.mem_of_mem_drop hz)
theorem wd_zeros (k : Nat) : Wd (List.replicate k 0) := fun z hz => by rw [List.eq_of_mem_replicate hz]; omega
theorem wd_set {a : List Int} (ha : Wd a) (k : Nat) {y : Int} (h0 : 0 ≤ y) (h1 : y < 4294967296) : Wd (a.set k y) := by
  intro z hz
  rcases List.mem_or_eq_of_mem_set hz with h | rfl
  · exact ha z h
  · exact ⟨h0, h1⟩
theorem wd_one {z : Int} (h0 : 0 ≤ z) (h1 : z < 4294967296) : Wd [z] := wd_cons' h0 h1 wd_nil
theorem wd_getD {a : List Int} (ha : Wd a) (k : Nat) : 0 ≤ a.getD k 0 ∧ a.getD k 0 < 4294967296 := by
  by_cases h : k < a.length
  · have : a.getD k 0 = a[k] := by simp [List.getD_eq_getElem?_getD, h]
    rw [this]; exact ha _ (List.getElem_mem h)
  · have : a.getD k 0 = 0 := by simp [List.getD_eq_getElem?_getD, List.getElem?_eq_none (Nat.le_of_not_lt h)]
    rw [this]; omega
theorem wd_natOf (n : Nat) : Wd (natOf n) := by
  induction n using Nat.strongRecOn with
  | _ n ih =>
    by_cases h : n = 0
    · rw [h, natOf_zero]; exact wd_nil
    · rw [natOf_pos h]; exact wd_cons' (by omega) (by omega) (ih _ (by omega))

theorem lowN_cons (z : Int) (zs : List Int) : ∀ n, lowN (z :: zs) (n + 1) = if lowN zs n = 0 then (if z = 0 then 0 else 1) else lowN zs n + 1
  | 0 => by simp [lowN]
  | n + 1 => by
    have ih := lowN_cons z zs n
    have e : (z :: zs).getD (n + 1) 0 = zs.getD n 0 := by simp [List.getD_eq_getElem?_getD]
    by_cases h : zs.getD n 0 = 0
    · rw [lowN_zero (n := n + 1) (by rw [e]; exact h), lowN_zero h, ih]
    · rw [lowN_keep (n := n + 1) (by rw [e]; exact h), lowN_keep h]; simp

theorem natOf_val (zs : List Int) (h : Wd zs) : natOf (val zs) = zs.take (lowN zs zs.length) := by
  induction zs with
  | nil => simp [val, natOf_zero]
  | cons z zs ih =>
    obtain ⟨h0, h1, hz⟩ := wd_cons h
    have e := ih hz
    have hle := lowN_le zs zs.length
    rw [List.length_cons, lowN_cons]
    by_cases hl : lowN zs zs.length = 0
    · have hv : val zs = 0 := by rw [← val_natOf (val zs), e, hl]; rfl
      rw [if_pos hl]
      by_cases hz0 : z = 0
      · rw [if_pos hz0]; simp [val, hv, hz0, natOf_zero]
      · rw [if_neg hz0]
        have hn : z.toNat ≠ 0 := by omega
        have e1 : val (z :: zs) = z.toNat := by simp [val, hv]
        rw [e1, natOf_pos hn, show z.toNat / 4294967296 = 0 by omega, natOf_zero]
        simp; omega
    · have hv : val zs ≠ 0 := by
        intro hv
        rw [hv, natOf_zero] at e
        have := congrArg List.length e
        simp [List.length_take] at this
        omega
      rw [if_neg hl]
      have hn : val (z :: zs) ≠ 0 := by simp only [val]; omega
      rw [natOf_pos hn, List.take_succ_cons]
      have e1 : val (z :: zs) % 4294967296 = z.toNat := by simp only [val]; omega
      have e2 : val (z :: zs) / 4294967296 = val zs := by simp only [val]; omega
      rw [e1, e2, e]
      congr 1; omega

theorem nl_val (zs : List Int) (h : Wd zs) : nl (val zs) = lowN zs zs.length := by
  unfold nl; rw [natOf_val zs h, List.length_take]; have := lowN_le zs zs.length; omega
theorem nl_val_le (zs : List Int) (h : Wd zs) : nl (val zs) ≤ zs.length := by rw [nl_val zs h]; exact lowN_le _ _
theorem val_take_low (zs : List Int) (h : Wd zs) : val (zs.take (lowN zs zs.length)) = val zs := by rw [← natOf_val zs h, val_natOf]
theorem natOf_take (zs : List Int) (h : Wd zs) : natOf (val zs) = zs.take (nl (val zs)) := by rw [nl_val zs h]; exact natOf_val zs h

theorem val_lt (zs : List Int) (h : Wd zs) : val zs < 4294967296 ^ zs.length := by
  induction zs with
  | nil => simp [val]
  | cons z zs ih =>
    obtain ⟨h0, h1, hz⟩ := wd_cons h
    have := ih hz
    rw [List.length_cons, Nat.pow_succ, val]
    generalize 4294967296 ^ zs.length = p at this
    omega

theorem nl_zero : nl 0 = 0 := by unfold nl; rw [natOf_zero]; rfl
theorem nl_le : ∀ (k n : Nat), n < 4294967296 ^ k → nl n ≤ k
  | 0, n, h => by rw [Nat.pow_zero] at h; rw [show n = 0 by omega, nl_zero]; omega
  | k + 1, n, h => by
    by_cases h0 : n = 0
    · rw [h0, nl_zero]; omega
    · unfold nl
      rw [natOf_pos h0, List.length_cons]
      have : nl (n / 4294967296) ≤ k := nl_le k _ (by rw [Nat.pow_succ] at h; generalize 4294967296 ^ k = p at h ⊢; omega)
      unfold nl at this; omega
theorem lt_nl (n : Nat) : n < 4294967296 ^ nl n := by
  have := val_lt (natOf n) (wd_natOf n)
  rw [val_natOf] at this; exact this
theorem nl_mono {a b : Nat} (h : a ≤ b) : nl a ≤ nl b := nl_le _ _ (Nat.lt_of_le_of_lt h (lt_nl b))
theorem nl_add (a b : Nat) : nl (a + b) ≤ max (nl a) (nl b) + 1 := by
  refine nl_le _ _ ?_
  have h1 : a < 4294967296 ^ max (nl a) (nl b) := Nat.lt_of_lt_of_le (lt_nl a) (Nat.pow_le_pow_right (by omega) (Nat.le_max_left _ _))
  have h2 : b < 4294967296 ^ max (nl a) (nl b) := Nat.lt_of_lt_of_le (lt_nl b) (Nat.pow_le_pow_right (by omega) (Nat.le_max_right _ _))
  rw [Nat.pow_succ]
  generalize 4294967296 ^ max (nl a) (nl b) = p at h1 h2 ⊢
  omega
theorem lt_of_nl {a b : Nat} (h : nl a < nl b) : a < b := by
  rcases Nat.lt_or_ge a b with h1 | h1
  · exact h1
  · have := nl_mono h1; omega

theorem nl_big (n : Nat) (h : 18446744073709551616 ≤ n) : 2 < nl n := by
  rcases Nat.lt_or_ge 2 (nl n) with h1 | h1
  · exact h1
  · have := lt_nl n
    have : 4294967296 ^ nl n ≤ 4294967296 ^ 2 := Nat.pow_le_pow_right (by omega) h1
    omega

theorem val_append (a b : List Int) : val (a ++ b) = val a + 4294967296 ^ a.length * val b := by
  induction a with
  | nil => simp [val]
  | cons z a ih =>
    rw [List.cons_append, val, val, ih, List.length_cons, Nat.pow_succ, Nat.mul_comm (4294967296 ^ a.length) 4294967296, Nat.mul_assoc, Nat.mul_add]
    omega
theorem val_snoc (a : List Int) (z : Int) : val (a ++ [z]) = val a + z.toNat * 4294967296 ^ a.length := by
  rw [val_append]; simp [val, Nat.mul_comm]
theorem val_zeros (k : Nat) : val (List.replicate k 0) = 0 := by
  induction k with
  | zero => rfl
  | succ k ih => rw [List.replicate_succ, val, ih]; rfl
theorem val_append_zeros (a : List Int) (k : Nat) : val (a ++ List.replicate k 0) = val a := by rw [val_append, val_zeros]; simp
theorem val_split (a : List Int) (m : Nat) : val a = val (a.take m) + 4294967296 ^ m * val (a.drop m) := by
  by_cases h : m ≤ a.length
  · have := val_append (a.take m) (a.drop m)
    rw [List.take_append_drop, List.length_take, Nat.min_eq_left h] at this
    exact this
  · rw [List.take_of_length_le (by omega), List.drop_eq_nil_of_le (by omega)]; simp [val]
theorem val_drop (a : List Int) (m : Nat) : val (a.drop m) = (a.getD m 0).toNat + 4294967296 * val (a.drop (m + 1)) := by
  by_cases h : m < a.length
  · rw [List.drop_eq_getElem_cons h, val]; simp [List.getD_eq_getElem?_getD, h]
  · rw [List.drop_eq_nil_of_le (by omega), List.drop_eq_nil_of_le (by omega)]
    simp [val, List.getD_eq_getElem?_getD, List.getElem?_eq_none (Nat.le_of_not_lt h)]
theorem val_take_succ (a : List Int) (k : Nat) : val (a.take (k + 1)) = val (a.take k) + (a.getD k 0).toNat * 4294967296 ^ k := by
  by_cases h : k < a.length
  · rw [List.take_succ_eq_append_getElem h, val_snoc, List.length_take, Nat.min_eq_left (by omega)]
    simp [List.getD_eq_getElem?_getD, h]
  · rw [List.take_of_length_le (by omega), List.take_of_length_le (by omega)]
    simp [List.getD_eq_getElem?_getD, List.getElem?_eq_none (Nat.le_of_not_lt h)]
theorem val_set : ∀ (a : List Int) (k : Nat) (y : Int), k < a.length → val (a.set k y) + (a.getD k 0).toNat * 4294967296 ^ k = val a + y.toNat * 4294967296 ^ k
  | [], k, y, h => by simp at h
  | z :: a, 0, y, h => by simp [val]; omega
  | z :: a, k + 1, y, h => by
    have ih := val_set a k y (by simpa using h)
    have e : (z :: a).getD (k + 1) 0 = a.getD k 0 := by simp [List.getD_eq_getElem?_getD]
    rw [List.set_cons_succ, val, val, e, Nat.pow_succ, ← Nat.mul_assoc, ← Nat.mul_assoc]
    generalize (a.getD k 0).toNat * 4294967296 ^ k = p at ih ⊢
    generalize y.toNat * 4294967296 ^ k = q at ih ⊢
    omega
theorem val_take_lt (a : List Int) (h : Wd a) (m : Nat) : val (a.take m) < 4294967296 ^ m := by
  have h1 := val_lt (a.take m) (wd_take h m)
  exact Nat.lt_of_lt_of_le h1 (Nat.pow_le_pow_right (by omega) (by rw [List.length_take]; omega))
theorem val_take_all (a : List Int) (m : Nat) (hm : val a < 4294967296 ^ m) : val (a.take m) = val a := by
  have h1 := val_split a m
  have : val (a.drop m) = 0 := by
    rcases Nat.eq_zero_or_pos (val (a.drop m)) with h | h
    · exact h
    · have := Nat.mul_le_mul_left (4294967296 ^ m) h
      omega
  rw [this] at h1; omega
theorem val_take_le (a : List Int) (m : Nat) : val (a.take m) ≤ val a := by
  have h1 := val_split a m; omega

/-- Where the higher words are one, a lower word decides. -/
theorem val_decides (a b : List Int) (ha : Wd a) (m : Nat) (hd : val (a.drop (m + 1)) = val (b.drop (m + 1))) (hm : a.getD m 0 < b.getD m 0) : val a < val b := by
  have h1 := val_split a m
  have h2 := val_split b m
  have h3 := val_take_lt a ha m
  have h4 := (wd_getD ha m).1
  rw [val_drop, hd] at h1
  rw [val_drop b m] at h2
  have h5 : (a.getD m 0).toNat + 4294967296 * val (b.drop (m + 1)) + 1 ≤ (b.getD m 0).toNat + 4294967296 * val (b.drop (m + 1)) := by omega
  have h6 := Nat.mul_le_mul_left (4294967296 ^ m) h5
  rw [Nat.mul_add, Nat.mul_one] at h6
  omega

/-- One word's step of a sum. -/
theorem add_step {p : Nat} {S S' A B x y b c c' : Nat} (hs : S' + x * p = S + y * p) (hi : S + c * p = A + B) (hy : y + 4294967296 * c' = x + b + c) :
    S' + c' * (p * 4294967296) = A + (B + b * p) := by
  have e : (y + 4294967296 * c') * p = (x + b + c) * p := by rw [hy]
  rw [Nat.add_mul, Nat.add_mul, Nat.add_mul] at e
  have e2 : c' * (p * 4294967296) = 4294967296 * c' * p := by rw [Nat.mul_comm p, ← Nat.mul_assoc, Nat.mul_comm c']
  rw [e2]; omega
/-- One word's step of a difference. -/
theorem sub_step {p : Nat} {S S' A B x y b c c' : Nat} (hs : S' + x * p = S + y * p) (hi : S + B = A + c * p) (hy : y + b + c = x + 4294967296 * c') :
    S' + (B + b * p) = A + c' * (p * 4294967296) := by
  have e : (y + b + c) * p = (x + 4294967296 * c') * p := by rw [hy]
  rw [Nat.add_mul, Nat.add_mul, Nat.add_mul] at e
  have e2 : c' * (p * 4294967296) = 4294967296 * c' * p := by rw [Nat.mul_comm p, ← Nat.mul_assoc, Nat.mul_comm c']
  rw [e2]; omega

theorem natOf_inj {a b : Nat} (h : natOf a = natOf b) : a = b := by rw [← val_natOf a, h, val_natOf]

theorem nbits_zero : nbits 0 = 0 := by rw [nbits]; simp
theorem nbits_pos {n : Nat} (h : n ≠ 0) : nbits n = 1 + nbits (n / 2) := by rw [nbits]; simp [h]
theorem nbits_shift : ∀ (k x : Nat), 2 ^ k ≤ x → nbits x = k + nbits (x / 2 ^ k)
  | 0, x, _ => by simp
  | k + 1, x, h => by
    rw [Nat.pow_succ] at h
    have h2 : 2 ^ k ≤ x / 2 := by generalize 2 ^ k = p at h ⊢; omega
    have hp : 0 < 2 ^ k := Nat.pow_pos (by omega)
    rw [nbits_pos (by omega), nbits_shift k (x / 2) h2, Nat.div_div_eq_div_mul, Nat.pow_succ, Nat.mul_comm 2]
    omega
theorem nbits_bitLen (x : Nat) (h : x < 18446744073709551616) : Lib.bitLen x = nbits x := by
  induction x using Nat.strongRecOn with
  | _ x ih =>
    by_cases h0 : x = 0
    · rw [h0, nbits_zero]; rfl
    · rw [nbits_pos h0, Lib.bitLen_half x h0 h, ih (x / 2) (by omega) (by omega)]
theorem lt_nbits (n : Nat) : n < 2 ^ nbits n := by
  induction n using Nat.strongRecOn with
  | _ n ih =>
    by_cases h0 : n = 0
    · rw [h0]; exact Nat.pow_pos (by omega)
    · have := ih (n / 2) (by omega)
      rw [nbits_pos h0, Nat.pow_add]
      generalize 2 ^ nbits (n / 2) = p at this
      omega
theorem nbits_le : ∀ (k n : Nat), n < 2 ^ k → nbits n ≤ k
  | 0, n, h => by rw [Nat.pow_zero] at h; rw [show n = 0 by omega, nbits_zero]; omega
  | k + 1, n, h => by
    by_cases h0 : n = 0
    · rw [h0, nbits_zero]; omega
    · rw [nbits_pos h0]
      have := nbits_le k (n / 2) (by rw [Nat.pow_succ] at h; generalize 2 ^ k = p at h ⊢; omega)
      omega
theorem pow_word (k : Nat) : 4294967296 ^ k = 2 ^ (32 * k) := by rw [Nat.pow_mul]

/-- The bits of a list whose highest word isn't 0. -/
theorem nbits_top (zs : List Int) (h : Wd zs) (k : Nat) (hk : lowN zs zs.length = k + 1) : nbits (val zs) = 32 * k + nbits (zs.getD k 0).toNat := by
  have hl := lowN_le zs zs.length
  have h0 : val zs = val (zs.take (k + 1)) := by rw [← hk, val_take_low zs h]
  have h1 := val_take_succ zs k
  have h2 := val_take_lt zs h k
  have h3 : zs.getD k 0 ≠ 0 := by
    rcases lowN_top zs zs.length with h | h
    · omega
    · rw [hk] at h; simpa using h
  have h4 := (wd_getD h k).1
  have hp : 0 < 4294967296 ^ k := Nat.pow_pos (by omega)
  have h5 : 1 * 4294967296 ^ k ≤ (zs.getD k 0).toNat * 4294967296 ^ k := Nat.mul_le_mul_right _ (by omega)
  have e : val zs / 4294967296 ^ k = (zs.getD k 0).toNat := by
    rw [h0, h1, Nat.add_mul_div_right _ _ hp, Nat.div_eq_of_lt h2]; omega
  rw [nbits_shift (32 * k) (val zs) (by rw [← pow_word]; omega), ← pow_word, e]
theorem nl_pos {A : Nat} (h : 0 < A) : 0 < nl A := by
  rcases Nat.eq_zero_or_pos (nl A) with h0 | h0
  · have := lt_nl A; rw [h0] at this; omega
  · exact h0
end Go.Proofs.YtpimcbncmfpdhaaGreatDoor
/-
  Contracts of package nat's functions right, word, Right and of the standard library's Compare, for every list of words: what each answers; memory stays.
-/
namespace Go.Proofs.YtpimcbncmfpdhaaGreatDoor
open Go.RowKit

theorem IsWords.len {w : World} {a : Option Addr} {n c : Nat} {zs : List Int} (h : IsWords w (.slice a n c) zs) : zs.length = n := h.reads.1.1
theorem IsWords.cap {w : World} {a : Option Addr} {n c : Nat} {zs : List Int} (h : IsWords w (.slice a n c) zs) : n ≤ c ∧ c ≤ 9223372036854775807 := by
  rcases h with ⟨e, rfl⟩ | ⟨x, cap, e, h1, h2, -⟩
  · simp only [Value.slice.injEq] at e; omega
  · simp only [Value.slice.injEq] at e; unfold maxLen at h2; omega

theorem IsWords.take {w : World} {a : Option Addr} {n c : Nat} {zs : List Int} (h : IsWords w (.slice a n c) zs) (k : Nat) (hk : k ≤ n) : IsWords w (.slice a k c) (zs.take k) := by
  have hl := h.len
  rcases h with ⟨e, rfl⟩ | ⟨x, cap, e, h1, h2, hc⟩
  · simp only [Value.slice.injEq] at e
    obtain ⟨rfl, rfl, rfl⟩ := e
    obtain rfl : k = 0 := by omega
    exact .inl ⟨rfl, rfl⟩
  · simp only [Value.slice.injEq] at e
    obtain ⟨rfl, rfl, rfl⟩ := e
    have e2 : (zs.take k).length = k := by rw [List.length_take]; omega
    refine .inr ⟨x, c, by rw [e2], by omega, h2, fun i hi => ?_⟩
    rw [e2] at hi
    rw [hc i (by omega)]
    simp [List.getD_eq_getElem?_getD, hi]

theorem Own.take {W w : World} {a : Option Addr} {n c : Nat} {xs : List Int} (h : Own W w (.slice a n c) n xs) (k : Nat) (hk : k ≤ n) : Own W w (.slice a k c) k (xs.take k) := by
  have hl := h.length
  refine ⟨⟨?_, ?_⟩, h.2⟩
  · simp [List.length_take]; omega
  · rcases h.1.2 with ⟨e, rfl⟩ | ⟨g, cap, cur, e, hb, hg, hnc, hcm, hcs, ht⟩
    · simp only [Value.slice.injEq] at e
      obtain ⟨rfl, -, rfl⟩ := e
      obtain rfl : k = 0 := by omega
      exact .inl ⟨rfl, rfl⟩
    · simp only [Value.slice.injEq] at e
      obtain ⟨rfl, -, rfl⟩ := e
      refine .inr ⟨g, c, cur, rfl, hb, hg, by omega, hcm, hcs, ?_⟩
      rw [Nat.mul_one] at ht ⊢
      rw [List.map_take, ← ht, List.take_take, Nat.min_eq_left hk]

theorem nat_right (a : Option Addr) (n c : Nat) (zs : List Int) (w : World) (h : IsWords w (.slice a n c) zs) (L : Nat) (hL : lowN zs n = L) :
    Calls Tryz.prog 80 #[.slice a n c] w fun e w' => e = .returned (.slice a L c) ∧ w = w' := by
  have hle : L ≤ n := by rw [← hL]; exact lowN_le _ _
  have hcap := h.cap
  have C := limb_low_words a n c zs w h
  rw [hL] at C
  have h1 : (0 : Int) ≤ L := by omega
  have h2 : (L : Int) ≤ c := by omega
  have hs : a = none → L = 0 ∧ c = 0 := by
    rintro rfl
    rcases h with ⟨e, rfl⟩ | ⟨x, cap, e, -⟩
    · simp only [Value.slice.injEq] at e; omega
    · simp at e
  clear h hL
  rcases a with _ | x
  · obtain ⟨rfl, rfl⟩ := hs rfl
    go_enter Tryz.func80, Tryz.ntmps80
    go_wp2_with (go_at_call 84; with_reducible refine Calls.mono C ?_; rintro e w1 ⟨rfl, rfl⟩)
    go_ret
    exact ⟨rfl, rfl⟩
  · clear hs
    go_enter Tryz.func80, Tryz.ntmps80
    go_wp2_with (go_at_call 84; with_reducible refine Calls.mono C ?_; rintro e w1 ⟨rfl, rfl⟩)
    go_ret
    exact ⟨rfl, rfl⟩

theorem nat_word (a : Option Addr) (n c : Nat) (zs : List Int) (w : World) (h : IsWords w (.slice a n c) zs) (k : Nat) (hk : k ≤ 9223372036854775807) (z : Int) (hz : zs.getD k 0 = z) :
    Calls Tryz.prog 168 #[.slice a n c, .int .i64 k] w fun e w' => e = .returned (.int .u32 z) ∧ w = w' := by
  obtain ⟨⟨hl, hr⟩, hn⟩ := h.reads
  by_cases hlt : k < n
  · rcases hr with h0 | ⟨b, off, rfl, hc⟩
    · omega
    · have hck := hc k hlt
      rw [hz] at hck
      clear hc hz h
      go_enter Tryz.func168, Tryz.ntmps168
      go_wp2
      go_ret
      exact ⟨rfl, rfl⟩
  · have : z = 0 := by rw [← hz]; simp [List.getD_eq_getElem?_getD, List.getElem?_eq_none (by omega : zs.length ≤ k)]
    subst this
    clear h hr hz
    go_enter Tryz.func168, Tryz.ntmps168
    go_wp2
    go_ret
    exact ⟨rfl, rfl⟩

theorem ret_bool {a b : Bool} (h : a = b) : Ending.returned (.bool a) = .returned (.bool b) := by rw [h]

theorem nat_Right (a : Option Addr) (n c : Nat) (zs : List Int) (w : World) (h : IsWords w (.slice a n c) zs) (r : Bool) (hr : decide (lowN zs n = n) = r) :
    Calls Tryz.prog 48 #[.slice a n c] w fun e w' => e = .returned (.bool r) ∧ w = w' := by
  have C := limb_low_words a n c zs w h
  have hle := lowN_le zs n
  have hn := h.reads.2
  clear h
  generalize lowN zs n = L at C hle hr
  subst hr
  go_enter Tryz.func48, Tryz.ntmps48
  go_wp2_with (go_at_call 84; with_reducible refine Calls.mono C ?_; rintro e w1 ⟨rfl, rfl⟩)
  go_ret
  exact ⟨ret_bool (by rw [Bool.eq_iff_iff]; simp; omega), rfl⟩

/-- -1, 0 or 1. -/
def sgn (a b : Int) : Int := if a < b then -1 else if b < a then 1 else 0
theorem sgn_lt {a b : Int} (h : a < b) : sgn a b = -1 := by unfold sgn; rw [if_pos h]
theorem sgn_gt {a b : Int} (h : b < a) : sgn a b = 1 := by unfold sgn; rw [if_neg (by omega), if_pos h]
theorem sgn_eq {a b : Int} (h : a = b) : sgn a b = 0 := by unfold sgn; rw [if_neg (by omega), if_neg (by omega)]
theorem sgn_bd (a b : Int) : -1 ≤ sgn a b ∧ sgn a b ≤ 1 := by unfold sgn; split <;> (try split) <;> omega

theorem nan_int (a : Int) (w : World) : Calls Tryz.prog 129 #[.int .i64 a] w fun e w' => e = .returned (.bool false) ∧ w = w' := by
  go_enter Tryz.func129, Tryz.ntmps129
  go_wp2
  go_ret
  exact ⟨by simp, rfl⟩
theorem nan_u32 (a : Int) (w : World) : Calls Tryz.prog 130 #[.int .u32 a] w fun e w' => e = .returned (.bool false) ∧ w = w' := by
  go_enter Tryz.func130, Tryz.ntmps130
  go_wp2
  go_ret
  exact ⟨by simp, rfl⟩

theorem compare_int (a b : Int) (w : World) : Calls Tryz.prog 105 #[.int .i64 a, .int .i64 b] w fun e w' => e = .returned (.int .i64 (sgn a b)) ∧ w = w' := by
  rcases Int.lt_trichotomy a b with h | h | h
  · go_enter Tryz.func105, Tryz.ntmps105
    go_wp2_with (go_at_call 129; refine (nan_int _ _).mono ?_; rintro e w1 ⟨rfl, rfl⟩)
    go_ret
    exact ⟨ret_int (sgn_lt h).symm, rfl⟩
  · subst h
    go_enter Tryz.func105, Tryz.ntmps105
    go_wp2_with (go_at_call 129; refine (nan_int _ _).mono ?_; rintro e w1 ⟨rfl, rfl⟩)
    go_ret
    exact ⟨ret_int (sgn_eq rfl).symm, rfl⟩
  · have h' : ¬ a < b := by omega
    go_enter Tryz.func105, Tryz.ntmps105
    go_wp2_with (go_at_call 129; refine (nan_int _ _).mono ?_; rintro e w1 ⟨rfl, rfl⟩)
    go_ret
    exact ⟨ret_int (sgn_gt h).symm, rfl⟩
theorem compare_u32 (a b : Int) (w : World) : Calls Tryz.prog 106 #[.int .u32 a, .int .u32 b] w fun e w' => e = .returned (.int .i64 (sgn a b)) ∧ w = w' := by
  rcases Int.lt_trichotomy a b with h | h | h
  · go_enter Tryz.func106, Tryz.ntmps106
    go_wp2_with (go_at_call 130; refine (nan_u32 _ _).mono ?_; rintro e w1 ⟨rfl, rfl⟩)
    go_ret
    exact ⟨ret_int (sgn_lt h).symm, rfl⟩
  · subst h
    go_enter Tryz.func106, Tryz.ntmps106
    go_wp2_with (go_at_call 130; refine (nan_u32 _ _).mono ?_; rintro e w1 ⟨rfl, rfl⟩)
    go_ret
    exact ⟨ret_int (sgn_eq rfl).symm, rfl⟩
  · have h' : ¬ a < b := by omega
    go_enter Tryz.func106, Tryz.ntmps106
    go_wp2_with (go_at_call 130; refine (nan_u32 _ _).mono ?_; rintro e w1 ⟨rfl, rfl⟩)
    go_ret
    exact ⟨ret_int (sgn_gt h).symm, rfl⟩
end Go.Proofs.YtpimcbncmfpdhaaGreatDoor
/-
  Laws of no function, over slices of 32-bit words that a call owns: make, copy, a store into one word; what a callee's growth leaves. Conditions: Go's own limits on sizes.
-/
namespace Go.Proofs.YtpimcbncmfpdhaaGreatDoor
open Go.RowKit

/-- What a call owns stays while a callee makes memory. -/
theorem Own.more {W w w' : World} {v : Value} {n : Nat} {xs : List Int} (h : Own W w v n xs) (hb : Below w.heap.size w w') : Own W w' v n xs := by
  refine ⟨⟨h.1.1, ?_⟩, h.2.trans (hb.mono h.2.size)⟩
  rcases h.1.2 with h0 | ⟨g, cap, cur, e, h1, hg, h2⟩
  · exact .inl h0
  · refine .inr ⟨g, cap, cur, e, h1, ?_, h2⟩
    rw [hb.block g (Array.getElem?_eq_some_iff.1 hg).1]; exact hg

/-- What a callee made, its caller owns. -/
theorem Own.outer {V W w : World} {v : Value} {n : Nat} {xs : List Int} (h : Own W w v n xs) (hb : Below V.heap.size V W) : Own V w v n xs := by
  refine ⟨⟨h.1.1, ?_⟩, below_more hb h.2⟩
  rcases h.1.2 with h0 | ⟨g, cap, cur, e, h1, h2⟩
  · exact .inl h0
  · exact .inr ⟨g, cap, cur, e, Nat.le_trans hb.size h1, h2⟩

theorem Own.nil {W w : World} (h : Below W.heap.size W w) : Own W w (.slice none 0 0) 0 [] := ⟨World.ownsRow_nil _ _ _ _, h⟩

/-- A word of what the call owns: it reads so, and may be written. -/
theorem Own.cell {W w : World} {g n c : Nat} {xs : List Int} (h : Own W w (.slice (some ⟨g, 0, none⟩) n c) n xs) (k : Nat) (hk : k < n) :
    w.cell? ⟨g, k, none⟩ = some (.int .u32 (xs.getD k 0)) ∧ w.frozen? ⟨g, k, none⟩ = false ∧ W.heap.size ≤ g ∧ g < w.heap.size := by
  have hl := h.length
  rcases h.1.2 with ⟨e, -⟩ | ⟨g', cap, cur, e, h1, hg, h2, h3, h4, h5⟩
  · simp at e
  · simp only [Value.slice.injEq, Option.some.injEq, Addr.mk.injEq] at e
    obtain ⟨⟨rfl, -⟩, -, rfl⟩ := e
    have hc := h.1.cells (g := g) rfl k (.int .u32 (xs.getD k 0)) (by simp [List.getD_eq_getElem?_getD, show k < xs.length by omega])
    rw [Go.WideShapes.add_plain, Nat.zero_add] at hc
    refine ⟨hc, ?_, h1, (Array.getElem?_eq_some_iff.1 hg).1⟩
    simp [World.frozen?, hg]

/-- What the call owns is at some block's beginning, where it has a word. -/
theorem Own.at0 {W w : World} {a : Option Addr} {n c : Nat} {xs : List Int} (h : Own W w (.slice a n c) n xs) (hn : 0 < n) : ∃ g, a = some ⟨g, 0, none⟩ := by
  rcases h.1.2 with ⟨e, -⟩ | ⟨g, cap, cur, e, -⟩
  · simp only [Value.slice.injEq] at e; omega
  · simp only [Value.slice.injEq] at e; exact ⟨g, e.1⟩

/-- One word is written. -/
theorem Own.set {W w : World} {g n c : Nat} {xs : List Int} (h : Own W w (.slice (some ⟨g, 0, none⟩) n c) n xs) (k : Nat) (y : Int) :
    Own W (w.setCell ⟨g, k, none⟩ (.int .u32 y)) (.slice (some ⟨g, 0, none⟩) n c) n (xs.set k y) := by
  have hl := h.length
  rcases h.1.2 with ⟨e, -⟩ | ⟨g', cap, cur, e, h1, hg, h2, h3, h4, h5⟩
  · simp at e
  · simp only [Value.slice.injEq, Option.some.injEq, Addr.mk.injEq] at e
    obtain ⟨⟨rfl, -⟩, -, rfl⟩ := e
    refine ⟨⟨by simp; omega, .inr ⟨g, c, cur.setIfInBounds k (.int .u32 y), rfl, h1, ?_, h2, h3, by simpa using h4, ?_⟩⟩, h.2.setCell h1 _⟩
    · have hlt := (Array.getElem?_eq_some_iff.1 hg).1
      have hv := (Array.getElem?_eq_some_iff.1 hg).2
      simp only [World.setCell]
      rw [Array.getElem?_eq_getElem (by simpa using hlt), Array.getElem_modify]
      simp [hv]
    · rw [Array.toList_setIfInBounds, List.take_set, h5, List.map_set]

/-- make([]uint32, n). -/
theorem wpl_make_words {ops : Array Oper} {rest : List Oper} {o : Oper} {a : Act} {Q : Exit → Act → World → Prop} (l : Operand)
    (ho : o.op = .makeSlice 22 l l) (hgd : o.guard = none) (W w : World) (n : Nat) (N : Int) (hl : a.eval l = .int .i64 N) (hN : N = n) (hle : n ≤ 35184372088832) (hb : Below W.heap.size W w)
    (h : ∀ g w', W.heap.size ≤ g → Own W w' (.slice (some ⟨g, 0, none⟩) n n) n (List.replicate n 0) → wpList Tryz.prog ops Q rest (a.put o.dst (.slice (some ⟨g, 0, none⟩) n n)) w') : wpList Tryz.prog ops Q (o :: rest) a w := by
  obtain ⟨i, hi, hz, hs1, hby⟩ := info_parts infoU32
  refine wpList_make_full w hgd l l 22 ho W.heap.size 62 i (.int .u32 0) 1 Tryz.underlying22 hi hz hs1 .i64 .i64 N N n hl hl hN hN (by rw [hby]; omega) (by unfold maxLen; omega) hb.size ?_
  intro w' h1 h2
  refine h _ w' hb.size ⟨?_, hb.grown h2 hb.size (fun k e => by cases e)⟩
  have e : (madeCells (Value.int .u32 0).cells (n * 1)).toList = (List.replicate n (0 : Int)).map (Value.int .u32) := by
    apply List.ext_getElem?
    intro j
    by_cases hj : j < n
    · simp [madeCells, Value.cells, hj, Nat.mod_one]
    · simp [madeCells, Value.cells, hj]
  rw [← e]; exact h1

/-- copy(d, s), d the call's own, with room for all of s. -/
theorem wpl_copy_words {ops : Array Oper} {rest : List Oper} {o : Oper} {a : Act} {Q : Exit → Act → World → Prop} (d s : Operand)
    (ho : o.op = .call { callee := .builtin .copy, args := #[d, s], argTypes := #[22, 22] }) (hgd : o.guard = none)
    (W w : World) (g n c m : Nat) (vs : Value) (xs ys : List Int) (hown : Own W w (.slice (some ⟨g, 0, none⟩) n c) n xs) (hsrc : IsWords w vs ys) (hd : a.eval d = .slice (some ⟨g, 0, none⟩) n c) (hs : a.eval s = vs) (hm : ys.length = m) (hle : m ≤ n)
    (h : ∀ w', Own W w' (.slice (some ⟨g, 0, none⟩) n c) n (ys ++ xs.drop m) → wpList Tryz.prog ops Q rest (a.put o.dst (.int .i64 m)) w') : wpList Tryz.prog ops Q (o :: rest) a w := by
  obtain ⟨i, hi, hz, hs1, hby⟩ := info_parts infoU32
  have hl := hown.length
  rcases hown.1.2 with ⟨e, -⟩ | ⟨g', cap, cur, e, h1, hg, h2, h3, h4, h5⟩
  · simp at e
  simp only [Value.slice.injEq, Option.some.injEq, Addr.mk.injEq] at e
  obtain ⟨⟨rfl, -⟩, -, rfl⟩ := e
  obtain ⟨sp, sc, rfl⟩ := hsrc.lit
  subst hm
  have hmin : Nat.min ys.length n = ys.length := Nat.min_eq_left hle
  refine wpList_copy_splice hgd d s 22 22 ho 62 Tryz.underlying22 (by rw [hi]; simp [hs1]) _ sp n c ys.length sc hd hs g 0 cur.toList 62 (by simpa using hg) (ys.map (Value.int .u32)) (by rw [List.length_map, hmin]) ?_ (by simp; omega) (oneCells ys) W.heap.size W hown.2 h1 ?_
  · intro hpos
    refine ⟨rfl, ?_⟩
    rcases hsrc with ⟨e, rfl⟩ | ⟨x, cap, e, -, -, hc⟩
    · simp at hpos
    · simp only [Value.slice.injEq] at e
      obtain ⟨rfl, -, -⟩ := e
      refine ⟨x, rfl, fun j v hj => ?_⟩
      rw [List.getElem?_map] at hj
      obtain ⟨y, hy, rfl⟩ := Option.map_eq_some_iff.1 hj
      rw [hc j (List.getElem?_eq_some_iff.1 hy).1]
      simp [List.getD_eq_getElem?_getD, hy]
  · intro w' hw' hb'
    have hw := hw'.out
    have e : (Value.int .i64 ys.length) = goInt (ys.map (Value.int .u32)).length := by simp [goInt]
    rw [← e]
    refine h w' ⟨⟨by simp; omega, .inr ⟨g, c, _, rfl, h1, hw, h2, h3, ?_, ?_⟩⟩, hb'⟩
    · simp [splice]; omega
    · rw [Nat.mul_one] at h5 ⊢
      simp only [splice, List.take_zero, List.nil_append, Nat.zero_add, List.length_map]
      rw [List.map_append, List.map_drop, ← h5]
      rw [List.take_append, List.length_map, List.take_of_length_le (by simp; omega), List.drop_take]
end Go.Proofs.YtpimcbncmfpdhaaGreatDoor
/-
  Laws of no function: variables that lie in blocks of their own (structs of two or three cells): what they hold, and what stays when others turn. No conditions of the program.
-/
namespace Go.Proofs.YtpimcbncmfpdhaaGreatDoor
open Go.RowKit

/-- Block k holds just these cells, and may be written. -/
def BoxC (v : World) (k : Nat) (cs : Array Value) (T : TypeId) : Prop := v.heap[k]? = some (.cells cs T (0, 0))

theorem BoxC.new (v : World) (cs : Array Value) (T : TypeId) : BoxC (v.alloc (.cells cs T)) v.heap.size cs T := by show (v.heap.push _)[v.heap.size]? = _; simp
theorem BoxC.more {v v' : World} {k : Nat} {cs : Array Value} {T : TypeId} (h : BoxC v k cs T) (hb : Below v.heap.size v v') : BoxC v' k cs T :=
  (hb.block k (Array.getElem?_eq_some_iff.1 h).1).trans h
theorem BoxC.alloc {v : World} {k : Nat} {cs : Array Value} {T : TypeId} (h : BoxC v k cs T) (o : Obj) : BoxC (v.alloc o) k cs T := h.more ((Below.refl _ _).alloc (Nat.le_refl _) _)
theorem BoxC.drew {v : World} {k : Nat} {cs : Array Value} {T : TypeId} (h : BoxC v k cs T) : BoxC v.drew k cs T := h
theorem BoxC.lt {v : World} {k : Nat} {cs : Array Value} {T : TypeId} (h : BoxC v k cs T) : k < v.heap.size := (Array.getElem?_eq_some_iff.1 h).1
theorem BoxC.cell {v : World} {k : Nat} {cs : Array Value} {T : TypeId} (h : BoxC v k cs T) (i : Nat) : v.cell? ⟨k, i, none⟩ = cs[i]? ∧ v.frozen? ⟨k, i, none⟩ = false := by
  unfold BoxC at h
  simp [World.cell?, World.frozen?, h]
theorem BoxC.cells2 {v : World} {k : Nat} {x y : Value} {T : TypeId} (h : BoxC v k #[x, y] T) : v.cell? ⟨k, 0, none⟩ = some x ∧ v.cell? ⟨k, 1, none⟩ = some y ∧ v.frozen? ⟨k, 0, none⟩ = false ∧ v.frozen? ⟨k, 1, none⟩ = false :=
  ⟨(h.cell 0).1, (h.cell 1).1, (h.cell 0).2, (h.cell 1).2⟩
theorem BoxC.cells3 {v : World} {k : Nat} {x y z : Value} {T : TypeId} (h : BoxC v k #[x, y, z] T) : v.cell? ⟨k, 0, none⟩ = some x ∧ v.cell? ⟨k, 1, none⟩ = some y ∧ v.cell? ⟨k, 2, none⟩ = some z ∧ v.frozen? ⟨k, 0, none⟩ = false ∧ v.frozen? ⟨k, 1, none⟩ = false ∧ v.frozen? ⟨k, 2, none⟩ = false :=
  ⟨(h.cell 0).1, (h.cell 1).1, (h.cell 2).1, (h.cell 0).2, (h.cell 1).2, (h.cell 2).2⟩
/-- A store into the box. -/
theorem BoxC.set {v : World} {k : Nat} {cs : Array Value} {T : TypeId} (h : BoxC v k cs T) (i : Nat) (x : Value) : BoxC (v.setCell ⟨k, i, none⟩ x) k (cs.setIfInBounds i x) T := by
  unfold BoxC at h ⊢
  have hlt := (Array.getElem?_eq_some_iff.1 h).1
  have hv := (Array.getElem?_eq_some_iff.1 h).2
  simp only [World.setCell]
  rw [Array.getElem?_eq_getElem (by simpa using hlt), Array.getElem_modify]
  simp [hv]
/-- A store into another block. -/
theorem BoxC.other {v : World} {k : Nat} {cs : Array Value} {T : TypeId} (h : BoxC v k cs T) {g i : Nat} (hg : k ≠ g) (x : Value) : BoxC (v.setCell ⟨g, i, none⟩ x) k cs T := by
  unfold BoxC at h ⊢
  rw [Below.heap_setCell v ⟨g, i, none⟩ x k (by simpa using hg)]; exact h

/-- As Own, in blocks from B on alone. -/
def OwnA (W : World) (B : Nat) (w : World) (v : Value) (n : Nat) (xs : List Int) : Prop := w.ownsRow B 62 1 v n (xs.map (Value.int .u32)) ∧ Below W.heap.size W w
theorem Own.above {W V w : World} {v : Value} {n : Nat} {xs : List Int} (h : Own V w v n xs) (hb : Below W.heap.size W V) : OwnA W V.heap.size w v n xs := ⟨h.1, below_more hb h.2⟩
/-- A store into a block below those. -/
theorem OwnA.set {W w : World} {B : Nat} {v : Value} {n : Nat} {xs : List Int} (h : OwnA W B w v n xs) {k : Nat} (h1 : W.heap.size ≤ k) (h2 : k < B) (i : Nat) (x : Value) : OwnA W B (w.setCell ⟨k, i, none⟩ x) v n xs := by
  refine ⟨⟨h.1.1, ?_⟩, h.2.setCell h1 _⟩
  rcases h.1.2 with h0 | ⟨g, cap, cur, e, h3, hg, h4⟩
  · exact .inl h0
  · refine .inr ⟨g, cap, cur, e, h3, ?_, h4⟩
    rw [Below.heap_setCell w ⟨k, i, none⟩ x g (by simp; omega)]; exact hg
theorem OwnA.drew {W w : World} {B : Nat} {v : Value} {n : Nat} {xs : List Int} (h : OwnA W B w v n xs) : OwnA W B w.drew v n xs := ⟨h.1, h.2.drew⟩
theorem OwnA.own {W w : World} {B : Nat} {v : Value} {n : Nat} {xs : List Int} (h : OwnA W B w v n xs) (hB : W.heap.size ≤ B) : Own W w v n xs := by
  refine ⟨⟨h.1.1, ?_⟩, h.2⟩
  rcases h.1.2 with h0 | ⟨g, cap, cur, e, h1, h2⟩
  · exact .inl h0
  · exact .inr ⟨g, cap, cur, e, Nat.le_trans hB h1, h2⟩

theorem boxes1 (w : World) (cs : Array Value) (T : TypeId) :
    BoxC (w.alloc (.cells cs T)) w.heap.size cs T ∧ Below w.heap.size w (w.alloc (.cells cs T)) ∧ w.heap.size < (w.alloc (.cells cs T)).heap.size :=
  ⟨BoxC.new w cs T, (Below.refl _ w).alloc (Nat.le_refl _) _, by simp⟩
theorem boxes2 (w : World) (cs ds : Array Value) (T U : TypeId) :
    BoxC ((w.alloc (.cells cs T)).alloc (.cells ds U)) w.heap.size cs T ∧ BoxC ((w.alloc (.cells cs T)).alloc (.cells ds U)) (w.heap.size + 1) ds U ∧
    Below w.heap.size w ((w.alloc (.cells cs T)).alloc (.cells ds U)) ∧ w.heap.size + 1 < ((w.alloc (.cells cs T)).alloc (.cells ds U)).heap.size := by
  have b2 := BoxC.new (w.alloc (.cells cs T)) ds U
  rw [World.size_alloc] at b2
  exact ⟨(BoxC.new w cs T).alloc _, b2, ((Below.refl _ w).alloc (Nat.le_refl _) _).alloc (by simp) _, by simp⟩
theorem boxes3 (w : World) (cs ds es : Array Value) (T U X : TypeId) :
    BoxC (((w.alloc (.cells cs T)).alloc (.cells ds U)).alloc (.cells es X)) w.heap.size cs T ∧ BoxC (((w.alloc (.cells cs T)).alloc (.cells ds U)).alloc (.cells es X)) (w.heap.size + 1) ds U ∧ BoxC (((w.alloc (.cells cs T)).alloc (.cells ds U)).alloc (.cells es X)) (w.heap.size + 1 + 1) es X ∧
    Below w.heap.size w (((w.alloc (.cells cs T)).alloc (.cells ds U)).alloc (.cells es X)) ∧ w.heap.size + 1 + 1 < (((w.alloc (.cells cs T)).alloc (.cells ds U)).alloc (.cells es X)).heap.size := by
  obtain ⟨h1, h2, h3, h4⟩ := boxes2 w cs ds T U
  have b3 := BoxC.new ((w.alloc (.cells cs T)).alloc (.cells ds U)) es X
  rw [World.size_alloc, World.size_alloc] at b3
  exact ⟨h1.alloc _, h2.alloc _, b3, h3.alloc (by simp; omega) _, by simp⟩
end Go.Proofs.YtpimcbncmfpdhaaGreatDoor
/-
  Contracts of package nat's functions Trim, Of, Small, Bits, for every list of words and every number: what each answers, as numbers; memory that was there stays, and what is answered is the call's own.
-/
namespace Go.Proofs.YtpimcbncmfpdhaaGreatDoor
open Go.RowKit

theorem val_int {k : IntKind} {a b : Int} (h : a = b) : Value.int k a = .int k b := by rw [h]

theorem ret_ib {k : IntKind} {a b : Int} {r : Bool} (h : a = b) : Ending.returned (.tuple #[.int k a, .bool r]) = .returned (.tuple #[.int k b, .bool r]) := by rw [h]

theorem IsWords.low {w : World} {a : Option Addr} {n c : Nat} {zs : List Int} (h : IsWords w (.slice a n c) zs) (hz : Wd zs) : lowN zs n = nl (val zs) ∧ zs.take (nl (val zs)) = natOf (val zs) ∧ nl (val zs) ≤ n := by
  have hl := h.len
  refine ⟨by rw [nl_val zs hz, hl], (natOf_take zs hz).symm, by rw [← hl]; exact nl_val_le zs hz⟩

/-- right, in numbers. -/
theorem nat_right' (a : Option Addr) (n c : Nat) (zs : List Int) (w : World) (h : IsWords w (.slice a n c) zs) (hz : Wd zs) :
    Calls Tryz.prog 80 #[.slice a n c] w fun e w' => e = .returned (.slice a (nl (val zs)) c) ∧ w = w' :=
  nat_right a n c zs w h _ (h.low hz).1
theorem IsWords.right {w : World} {a : Option Addr} {n c : Nat} {zs : List Int} (h : IsWords w (.slice a n c) zs) (hz : Wd zs) : IsWords w (.slice a (nl (val zs)) c) (natOf (val zs)) := by
  have hl := h.low hz
  rw [← hl.2.1]; exact h.take _ hl.2.2
theorem Own.right {W w : World} {a : Option Addr} {n c : Nat} {zs : List Int} (h : Own W w (.slice a n c) n zs) (hz : Wd zs) : Own W w (.slice a (nl (val zs)) c) (nl (val zs)) (natOf (val zs)) := by
  have hl := h.words.low hz
  rw [← hl.2.1]; exact h.take _ hl.2.2

/-- What nat's functions answer: a slice of the call's own, the list of the number N. -/
def Ans (W : World) (N : Nat) (e : Ending) (w' : World) : Prop := ∃ a c, e = .returned (.slice a (nl N) c) ∧ Own W w' (.slice a (nl N) c) (nl N) (natOf N)

set_option maxHeartbeats 1000000 in
theorem nat_trim (a : Option Addr) (n c : Nat) (zs : List Int) (w : World) (h : IsWords w (.slice a n c) zs) (hz : Wd zs) (hn : n ≤ 35184372088832) :
    Calls Tryz.prog 128 #[.slice a n c] w (Ans w (val zs)) := by
  have R := nat_right' a n c zs w h hz
  have S := h.right hz
  have hL := (h.low hz).2.2
  have hS : (natOf (val zs)).length = nl (val zs) := rfl
  clear h hz
  have HS : Hid ((natOf (val zs)).length = nl (val zs)) := hS
  unfold Ans
  generalize nl (val zs) = L at R S hL HS
  generalize natOf (val zs) = ys at S HS
  clear hS
  go_enter Tryz.func128, Tryz.ntmps128
  go_wp2_with (first
    | (go_at_call 80; with_reducible refine Calls.mono R ?_; rintro e w1 ⟨rfl, rfl⟩)
    | (at_make; refine wpl_make_words (.tmp 7) rfl rfl w w L L rfl rfl (by omega) (Below.refl _ _) ?_; intro g w1 hg o1)
    | (with_reducible show wpList _ _ _ (Oper.mk _ (Op.call { callee := Callee.builtin Builtin.copy, args := _, argTypes := _ }) _ _ _ _ :: _) _ _; refine wpl_copy_words (.tmp 9) (.tmp 10) rfl rfl w w1 g L L L _ (List.replicate L 0) ys o1 (S.below o1.below) rfl rfl HS.out (Nat.le_refl _) ?_; intro w2 o2))
  go_ret
  refine ⟨_, _, rfl, ?_⟩
  simpa using o2

set_option maxHeartbeats 1000000 in
theorem nat_of (n : Int) (w : World) (h0 : 0 ≤ n) (h1 : n < 18446744073709551616) :
    Calls Tryz.prog 54 #[.int .u64 n] w (Ans w n.toNat) := by
  have hw : Wd [n % 4294967296, n / 4294967296] := wd_cons' (by omega) (by omega) (wd_one (by omega) (by omega))
  have hv : val [n % 4294967296, n / 4294967296] = n.toNat := by simp only [val]; omega
  have O := own_lit w w [n % 4294967296, n / 4294967296] 2 (Below.refl _ _) rfl (by decide)
  have R := nat_right' _ _ _ _ _ O.words hw
  have P := O.right hw
  rw [hv] at R P
  clear O hw hv
  have e : Hid (n / 4294967296 % 4294967296 = n / 4294967296) := (by omega : n / 4294967296 % 4294967296 = n / 4294967296)
  simp only [List.map_cons, List.map_nil] at R P
  go_enter Tryz.func54, Tryz.ntmps54
  go_wp2_with (first
    | (go_at_call 80; with_reducible refine Calls.mono R ?_; rintro e w1 ⟨rfl, rfl⟩))
  go_ret
  exact ⟨_, _, rfl, P⟩

set_option maxHeartbeats 1000000 in
theorem nat_bits (a : Option Addr) (n c : Nat) (zs : List Int) (w : World) (h : IsWords w (.slice a n c) zs) (hz : Wd zs) (hn : n ≤ 35184372088832) :
    Calls Tryz.prog 43 #[.slice a n c] w fun e w' => e = .returned (.int .i64 (nbits (val zs))) ∧ w = w' := by
  have R := nat_right' a n c zs w h hz
  have hl := h.low hz
  have hL := hl.2.2
  by_cases h0 : nl (val zs) = 0
  · have e : Hid (nbits (val zs) = 0) := by
      have : val zs = 0 := by have := val_natOf (val zs); rw [List.eq_nil_of_length_eq_zero h0] at this; exact this.symm
      show _ = _
      rw [this, nbits_zero]
    rw [h0] at R
    clear h hz hl hL h0
    go_enter Tryz.func43, Tryz.ntmps43
    go_wp2_with (first
      | (go_at_call 80; with_reducible refine Calls.mono R ?_; rintro e w1 ⟨rfl, rfl⟩))
    go_ret
    exact ⟨ret_int (by rw [e.out]; rfl), rfl⟩
  · obtain ⟨k, hk⟩ : ∃ k, nl (val zs) = k + 1 := ⟨nl (val zs) - 1, by omega⟩
    have e : Hid (nbits (val zs) = 32 * k + nbits (zs.getD k 0).toNat) := nbits_top zs hz k (by rw [h.len, hl.1, hk])
    rcases h.reads.1.2 with h0 | ⟨b, off, rfl, hc⟩
    · omega
    have hck := hc k (by omega)
    have hb := wd_getD hz k
    have hkn : (k : Int) + 1 ≤ n := by omega
    rw [hk] at R
    clear h hz hl hL h0 hc hk
    generalize zs.getD k 0 = z at hck hb e
    obtain ⟨z0, z1⟩ := hb
    have B := fun v => limb_bits z v z0 z1
    have hbl : Lib.bitLen z.toNat ≤ 32 := Lib.bitLen_le _ 32 (by omega) (by omega)
    have e2 : Hid (Lib.bitLen z.toNat = nbits z.toNat) := nbits_bitLen _ (by omega)
    go_enter Tryz.func43, Tryz.ntmps43
    go_wp2_with (first
      | (go_at_call 80; with_reducible refine Calls.mono R ?_; rintro e w1 ⟨rfl, rfl⟩)
      | (go_at_call 81; with_reducible refine Calls.mono (B _) ?_; rintro e w1 ⟨rfl, rfl⟩))
    go_ret
    exact ⟨ret_int (by rw [e.out, ← e2.out]; omega), rfl⟩
end Go.Proofs.YtpimcbncmfpdhaaGreatDoor
/-
  Contract of package nat's function Add, for all two lists of words: the list of the sum; memory that was there stays, and what is answered is the call's own.
-/
namespace Go.Proofs.YtpimcbncmfpdhaaGreatDoor
open Go.RowKit
attribute [local go_sem ↓] Go.wp_at_zero Go.wp_at_succ

/-- The sum's last carry is 0. -/
theorem add_last {ps qs ss : List Int} {k cy : Nat} (hp : Wd ps) (hq : Wd qs) (hl : qs.length ≤ ps.length) (hi : val ss + cy * 4294967296 ^ k = val ps + val (qs.take k)) (hk : k = ps.length + 1 ∨ qs.length ≤ k ∧ cy = 0) : val ss = val ps + val qs := by
  have e : qs.take k = qs := List.take_of_length_le (by omega)
  rw [e] at hi
  rcases hk with rfl | ⟨-, rfl⟩
  · have h1 := val_lt ps hp
    have h2 : val qs < 4294967296 ^ ps.length := Nat.lt_of_lt_of_le (val_lt qs hq) (Nat.pow_le_pow_right (by omega) hl)
    rw [Nat.pow_succ, ← Nat.mul_assoc] at hi
    rcases Nat.eq_zero_or_pos cy with rfl | hc
    · omega
    · have h3 : 1 * 4294967296 ^ ps.length ≤ cy * 4294967296 ^ ps.length := Nat.mul_le_mul_right _ hc
      generalize cy * 4294967296 ^ ps.length = r at hi h3
      generalize 4294967296 ^ ps.length = p at h1 h2 h3
      omega
  · omega

set_option maxHeartbeats 4000000 in
theorem nat_add (a : Option Addr) (n c : Nat) (zs : List Int) (b : Option Addr) (m d : Nat) (ys : List Int) (w : World) (h : IsWords w (.slice a n c) zs) (hz : Wd zs) (g : IsWords w (.slice b m d) ys) (gz : Wd ys)
    (hn : n ≤ 1000000000000) (hm : m ≤ 1000000000000) :
    Calls Tryz.prog 146 #[.slice a n c, .slice b m d] w (Ans w (val zs + val ys)) := by
  have R1 := nat_right' a n c zs w h hz
  have R2 := nat_right' b m d ys w g gz
  have S1 := h.right hz
  have S2 := g.right gz
  have w1 := wd_natOf (val zs)
  have w2 := wd_natOf (val ys)
  have b1 := (h.low hz).2.2
  have b2 := (g.low gz).2.2
  have l1 : Hid ((natOf (val zs)).length = nl (val zs)) := rfl
  have l2 : Hid ((natOf (val ys)).length = nl (val ys)) := rfl
  clear h g hz gz
  by_cases hlt : nl (val zs) < nl (val ys)
  case' pos =>
    have HV : Hid (val (natOf (val ys)) + val (natOf (val zs)) = val zs + val ys) := by
      show _ = _
      rw [val_natOf, val_natOf]; omega
    generalize val zs + val ys = S at HV ⊢
    have P := S2
    have Q := S1
    have wP := w2
    have wQ := w1
    have lP := l2
    have lQ := l1
    clear S1 S2 w1 w2 l1 l2
    generalize nl (val zs) = LQ at R1 Q b1 hlt lQ
    generalize nl (val ys) = LP at R2 P b2 hlt lP
    generalize natOf (val zs) = qs at Q wQ lQ HV
    generalize natOf (val ys) = ps at P wP lP HV
    have hle : LQ ≤ LP := by omega
  case' neg =>
    have HV : Hid (val (natOf (val zs)) + val (natOf (val ys)) = val zs + val ys) := by
      show _ = _
      rw [val_natOf, val_natOf]
    generalize val zs + val ys = S at HV ⊢
    have P := S1
    have Q := S2
    have wP := w1
    have wQ := w2
    have lP := l1
    have lQ := l2
    clear S1 S2 w1 w2 l1 l2
    generalize nl (val zs) = LP at R1 P b1 hlt lP
    generalize nl (val ys) = LQ at R2 Q b2 hlt lQ
    generalize natOf (val zs) = ps at P wP lP HV
    generalize natOf (val ys) = qs at Q wQ lQ HV
    have hle : LQ ≤ LP := by omega
  all_goals
    obtain ⟨M, hM1, hM2⟩ : ∃ M, M ≤ LP + 1 ∧ LP + 1 ≤ M := ⟨_, Nat.le_refl _, Nat.le_refl _⟩
    have hLP : LP ≤ 1000000000000 := by omega
    go_enter Tryz.func146, Tryz.ntmps146
    go_wp2_with (first
      | (go_at_call 80; with_reducible refine Calls.mono R1 ?_; rintro e w1 ⟨rfl, rfl⟩)
      | (go_at_call 80; with_reducible refine Calls.mono R2 ?_; rintro e w1 ⟨rfl, rfl⟩)
      | (at_make; refine wpl_make_words (.tmp 21) rfl rfl w w M _ rfl (by omega) (by omega) (Below.refl _ _) ?_; intro g w1 hg o1)
      | (with_reducible show wpList _ _ _ (Oper.mk _ (Op.call { callee := Callee.builtin Builtin.copy, args := _, argTypes := _ }) _ _ _ _ :: _) _ _; refine wpl_copy_words (.tmp 23) (.tmp 24) rfl rfl w w1 g M M LP _ (List.replicate M 0) ps o1 (P.below o1.below) rfl rfl lP.out (by omega) ?_; intro w2 o2))
    clear R1 R2
    go_loopw [6, 28] (fun cr i v => ∃ (k cy : Nat) (ss : List Int), k ≤ M ∧ i = .int .i64 k ∧ cr = .int .u32 cy ∧ cy ≤ 1 ∧ Own w v (.slice (some ⟨g, 0, none⟩) M M) M ss ∧ Wd ss ∧ val ss + cy * 4294967296 ^ k = val ps + val (qs.take k)) (fun _ i _ => M - (intOf i).toNat)
    case atStart =>
      refine ⟨0, 0, _, by omega, rfl, rfl, by omega, o2, ?_, ?_⟩
      · rw [List.drop_replicate]; exact wd_append wP (wd_zeros _)
      · rw [List.drop_replicate, val_append_zeros]; simp [val]
    case round =>
      obtain ⟨k, cy, ss, hk, rfl, rfl, hcy, o, wS, hI⟩ := hrel
      have HI : Hid (val ss + cy * 4294967296 ^ k = val ps + val (qs.take k)) := hI
      clear hI o1 o2
      by_cases hdone : k = M ∨ LQ ≤ k ∧ cy = 0
      · have HS : val ss = S := by
          have e1 := lP.out
          have e2 := lQ.out
          rw [add_last wP wQ (by omega) HI.out (by omega), HV.out]
        have R3 := nat_right' _ _ _ ss wr o.words wS
        have OR := o.right wS
        rw [HS] at R3 OR
        clear HS HI P Q wP wQ lP lQ o wS HV
        by_cases hkM : k < M
        · have h1 : LQ ≤ k := by omega
          have h2 : cy = 0 := by omega
          subst h2
          clear hdone
          go_wp2_with (first
            | (go_at_call 80; with_reducible refine Calls.mono R3 ?_; rintro e w1 ⟨rfl, rfl⟩))
          go_ret
          exact ⟨_, _, rfl, OR⟩
        · clear hdone
          go_wp2_with (first
            | (go_at_call 80; with_reducible refine Calls.mono R3 ?_; rintro e w1 ⟨rfl, rfl⟩))
          go_ret
          exact ⟨_, _, rfl, OR⟩
      · have EQ : Hid (val (qs.take (k + 1)) = val (qs.take k) + (qs.getD k 0).toNat * 4294967296 ^ k) := val_take_succ qs k
        have W1 := fun v hb z hz => nat_word _ _ _ _ v (Q.below hb) k (by omega) z hz
        obtain ⟨z0, z1⟩ := wd_getD wQ k
        have hkM : k < M := by omega
        obtain ⟨hc, hf, hg1, hg2⟩ := o.cell k hkM
        have hss := o.length
        have ES := fun y => val_set ss k y (by omega)
        obtain ⟨x0, x1⟩ := wd_getD wS k
        generalize hqz : qs.getD k 0 = z at EQ z0 z1
        have HZ : Hid (qs.getD k 0 = z) := hqz
        clear hqz
        generalize ss.getD k 0 = x at hc ES x0 x1
        have od := o.drew
        have WC := W1 wr.drew od.below z HZ.out
        have AC := limb_add x z cy wr.drew x0 x1 z0 z1 (by omega) (by omega)
        have HY : Hid (((x + z + cy) % 4294967296).toNat + 4294967296 * ((x + z + cy) / 4294967296).toNat = x.toNat + z.toNat + cy ∧ 0 ≤ (x + z + cy) / 4294967296 ∧ (x + z + cy) / 4294967296 ≤ 1 ∧ 0 ≤ (x + z + cy) % 4294967296 ∧ (x + z + cy) % 4294967296 < 4294967296) := ⟨by omega, by omega, by omega, by omega, by omega⟩
        generalize (x + z + cy) % 4294967296 = y at AC HY
        generalize (x + z + cy) / 4294967296 = cq at AC HY
        have HN : Hid (val (ss.set k y) + cq.toNat * 4294967296 ^ (k + 1) = val ps + val (qs.take (k + 1))) := by
          show _ = _
          rw [EQ.out, Nat.pow_succ]
          exact add_step (ES y) HI.out HY.out.1
        have WN : Wd (ss.set k y) := wd_set wS k HY.out.2.2.2.1 HY.out.2.2.2.2
        clear W1 hss EQ HI HZ ES P Q wP wQ lP lQ wS HV
        by_cases h1 : LQ ≤ k
        case' pos => have h2 : ((cy : Int) == 0) = false := by simp; omega
        all_goals
          clear hdone
          go_wp2
          go_region_with (first
            | (go_at_call 168; with_reducible refine Calls.mono WC ?_; rintro e w3 ⟨rfl, rfl⟩)
            | (go_at_call 167; with_reducible refine Calls.mono AC ?_; rintro e w3 ⟨rfl, b3⟩; have o3 := od.more b3; obtain ⟨hc3, hf3, -, -⟩ := o3.cell k hkM))
          all_goals
            clear WC AC
            go_wp2
            go_roundw
            case rel => exact ⟨k + 1, cq.toNat, ss.set k y, by omega, by go_num, val_int (by have := HY.out.2.1; omega), by have := HY.out.2.2.1; omega, o3.set k y, WN, HN.out⟩
            case measure => simp [intOf]; omega
end Go.Proofs.YtpimcbncmfpdhaaGreatDoor
/-
  Contract of package nat's function Cmp, for all two lists of words: how the two numbers are to each other; memory that was there stays.
-/
namespace Go.Proofs.YtpimcbncmfpdhaaGreatDoor
open Go.RowKit

theorem sgn_val {a b : List Int} (ha : Wd a) (hb : Wd b) (m : Nat) (hd : val (a.drop (m + 1)) = val (b.drop (m + 1))) (hne : a.getD m 0 ≠ b.getD m 0) : sgn (a.getD m 0) (b.getD m 0) = sgn (val a) (val b) := by
  rcases Int.lt_or_gt_of_ne hne with h | h
  · have := val_decides a b ha m hd h
    rw [sgn_lt h, sgn_lt (by omega)]
  · have := val_decides b a hb m hd.symm h
    rw [sgn_gt h, sgn_gt (by omega)]

theorem quiet_more {f : FuncId} {args : Array Value} {w : World} {a n : Nat} {v : Value} (h : Calls Tryz.prog f args (w.drewN (a + n)) fun e w' => e = .returned v ∧ w.drewN (a + n) = w') :
    Calls Tryz.prog f args (w.drewN (a + n)) fun e w' => e = .returned v ∧ ∃ m, w' = w.drewN (a + m) :=
  h.mono fun _ _ k => ⟨k.1, n, k.2.symm⟩

theorem sgn_len (A B : Nat) (h : nl A ≠ nl B) : sgn (nl A) (nl B) = sgn A B := by
  rcases Nat.lt_or_gt_of_ne h with h | h
  · have := lt_of_nl h
    rw [sgn_lt (by omega), sgn_lt (by omega)]
  · have := lt_of_nl h
    rw [sgn_gt (by omega), sgn_gt (by omega)]

set_option maxHeartbeats 2000000 in
theorem nat_cmp (a : Option Addr) (n c : Nat) (zs : List Int) (b : Option Addr) (m d : Nat) (ys : List Int) (w : World) (h : IsWords w (.slice a n c) zs) (hz : Wd zs) (g : IsWords w (.slice b m d) ys) (gz : Wd ys) :
    Calls Tryz.prog 76 #[.slice a n c, .slice b m d] w fun e w' => e = .returned (.int .i64 (sgn (val zs) (val ys))) ∧ Below w.heap.size w w' := by
  have R1 := nat_right' a n c zs w h hz
  have R2 := nat_right' b m d ys w g gz
  by_cases hl : nl (val zs) = nl (val ys)
  · have hn := h.reads.2
    have hr1 := (h.right hz).reads.1
    have hr2 := (g.right gz).reads.1
    have hLn := (h.low hz).2.2
    have w1 := wd_natOf (val zs)
    have w2 := wd_natOf (val ys)
    have V1 : Hid (val (natOf (val zs)) = val zs) := val_natOf _
    have V2 : Hid (val (natOf (val ys)) = val ys) := val_natOf _
    rw [← hl] at R2 hr2
    generalize nl (val zs) = L at R1 R2 hr1 hr2 hLn hl
    generalize natOf (val zs) = ps at hr1 w1 V1
    generalize natOf (val ys) = qs at hr2 w2 V2
    clear h g hz gz hl
    go_enter Tryz.func76, Tryz.ntmps76
    go_wp2_with (first
      | (go_at_call 80; with_reducible refine Calls.mono R1 ?_; rintro e w1 ⟨rfl, rfl⟩)
      | (go_at_call 80; with_reducible refine Calls.mono R2 ?_; rintro e w1 ⟨rfl, rfl⟩))
    clear R1 R2
    go_loopw [23] (fun i v => ∃ k : Nat, k ≤ L ∧ i = .int .i64 k ∧ Below w.heap.size w v ∧ val (ps.drop (L - k)) = val (qs.drop (L - k))) (fun i _ => L - (intOf i).toNat)
    case atStart => exact ⟨0, by omega, rfl, Below.refl _ _, by rw [List.drop_of_length_le (by rw [hr1.1]; omega), List.drop_of_length_le (by rw [hr2.1]; omega)]⟩
    case round =>
      obtain ⟨k, hk, rfl, hb, hd⟩ := hrel
      have HD : Hid (val (ps.drop (L - k)) = val (qs.drop (L - k))) := hd
      clear hd
      by_cases hlt : k < L
      · rcases hr1.2 with h0 | ⟨b1, o1, rfl, hc1⟩
        · omega
        rcases hr2.2 with h0 | ⟨b2, o2, rfl, hc2⟩
        · omega
        obtain ⟨t, ht⟩ : ∃ t, t + 1 = L - k := ⟨L - k - 1, by omega⟩
        have h1 := hc1 t (by omega)
        have h2 := hc2 t (by omega)
        rw [← hb.cell (p := ⟨b1, o1 + t, none⟩) (World.block_lt_of_cell? w _ h1)] at h1
        rw [← hb.cell (p := ⟨b2, o2 + t, none⟩) (World.block_lt_of_cell? w _ h2)] at h2
        have e1 : (L : Int) - 1 - k = t := by omega
        have D1 : Hid (val (ps.drop t) = (ps.getD t 0).toNat + 4294967296 * val (ps.drop (t + 1))) := val_drop ps t
        have D2 : Hid (val (qs.drop t) = (qs.getD t 0).toNat + 4294967296 * val (qs.drop (t + 1))) := val_drop qs t
        have HD' : Hid (val (ps.drop (t + 1)) = val (qs.drop (t + 1))) := by rw [ht]; exact HD.out
        have HS : ps.getD t 0 ≠ qs.getD t 0 → Hid (sgn (ps.getD t 0) (qs.getD t 0) = sgn (val zs) (val ys)) := fun hne => by
          show _ = _
          rw [sgn_val w1 w2 t HD'.out hne, V1.out, V2.out]
        clear hc1 hc2 hr1 hr2 w1 w2
        generalize ps.getD t 0 = x at h1 D1 HS
        generalize qs.getD t 0 = y at h2 D2 HS
        by_cases hxy : x = y
        · subst hxy
          clear HS
          go_wp2
          go_quiet (fail)
          go_wp2
          go_roundw
          case rel => exact ⟨k + 1, by omega, by go_num, below_drewN hb _, by rw [show L - (k + 1) = t by omega, D1.out, D2.out, HD'.out]⟩
          case measure => simp [intOf]; omega
        · have HS' := HS hxy
          have hne : (x == y) = false := by simpa using hxy
          clear HS
          go_wp2
          go_quiet (fail)
          go_wp2
          go_quiet ((go_at_call 106; exact quiet_more (compare_u32 _ _ _)))
          go_wp2
          go_ret
          exact ⟨ret_int HS'.out, below_drewN (below_drewN hb _) _⟩
      · have HE : Hid (sgn (val zs) (val ys) = 0) := by
          have h0 := HD.out
          rw [show L - k = 0 by omega, List.drop_zero, List.drop_zero, V1.out, V2.out] at h0
          exact sgn_eq (by omega)
        clear hr1 hr2 w1 w2
        go_wp2
        go_ret
        exact ⟨ret_int HE.out.symm, hb⟩
  · have E := sgn_len _ _ hl
    have hn := (h.low hz).2.2
    have gn := (g.low gz).2.2
    have hn' := h.reads.2
    have gn' := g.reads.2
    have C := fun v => compare_int (nl (val zs)) (nl (val ys)) v
    rw [E] at C
    clear h g hz gz E
    generalize nl (val zs) = L at *
    generalize nl (val ys) = M at *
    go_enter Tryz.func76, Tryz.ntmps76
    go_wp2_with (first
      | (go_at_call 80; with_reducible refine Calls.mono R1 ?_; rintro e w1 ⟨rfl, rfl⟩)
      | (go_at_call 80; with_reducible refine Calls.mono R2 ?_; rintro e w1 ⟨rfl, rfl⟩)
      | (go_at_call 105; with_reducible refine Calls.mono (C _) ?_; rintro e w1 ⟨rfl, rfl⟩))
    go_ret
    exact ⟨rfl, Below.refl _ _⟩
end Go.Proofs.YtpimcbncmfpdhaaGreatDoor
/-
  Contract of package nat's function Sub, for all two lists of words: the list of the difference, or that there is none; memory that was there stays, and what is answered is the call's own.
-/
namespace Go.Proofs.YtpimcbncmfpdhaaGreatDoor
open Go.RowKit
attribute [local go_sem ↓] Go.wp_at_zero Go.wp_at_succ

/-- The difference's last borrow is 0. -/
theorem sub_last {ps qs ss : List Int} {k r : Nat} (hs : Wd ss) (hls : ss.length = ps.length) (hle : val qs ≤ val ps) (hl : qs.length ≤ ps.length) (hi : val ss + val (qs.take k) = val ps + r * 4294967296 ^ k) (hk : k = ps.length ∨ qs.length ≤ k ∧ r = 0) : val ss = val ps - val qs := by
  have e : qs.take k = qs := List.take_of_length_le (by omega)
  rw [e] at hi
  rcases hk with rfl | ⟨-, rfl⟩
  · have h1 := val_lt ss hs
    rw [hls] at h1
    rcases Nat.eq_zero_or_pos r with rfl | hc
    · omega
    · have h3 : 1 * 4294967296 ^ ps.length ≤ r * 4294967296 ^ ps.length := Nat.mul_le_mul_right _ hc
      omega
  · omega

/-- What Sub answers where there is a difference: a slice of the call's own, the list of the number N, and true. -/
def AnsOk (W : World) (N : Nat) (e : Ending) (w' : World) : Prop := ∃ a c, e = .returned (.tuple #[.slice a (nl N) c, .bool true]) ∧ Own W w' (.slice a (nl N) c) (nl N) (natOf N)

set_option maxHeartbeats 1000000 in
theorem nat_sub_no (a : Option Addr) (n c : Nat) (zs : List Int) (b : Option Addr) (m d : Nat) (ys : List Int) (w : World) (h : IsWords w (.slice a n c) zs) (hz : Wd zs) (g : IsWords w (.slice b m d) ys) (gz : Wd ys)
    (hlt : val zs < val ys) :
    Calls Tryz.prog 169 #[.slice a n c, .slice b m d] w fun e w' => e = .returned (.tuple #[.slice none 0 0, .bool false]) ∧ Below w.heap.size w w' := by
  have R1 := nat_right' a n c zs w h hz
  have R2 := nat_right' b m d ys w g gz
  have C := nat_cmp _ _ _ _ _ _ _ _ w (h.right hz) (wd_natOf _) (g.right gz) (wd_natOf _)
  rw [val_natOf, val_natOf, sgn_lt (by omega)] at C
  clear h g hz gz hlt
  go_enter Tryz.func169, Tryz.ntmps169
  go_wp2_with (first
    | (go_at_call 80; with_reducible refine Calls.mono R1 ?_; rintro e w1 ⟨rfl, rfl⟩)
    | (go_at_call 80; with_reducible refine Calls.mono R2 ?_; rintro e w1 ⟨rfl, rfl⟩)
    | (go_at_call 76; with_reducible refine Calls.mono C ?_; rintro e w1 ⟨rfl, bC⟩))
  go_ret2
  exact ⟨rfl, bC⟩

set_option maxHeartbeats 4000000 in
theorem nat_sub (a : Option Addr) (n c : Nat) (zs : List Int) (b : Option Addr) (m d : Nat) (ys : List Int) (w : World) (h : IsWords w (.slice a n c) zs) (hz : Wd zs) (g : IsWords w (.slice b m d) ys) (gz : Wd ys)
    (hn : n ≤ 1000000000000) (hge : val ys ≤ val zs) :
    Calls Tryz.prog 169 #[.slice a n c, .slice b m d] w (AnsOk w (val zs - val ys)) := by
  have R1 := nat_right' a n c zs w h hz
  have R2 := nat_right' b m d ys w g gz
  have P := h.right hz
  have Q := g.right gz
  have wP := wd_natOf (val zs)
  have wQ := wd_natOf (val ys)
  have b1 := (h.low hz).2.2
  have C := nat_cmp _ _ _ _ _ _ _ _ w P wP Q wQ
  rw [val_natOf, val_natOf] at C
  have hs : 0 ≤ sgn (val zs) (val ys) := by
    rcases Nat.lt_or_ge (val ys) (val zs) with h | h
    · rw [sgn_gt (by omega)]; omega
    · rw [sgn_eq (by omega)]; omega
  have lP : Hid ((natOf (val zs)).length = nl (val zs)) := rfl
  have lQ : Hid ((natOf (val ys)).length = nl (val ys)) := rfl
  have hle := nl_mono hge
  have HG : Hid (val (natOf (val ys)) ≤ val (natOf (val zs))) := by show _ ≤ _; rw [val_natOf, val_natOf]; exact hge
  have HV : Hid (val (natOf (val zs)) - val (natOf (val ys)) = val zs - val ys) := by show _ = _; rw [val_natOf, val_natOf]
  clear h g hz gz hge
  generalize val zs - val ys = S at HV ⊢
  generalize sgn (val zs) (val ys) = sg at C hs
  generalize nl (val zs) = LP at R1 P b1 lP C hle
  generalize nl (val ys) = LQ at R2 Q lQ C hle
  generalize natOf (val zs) = ps at P wP lP HV HG
  generalize natOf (val ys) = qs at Q wQ lQ HV HG
  have hLP : LP ≤ 1000000000000 := by omega
  go_enter Tryz.func169, Tryz.ntmps169
  go_wp2_with (first
    | (go_at_call 80; with_reducible refine Calls.mono R1 ?_; rintro e w1 ⟨rfl, rfl⟩)
    | (go_at_call 80; with_reducible refine Calls.mono R2 ?_; rintro e w1 ⟨rfl, rfl⟩)
    | (go_at_call 76; with_reducible refine Calls.mono C ?_; rintro e wC ⟨rfl, bC⟩)
    | (at_make; refine wpl_make_words (.tmp 18) rfl rfl w wC LP _ rfl rfl (by omega) bC ?_; intro g w1 hg o1)
    | (with_reducible show wpList _ _ _ (Oper.mk _ (Op.call { callee := Callee.builtin Builtin.copy, args := _, argTypes := _ }) _ _ _ _ :: _) _ _; refine wpl_copy_words (.tmp 20) (.tmp 21) rfl rfl w w1 g LP LP LP _ (List.replicate LP 0) ps o1 (P.below o1.below) rfl rfl lP.out (by omega) ?_; intro w2 o2))
  clear R1 R2 C bC
  go_loopw [7, 25] (fun cr i v => ∃ (k cy : Nat) (ss : List Int), k ≤ LP ∧ i = .int .i64 k ∧ cr = .int .u32 cy ∧ cy ≤ 1 ∧ Own w v (.slice (some ⟨g, 0, none⟩) LP LP) LP ss ∧ Wd ss ∧ val ss + val (qs.take k) = val ps + cy * 4294967296 ^ k) (fun _ i _ => LP - (intOf i).toNat)
  case atStart =>
    refine ⟨0, 0, _, by omega, rfl, rfl, by omega, o2, ?_, ?_⟩
    · rw [List.drop_replicate]; exact wd_append wP (wd_zeros _)
    · rw [List.drop_replicate, val_append_zeros]; simp [val]
  case round =>
    obtain ⟨k, cy, ss, hk, rfl, rfl, hcy, o, wS, hI⟩ := hrel
    have HI : Hid (val ss + val (qs.take k) = val ps + cy * 4294967296 ^ k) := hI
    clear hI o1 o2
    by_cases hdone : k = LP ∨ LQ ≤ k ∧ cy = 0
    · have HS : val ss = S := by
        have e1 := lP.out
        have e2 := lQ.out
        have e3 := o.length
        rw [sub_last wS (by omega) HG.out (by omega) HI.out (by omega), HV.out]
      have R3 := nat_right' _ _ _ ss wr o.words wS
      have OR := o.right wS
      rw [HS] at R3 OR
      clear HS HI P Q wP wQ lP lQ o wS HV HG
      by_cases hkM : k < LP
      · have h1 : LQ ≤ k := by omega
        have h2 : cy = 0 := by omega
        subst h2
        clear hdone
        go_wp2_with (first
          | (go_at_call 80; with_reducible refine Calls.mono R3 ?_; rintro e w1 ⟨rfl, rfl⟩))
        go_ret2
        exact ⟨_, _, rfl, OR⟩
      · clear hdone
        go_wp2_with (first
          | (go_at_call 80; with_reducible refine Calls.mono R3 ?_; rintro e w1 ⟨rfl, rfl⟩))
        go_ret2
        exact ⟨_, _, rfl, OR⟩
    · have EQ : Hid (val (qs.take (k + 1)) = val (qs.take k) + (qs.getD k 0).toNat * 4294967296 ^ k) := val_take_succ qs k
      have W1 := fun v hb z hz => nat_word _ _ _ _ v (Q.below hb) k (by omega) z hz
      obtain ⟨z0, z1⟩ := wd_getD wQ k
      have hkM : k < LP := by omega
      obtain ⟨hc, hf, hg1, hg2⟩ := o.cell k hkM
      have hss := o.length
      have ES := fun y => val_set ss k y (by omega)
      obtain ⟨x0, x1⟩ := wd_getD wS k
      generalize hqz : qs.getD k 0 = z at EQ z0 z1
      have HZ : Hid (qs.getD k 0 = z) := hqz
      clear hqz
      generalize ss.getD k 0 = x at hc ES x0 x1
      have od := o.drew
      have WC := W1 wr.drew od.below z HZ.out
      have AC := limb_sub x z cy wr.drew x0 x1 z0 z1 (by omega) (by omega)
      have HY : Hid (((x - z - cy) % 4294967296).toNat + z.toNat + cy = x.toNat + 4294967296 * (-((x - z - cy) / 4294967296)).toNat ∧ 0 ≤ -((x - z - cy) / 4294967296) ∧ -((x - z - cy) / 4294967296) ≤ 1 ∧ 0 ≤ (x - z - cy) % 4294967296 ∧ (x - z - cy) % 4294967296 < 4294967296) := ⟨by omega, by omega, by omega, by omega, by omega⟩
      generalize (x - z - cy) % 4294967296 = y at AC HY
      generalize -((x - z - cy) / 4294967296) = cq at AC HY
      have HN : Hid (val (ss.set k y) + val (qs.take (k + 1)) = val ps + cq.toNat * 4294967296 ^ (k + 1)) := by
        show _ = _
        rw [EQ.out, Nat.pow_succ]
        exact sub_step (ES y) HI.out HY.out.1
      have WN : Wd (ss.set k y) := wd_set wS k HY.out.2.2.2.1 HY.out.2.2.2.2
      clear W1 hss EQ HI HZ ES P Q wP wQ lP lQ wS HV HG
      by_cases h1 : LQ ≤ k
      case' pos => have h2 : ((cy : Int) == 0) = false := by simp; omega
      all_goals
        clear hdone
        go_wp2
        go_region_with (first
          | (go_at_call 168; with_reducible refine Calls.mono WC ?_; rintro e w3 ⟨rfl, rfl⟩)
          | (go_at_call 174; with_reducible refine Calls.mono AC ?_; rintro e w3 ⟨rfl, b3⟩; have o3 := od.more b3; obtain ⟨hc3, hf3, -, -⟩ := o3.cell k hkM))
        all_goals
          clear WC AC
          go_wp2
          go_roundw
          case rel => exact ⟨k + 1, cq.toNat, ss.set k y, by omega, by go_num, val_int (by have := HY.out.2.1; omega), by have := HY.out.2.2.1; omega, o3.set k y, WN, HN.out⟩
          case measure => simp [intOf]; omega
end Go.Proofs.YtpimcbncmfpdhaaGreatDoor
/-
  Small things that the statements' walks share: what came in, literals, lists of numbers, contracts of package nat's functions with the numbers named; a store into another block. No conditions of their own.
-/
namespace Go.Proofs.YtpimcbncmfpdhaaGreatDoor
open Go.RowKit

theorem came_wd {w : World} {a : Option Addr} {len cap : Nat} {zs : List Int} (h : CameIn .u32 w a len cap zs) : Wd (zs.take len) :=
  fun z hz => wf_u32 ((came_reads h).2.2.2 z hz)

theorem natOf_lit {n : Nat} (zs : List Int) (h : Wd zs) (hv : val zs = n) (hl : lowN zs zs.length = zs.length) : natOf n = zs := by
  rw [← hv, natOf_val zs h, hl]; exact List.take_length

theorem Own.isWords {W w w' : World} {v : Value} {n : Nat} {xs : List Int} (h : Own W w v n xs) (hb : Below w.heap.size w w') : IsWords w' v xs := (h.more hb).words

/-- A literal reads on in later worlds. -/
theorem lit_words2 (w : World) (xs ys : List Int) (n m : Nat) (hn : xs.length = n) (_hm : ys.length = m) (hx : n ≤ maxLen) :
    IsWords ((w.alloc (.cells (xs.map (Value.int .u32)).toArray 62)).alloc (.cells (ys.map (Value.int .u32)).toArray 62)) (.slice (some ⟨w.heap.size, 0, none⟩) n n) xs :=
  (lit_words w xs n hn hx).below ((Below.refl _ _).alloc (Nat.le_refl _) _)

theorem right_nat (n : Nat) : lowN (natOf n) (nl n) = nl n := by
  have := nl_val (natOf n) (wd_natOf n)
  rw [val_natOf] at this
  exact this.symm

theorem sgn_anti (a b : Int) : sgn b a = -sgn a b := by
  unfold sgn
  rcases Int.lt_trichotomy a b with h | h | h
  · rw [if_neg (by omega), if_pos h, if_pos h]; rfl
  · rw [if_neg (by omega), if_neg (by omega), if_neg (by omega), if_neg (by omega)]; rfl
  · rw [if_pos h, if_neg (by omega), if_pos h]
theorem sgn_add (a b c : Int) : sgn (a + c) (b + c) = sgn a b := by
  rcases Int.lt_trichotomy a b with h | h | h
  · rw [sgn_lt h, sgn_lt (by omega)]
  · rw [sgn_eq h, sgn_eq (by omega)]
  · rw [sgn_gt h, sgn_gt (by omega)]

/-- Add's contract, in the numbers' own words. -/
theorem nat_add' {a : Option Addr} {n c : Nat} {zs : List Int} {b : Option Addr} {m d : Nat} {ys : List Int} {w : World} (h : IsWords w (.slice a n c) zs) (hz : Wd zs) (g : IsWords w (.slice b m d) ys) (gz : Wd ys)
    (hn : n ≤ 1000000000000) (hm : m ≤ 1000000000000) (N : Nat) (hN : val zs + val ys = N) : Calls Tryz.prog 146 #[.slice a n c, .slice b m d] w (Ans w N) := by
  rw [← hN]; exact nat_add a n c zs b m d ys w h hz g gz hn hm
theorem nat_sub' {a : Option Addr} {n c : Nat} {zs : List Int} {b : Option Addr} {m d : Nat} {ys : List Int} {w : World} (h : IsWords w (.slice a n c) zs) (hz : Wd zs) (g : IsWords w (.slice b m d) ys) (gz : Wd ys)
    (hn : n ≤ 1000000000000) (N : Nat) (hN : N + val ys = val zs) : Calls Tryz.prog 169 #[.slice a n c, .slice b m d] w (AnsOk w N) := by
  rw [show N = val zs - val ys by omega]; exact nat_sub a n c zs b m d ys w h hz g gz hn (by omega)
theorem nat_cmp' {a : Option Addr} {n c : Nat} {zs : List Int} {b : Option Addr} {m d : Nat} {ys : List Int} {w : World} (h : IsWords w (.slice a n c) zs) (hz : Wd zs) (g : IsWords w (.slice b m d) ys) (gz : Wd ys)
    (s : Int) (hs : sgn (val zs) (val ys) = s) : Calls Tryz.prog 76 #[.slice a n c, .slice b m d] w fun e w' => e = .returned (.int .i64 s) ∧ Below w.heap.size w w' := by
  rw [← hs]; exact nat_cmp a n c zs b m d ys w h hz g gz

theorem nl_small {xs : List Int} (h : Wd xs) (n : Nat) (hn : xs.length ≤ n) : nl (val xs) ≤ n := Nat.le_trans (nl_val_le xs h) hn

theorem wf_u8 {a : Int} (h : (Lit.int .u8 a).wf = true) : 0 ≤ a ∧ a < 256 := by
  simp [Lit.wf, IntKind.min, IntKind.max, IntKind.signed, IntKind.bits] at h; omega

/-- Sub's answer, whether there is a difference or none. -/
def AnsSub (W : World) (N : Nat) (r : Bool) (e : Ending) (w' : World) : Prop := ∃ a c, e = .returned (.tuple #[.slice a (nl N) c, .bool r]) ∧ Own W w' (.slice a (nl N) c) (nl N) (natOf N)

theorem nat_sub_any {a : Option Addr} {n c : Nat} {zs : List Int} {b : Option Addr} {m d : Nat} {ys : List Int} {w : World} (h : IsWords w (.slice a n c) zs) (hz : Wd zs) (g : IsWords w (.slice b m d) ys) (gz : Wd ys)
    (hn : n ≤ 1000000000000) (A B : Nat) (hA : val zs = A) (hB : val ys = B) : Calls Tryz.prog 169 #[.slice a n c, .slice b m d] w (AnsSub w (A - B) (decide (B ≤ A))) := by
  subst hA hB
  rcases Nat.lt_or_ge (val zs) (val ys) with hlt | hge
  · refine (nat_sub_no a n c zs b m d ys w h hz g gz hlt).mono ?_
    rintro e w1 ⟨rfl, b1⟩
    rw [show val zs - val ys = 0 by omega, show decide (val ys ≤ val zs) = false by simp; omega]
    refine ⟨none, 0, by rw [nl_zero], ?_⟩
    rw [nl_zero, natOf_zero]
    exact Own.nil b1
  · refine (nat_sub a n c zs b m d ys w h hz g gz hn hge).mono ?_
    rintro e w1 ⟨a1, c1, rfl, o1⟩
    rw [show decide (val ys ≤ val zs) = true by simpa using hge]
    exact ⟨a1, c1, rfl, o1⟩

/-- A store into another block of the call's own. -/
theorem Own.other {W w : World} {a : Option Addr} {n c : Nat} {xs : List Int} (h : Own W w (.slice a n c) n xs) {g k : Nat} (hg : W.heap.size ≤ g) (hne : ∀ g', a = some ⟨g', 0, none⟩ → g' ≠ g) (u : Value) :
    Own W (w.setCell ⟨g, k, none⟩ u) (.slice a n c) n xs := by
  refine ⟨⟨h.1.1, ?_⟩, h.2.setCell hg _⟩
  rcases h.1.2 with h0 | ⟨g', cap, cur, e, h1, hg', h2⟩
  · exact .inl h0
  · refine .inr ⟨g', cap, cur, e, h1, ?_, h2⟩
    simp only [Value.slice.injEq] at e
    have := hne g' e.1
    rw [Below.heap_setCell w ⟨g, k, none⟩ u g' (by simpa using this)]
    exact hg'

end Go.Proofs.YtpimcbncmfpdhaaGreatDoor
/-
  Contracts of the document's own answers for words (package talwegref01: Add, Sub, Mul, Div, Bits, Low), for every word and list: the same plain integers as package limb's; memory stays.
-/
namespace Go.Proofs.YtpimcbncmfpdhaaGreatDoor
open Go.RowKit






theorem ref_low (a : Option Addr) (n cap : Nat) (zs : List Int) (w : World) (hr : Reads .u32 w a n zs) (hn : n ≤ 9223372036854775807) :
    Calls Tryz.prog 46 #[.slice a n cap] w fun e w' => e = .returned (.int .i64 (lowN zs n)) ∧ w = w' := by
  obtain ⟨-, rfl | ⟨b, off, rfl, hc⟩⟩ := hr
  · go_enter Tryz.func46, Tryz.ntmps46
    go_wp2
    go_loop [3, 4] (fun s i => s = .int .i64 0 ∧ i = .int .i64 0) (fun _ _ => 0)
    case atStart => exact ⟨rfl, rfl⟩
    case round =>
      obtain ⟨rfl, rfl⟩ := hrel
      go_wp2
      go_ret
      exact ⟨rfl, rfl⟩
  · go_enter Tryz.func46, Tryz.ntmps46
    go_wp2
    go_loop [3, 4] (fun s i => ∃ k m : Nat, k ≤ n ∧ i = .int .i64 k ∧ s = .int .i64 m ∧ lowN zs k = m) (fun _ i => n - (intOf i).toNat)
    case atStart => exact ⟨0, 0, by omega, rfl, rfl, rfl⟩
    case round =>
      obtain ⟨k, m, hk, rfl, rfl, hl⟩ := hrel
      have HL : Hid (lowN zs k = m) := hl
      clear hl
      by_cases hlt : k < n
      · have hck := hc k hlt
        by_cases hz : zs.getD k 0 = 0
        · rw [hz] at hck
          have HZ : Hid (zs.getD k 0 = 0) := hz
          clear hz hc
          go_wp2
          go_round
          case rel => exact ⟨k + 1, m, by omega, by go_num, rfl, by rw [lowN_zero HZ.out]; exact HL.out⟩
          case measure => simp [intOf]; omega
        · have HZ : Hid (zs.getD k 0 ≠ 0) := hz
          generalize zs.getD k 0 = z at hck hz
          have hz' : (z == 0) = false := by simpa using hz
          clear hz hc
          go_wp2
          go_round
          case rel => exact ⟨k + 1, k + 1, by omega, by go_num, by go_num, lowN_keep HZ.out⟩
          case measure => simp [intOf]; omega
      · have HE : Hid (k = n) := (by omega : k = n)
        clear hc
        go_wp2
        go_ret
        exact ⟨ret_int (by rw [← HE.out, HL.out]), rfl⟩
end Go.Proofs.YtpimcbncmfpdhaaGreatDoor
/-
  Contracts of the document's own answers for numbers (package talwegref02: Trim, at, Of, Small, Bits, Cmp, Few) and of talwegref01's Words, for every list of words: as numbers; memory that was there stays.
-/
namespace Go.Proofs.YtpimcbncmfpdhaaGreatDoor
open Go.RowKit

theorem words_step {xs ys : List Int} {k : Nat} (h : xs.take k = ys.take k) (he : xs.getD k 0 = ys.getD k 0) (hx : k < xs.length) (hy : k < ys.length) : xs.take (k + 1) = ys.take (k + 1) := by
  rw [List.take_succ_eq_append_getElem hx, List.take_succ_eq_append_getElem hy, h]
  simp [List.getD_eq_getElem?_getD, hx, hy] at he
  rw [he]

set_option maxHeartbeats 1000000 in
/-- Are two lists of words one? -/
theorem ref_words (a : Option Addr) (n c : Nat) (xs : List Int) (b : Option Addr) (m d : Nat) (ys : List Int) (w : World) (h : IsWords w (.slice a n c) xs) (g : IsWords w (.slice b m d) ys) (r : Bool) (hr : decide (xs = ys) = r) :
    Calls Tryz.prog 50 #[.slice a n c, .slice b m d] w fun e w' => e = .returned (.bool r) ∧ Below w.heap.size w w' := by
  obtain ⟨hr1, hn⟩ := h.reads
  obtain ⟨hr2, hm⟩ := g.reads
  clear h g
  by_cases hl : n = m
  · subst hl
    go_enter Tryz.func50, Tryz.ntmps50
    go_wp2
    go_loopw [5] (fun i v => ∃ k : Nat, k ≤ n ∧ i = .int .i64 k ∧ Below w.heap.size w v ∧ xs.take k = ys.take k) (fun i _ => n - (intOf i).toNat)
    case atStart => exact ⟨0, by omega, rfl, Below.refl _ _, rfl⟩
    case round =>
      obtain ⟨k, hk, rfl, hb, hd⟩ := hrel
      have HD : Hid (xs.take k = ys.take k) := hd
      clear hd
      by_cases hlt : k < n
      · rcases hr1.2 with h0 | ⟨b1, o1, rfl, hc1⟩
        · omega
        rcases hr2.2 with h0 | ⟨b2, o2, rfl, hc2⟩
        · omega
        have h1 := hc1 k hlt
        have h2 := hc2 k hlt
        rw [← hb.cell (p := ⟨b1, o1 + k, none⟩) (World.block_lt_of_cell? w _ h1)] at h1
        rw [← hb.cell (p := ⟨b2, o2 + k, none⟩) (World.block_lt_of_cell? w _ h2)] at h2
        have l1 : Hid (xs.length = n) := hr1.1
        have l2 : Hid (ys.length = n) := hr2.1
        by_cases he : xs.getD k 0 = ys.getD k 0
        · rw [he] at h1
          have HE : Hid (xs.getD k 0 = ys.getD k 0) := he
          generalize ys.getD k 0 = y at h1 h2
          clear hc1 hc2 hr1 hr2 he
          go_wp2
          go_quiet (fail)
          go_wp2
          go_roundw
          case rel => exact ⟨k + 1, by omega, by go_num, below_drewN hb _, words_step HD.out HE.out (by rw [l1.out]; omega) (by rw [l2.out]; omega)⟩
          case measure => simp [intOf]; omega
        · have hf : r = false := by
            rw [← hr]
            simp only [decide_eq_false_iff_not]
            intro e; exact he (by rw [e])
          subst hf
          clear hr
          generalize xs.getD k 0 = x at h1 he
          generalize ys.getD k 0 = y at h2 he
          have hne : (x == y) = false := by simpa using he
          clear hc1 hc2 hr1 hr2 he
          go_wp2
          go_quiet (fail)
          go_wp2
          go_ret
          exact ⟨rfl, below_drewN hb _⟩
      · have ht : r = true := by
          rw [← hr]
          have := HD.out
          rw [List.take_of_length_le (by rw [hr1.1]; omega), List.take_of_length_le (by rw [hr2.1]; omega)] at this
          simpa using this
        subst ht
        clear hr hr1 hr2
        go_wp2
        go_ret
        exact ⟨rfl, hb⟩
  · have hf : r = false := by
      rw [← hr]
      simp only [decide_eq_false_iff_not]
      intro e; exact hl (by rw [← hr1.1, ← hr2.1, e])
    subst hf
    clear hr hr1 hr2
    go_enter Tryz.func50, Tryz.ntmps50
    go_wp2
    go_ret
    exact ⟨rfl, Below.refl _ _⟩


theorem ref_at (a : Option Addr) (n c : Nat) (zs : List Int) (w : World) (h : IsWords w (.slice a n c) zs) (k : Nat) (hk : k ≤ 9223372036854775807) (z : Int) (hz : zs.getD k 0 = z) (z0 : 0 ≤ z) (z1 : z < 4294967296) :
    Calls Tryz.prog 121 #[.slice a n c, .int .i64 k] w fun e w' => e = .returned (.int .u64 z) ∧ w = w' := by
  obtain ⟨⟨hl, hr⟩, hn⟩ := h.reads
  by_cases hlt : k < n
  · rcases hr with h0 | ⟨b, off, rfl, hc⟩
    · omega
    · have hck := hc k hlt
      rw [hz] at hck
      clear hc hz h
      go_enter Tryz.func121, Tryz.ntmps121
      go_wp2
      go_ret
      exact ⟨rfl, rfl⟩
  · have : z = 0 := by rw [← hz]; simp [List.getD_eq_getElem?_getD, List.getElem?_eq_none (by omega : zs.length ≤ k)]
    subst this
    clear h hr hz
    go_enter Tryz.func121, Tryz.ntmps121
    go_wp2
    go_ret
    exact ⟨rfl, rfl⟩
end Go.Proofs.YtpimcbncmfpdhaaGreatDoor
/-
  Contracts of the document's own answers for numbers (package talwegref02: Trim, Of, Small, Bits), for every list of words and every number: as numbers; memory that was there stays, and what is answered is the call's own.
-/
namespace Go.Proofs.YtpimcbncmfpdhaaGreatDoor
open Go.RowKit

theorem ref_low_nl (a : Option Addr) (n c : Nat) (zs : List Int) (w : World) (h : IsWords w (.slice a n c) zs) (hz : Wd zs) :
    Calls Tryz.prog 46 #[.slice a n c] w fun e w' => e = .returned (.int .i64 (nl (val zs))) ∧ w = w' := by
  have C := ref_low a n c zs w h.reads.1 h.reads.2
  rw [(h.low hz).1] at C
  exact C

theorem take_snoc {zs : List Int} {k : Nat} (h : k < zs.length) : zs.take k ++ [zs.getD k 0] = zs.take (k + 1) := by
  rw [List.take_succ_eq_append_getElem h]; simp [List.getD_eq_getElem?_getD, h]

set_option maxHeartbeats 1000000 in
theorem ref_trim (a : Option Addr) (n c : Nat) (zs : List Int) (w : World) (h : IsWords w (.slice a n c) zs) (hz : Wd zs) (hn : n ≤ 1000000000000) :
    Calls Tryz.prog 41 #[.slice a n c] w (Ans w (val zs)) := by
  have C := ref_low_nl a n c zs w h hz
  have hl := h.low hz
  have hL := hl.2.2
  have hr := h.reads.1
  have HE : Hid (zs.take (nl (val zs)) = natOf (val zs)) := hl.2.1
  unfold Ans
  generalize nl (val zs) = L at C hL HE
  clear hl h hz
  go_enter Tryz.func41, Tryz.ntmps41
  go_wp2_with (go_at_call 46; with_reducible refine Calls.mono C ?_; rintro e w1 ⟨rfl, rfl⟩)
  clear C
  go_loopw [4, 5] (fun s i v => ∃ (k : Nat) (oa : Option Addr) (oc : Nat), k ≤ L ∧ i = .int .i64 k ∧ s = .slice oa k oc ∧ Own w v (.slice oa k oc) k (zs.take k)) (fun _ i _ => L - (intOf i).toNat)
  case atStart => exact ⟨0, none, 0, by omega, rfl, rfl, Own.nil (Below.refl _ _)⟩
  case round =>
    obtain ⟨k, oa, oc, hk, rfl, rfl, o⟩ := hrel
    by_cases hlt : k < L
    · rcases hr.2 with h0 | ⟨b1, o1, rfl, hc1⟩
      · omega
      have h1 := hc1 k (by omega)
      rw [← o.below.cell (p := ⟨b1, o1 + k, none⟩) (World.block_lt_of_cell? w _ h1)] at h1
      have HT : Hid (zs.take k ++ [zs.getD k 0] = zs.take (k + 1)) := take_snoc (by rw [hr.1]; omega)
      clear hc1 hr
      generalize zs.getD k 0 = z at h1 HT
      generalize zs.take k = xs at o HT
      go_wp2_with (first
        | (at_builtin; refine wpl_append_words (.tmp 13) (.tmp 18) rfl rfl w _ _ _ k 1 xs [z] rfl rfl (o.alloc _) (lit_words _ [z] 1 rfl (by decide)) rfl (k + 1) rfl (by omega) ?_; intro a1 c1 w1 o1 g1))
      go_roundw
      case rel => exact ⟨k + 1, a1, c1, by omega, by go_num, rfl, by rw [← HT.out]; exact o1⟩
      case measure => simp [intOf]; omega
    · obtain rfl : k = L := by omega
      rw [HE.out] at o
      clear hr HE
      go_wp2
      go_ret
      exact ⟨_, _, rfl, o⟩

set_option maxHeartbeats 1000000 in
theorem ref_of (n : Int) (w : World) (h0 : 0 ≤ n) (h1 : n < 18446744073709551616) :
    Calls Tryz.prog 87 #[.int .u64 n] w (Ans w n.toNat) := by
  have HB : Hid ((natOf n.toNat).length ≤ 2) := nl_le 2 n.toNat (by omega)
  have HN : Hid (nl n.toNat = (natOf n.toNat).length) := rfl
  unfold Ans
  generalize hys : natOf n.toNat = ys at HB HN
  generalize nl n.toNat = L at HN
  have HM : Hid (natOf n.toNat = ys) := hys
  clear hys
  go_enter Tryz.func87, Tryz.ntmps87
  go_wp2
  go_loopw [0, 3] (fun i s v => ∃ (r : Int) (k : Nat) (oa : Option Addr) (oc : Nat) (xs : List Int), 0 ≤ r ∧ r < 18446744073709551616 ∧ i = .int .u64 r ∧ s = .slice oa k oc ∧ Own w v (.slice oa k oc) k xs ∧ xs ++ natOf r.toNat = ys) (fun i _ _ => (intOf i).toNat)
  case atStart => exact ⟨n, 0, none, 0, [], h0, h1, rfl, rfl, Own.nil (Below.refl _ _), HM.out⟩
  case round =>
    obtain ⟨r, k, oa, oc, xs, hr0, hr, rfl, rfl, o, hx⟩ := hrel
    have HX : Hid (xs ++ natOf r.toNat = ys) := hx
    clear hx
    by_cases h0 : r = 0
    · subst h0
      have HX' := HX.out
      rw [show (0 : Int).toNat = 0 from rfl, natOf_zero, List.append_nil] at HX'
      subst HX'
      have hk := o.length
      rw [← HN.out] at hk
      subst hk
      clear HX HM HB HN
      go_wp2
      go_ret
      exact ⟨_, _, rfl, o⟩
    · have hpos : 0 < r := by omega
      have hX := HX.out
      rw [natOf_pos (by omega), List.append_cons, show ((r.toNat % 4294967296 : Nat) : Int) = r % 4294967296 by omega, show r.toNat / 4294967296 = (r / 4294967296).toNat by omega] at hX
      have HX2 : Hid (xs ++ [r % 4294967296] ++ natOf (r / 4294967296).toNat = ys) := hX
      have hk : k + 1 ≤ 2 := by
        have e := congrArg List.length hX
        have := HB.out
        have := o.length
        simp only [List.length_append, List.length_cons, List.length_nil] at e
        omega
      clear HX hX HM HB HN
      go_wp2_with (first
        | (at_builtin; refine wpl_append_words (.tmp 6) (.tmp 10) rfl rfl w _ _ _ k 1 xs [r % 4294967296] rfl rfl (o.alloc _) (lit_words _ [r % 4294967296] 1 rfl (by decide)) rfl (k + 1) rfl (by omega) ?_; intro a1 c1 w1 o1 g1))
      go_roundw
      case rel => exact ⟨r / 4294967296, k + 1, a1, c1, _, by omega, by omega, rfl, rfl, o1, HX2.out⟩
      case measure => simp [intOf]; omega


end Go.Proofs.YtpimcbncmfpdhaaGreatDoor
/-
  Contracts of the document's own answers for numbers (package talwegref02: Cmp, Add, Sub), for all two lists of words: as numbers; memory that was there stays, and what is answered is the call's own.
-/
namespace Go.Proofs.YtpimcbncmfpdhaaGreatDoor
open Go.RowKit

set_option maxHeartbeats 2000000 in
theorem ref_cmp (a : Option Addr) (n c : Nat) (zs : List Int) (b : Option Addr) (m d : Nat) (ys : List Int) (w : World) (h : IsWords w (.slice a n c) zs) (hz : Wd zs) (g : IsWords w (.slice b m d) ys) (gz : Wd ys)
    (hn : n ≤ 1000000000000) (hm : m ≤ 1000000000000) :
    Calls Tryz.prog 91 #[.slice a n c, .slice b m d] w fun e w' => e = .returned (.int .i64 (sgn (val zs) (val ys))) ∧ w = w' := by
  have l1 : Hid (zs.length = n) := h.len
  have l2 : Hid (ys.length = m) := g.len
  have A1 := fun k hk => ref_at a n c zs w h k hk _ rfl (wd_getD hz k).1 (wd_getD hz k).2
  have A2 := fun k hk => ref_at b m d ys w g k hk _ rfl (wd_getD gz k).1 (wd_getD gz k).2
  have HZ : Hid (Wd zs) := hz
  have GZ : Hid (Wd ys) := gz
  clear h g hz gz
  rcases Nat.lt_or_ge n m with hnm | hnm
  all_goals
    go_enter Tryz.func91, Tryz.ntmps91
    go_wp2
    go_loop [6] (fun i => ∃ k : Nat, k ≤ 1000000000000 ∧ i = .int .i64 ((k : Int) - 1) ∧ val (zs.drop k) = val (ys.drop k)) (fun i => (intOf i + 1).toNat)
    case atStart =>
      have e1 := l1.out
      have e2 := l2.out
      first
        | exact ⟨m, hm, rfl, by rw [List.drop_of_length_le (by omega), List.drop_of_length_le (by omega)]⟩
        | exact ⟨n, hn, rfl, by rw [List.drop_of_length_le (by omega), List.drop_of_length_le (by omega)]⟩
    case round =>
      obtain ⟨k, hk, rfl, hd⟩ := hrel
      have HD : Hid (val (zs.drop k) = val (ys.drop k)) := hd
      clear hd
      rcases Nat.eq_zero_or_pos k with hk0 | hk0
      · subst hk0
        have HE : Hid (sgn (val zs) (val ys) = 0) := sgn_eq (by have := HD.out; rw [List.drop_zero, List.drop_zero] at this; omega)
        clear HD A1 A2
        rw [show ((0 : Nat) : Int) - 1 = -1 from rfl]
        go_wp2
        go_ret
        exact ⟨ret_int HE.out.symm, rfl⟩
      · obtain ⟨t, rfl⟩ : ∃ t, k = t + 1 := ⟨k - 1, by omega⟩
        rw [show ((t + 1 : Nat) : Int) - 1 = t by omega]
        have B1 := A1 t (by omega)
        have B2 := A2 t (by omega)
        obtain ⟨x0, x1⟩ := wd_getD HZ.out t
        obtain ⟨y0, y1⟩ := wd_getD GZ.out t
        have D1 : Hid (val (zs.drop t) = (zs.getD t 0).toNat + 4294967296 * val (zs.drop (t + 1))) := val_drop zs t
        have D2 : Hid (val (ys.drop t) = (ys.getD t 0).toNat + 4294967296 * val (ys.drop (t + 1))) := val_drop ys t
        have HS : zs.getD t 0 ≠ ys.getD t 0 → Hid (sgn (zs.getD t 0) (ys.getD t 0) = sgn (val zs) (val ys)) := fun hne => sgn_val HZ.out GZ.out t HD.out hne
        clear A1 A2
        generalize zs.getD t 0 = x at B1 D1 HS x0 x1
        generalize ys.getD t 0 = y at B2 D2 HS y0 y1
        rcases Int.lt_trichotomy x y with hxy | hxy | hxy
        · have H := HS (by omega)
          rw [sgn_lt hxy] at H
          clear HS
          go_wp2_with (first
            | (go_at_call 121; with_reducible refine Calls.mono B1 ?_; rintro e w1 ⟨rfl, rfl⟩)
            | (go_at_call 121; with_reducible refine Calls.mono B2 ?_; rintro e w1 ⟨rfl, rfl⟩))
          go_ret
          exact ⟨ret_int H.out, rfl⟩
        · subst hxy
          clear HS
          go_wp2_with (first
            | (go_at_call 121; with_reducible refine Calls.mono B1 ?_; rintro e w1 ⟨rfl, rfl⟩)
            | (go_at_call 121; with_reducible refine Calls.mono B2 ?_; rintro e w1 ⟨rfl, rfl⟩))
          go_round
          case rel => exact ⟨t, by omega, rfl, by rw [D1.out, D2.out, HD.out]⟩
          case measure => simp [intOf]
        · have H := HS (by omega)
          rw [sgn_gt hxy] at H
          have hxy' : ¬ x < y := by omega
          clear HS
          go_wp2_with (first
            | (go_at_call 121; with_reducible refine Calls.mono B1 ?_; rintro e w1 ⟨rfl, rfl⟩)
            | (go_at_call 121; with_reducible refine Calls.mono B2 ?_; rintro e w1 ⟨rfl, rfl⟩))
          go_ret
          exact ⟨ret_int H.out, rfl⟩

/-- The document's sum: its last carry is 0. -/
theorem ref_add_last {ps qs ss : List Int} {M cy : Nat} (hp : Wd ps) (hq : Wd qs) (h1 : ps.length ≤ M) (h2 : qs.length ≤ M) (hi : val ss + cy * 4294967296 ^ (M + 1) = val (ps.take (M + 1)) + val (qs.take (M + 1))) : val ss = val ps + val qs := by
  rw [List.take_of_length_le (by omega), List.take_of_length_le (by omega)] at hi
  have g1 : val ps < 4294967296 ^ M := Nat.lt_of_lt_of_le (val_lt ps hp) (Nat.pow_le_pow_right (by omega) h1)
  have g2 : val qs < 4294967296 ^ M := Nat.lt_of_lt_of_le (val_lt qs hq) (Nat.pow_le_pow_right (by omega) h2)
  rw [Nat.pow_succ, ← Nat.mul_assoc] at hi
  rcases Nat.eq_zero_or_pos cy with rfl | hc
  · omega
  · have h3 : 1 * 4294967296 ^ M ≤ cy * 4294967296 ^ M := Nat.mul_le_mul_right _ hc
    generalize cy * 4294967296 ^ M = r at hi h3
    generalize 4294967296 ^ M = p at g1 g2 h3
    omega

/-- One word's step of the document's sum. -/
theorem ref_add_step {p S A B x y b c c' : Nat} (hi : S + c * p = A + B) (hy : y + 4294967296 * c' = x + b + c) : (S + y * p) + c' * (p * 4294967296) = (A + x * p) + (B + b * p) := by
  have e : (y + 4294967296 * c') * p = (x + b + c) * p := by rw [hy]
  rw [Nat.add_mul, Nat.add_mul, Nat.add_mul] at e
  have e2 : c' * (p * 4294967296) = 4294967296 * c' * p := by rw [Nat.mul_comm p, ← Nat.mul_assoc, Nat.mul_comm c']
  rw [e2]; omega
/-- One word's step of the document's difference. -/
theorem ref_sub_step {p S A B x y b c c' : Nat} (hi : S + B = A + c * p) (hy : y + b + c = x + 4294967296 * c') : (S + y * p) + (B + b * p) = (A + x * p) + c' * (p * 4294967296) := by
  have e : (y + b + c) * p = (x + 4294967296 * c') * p := by rw [hy]
  rw [Nat.add_mul, Nat.add_mul, Nat.add_mul] at e
  have e2 : c' * (p * 4294967296) = 4294967296 * c' * p := by rw [Nat.mul_comm p, ← Nat.mul_assoc, Nat.mul_comm c']
  rw [e2]; omega

set_option maxHeartbeats 2000000 in
theorem ref_nadd (a : Option Addr) (n c : Nat) (zs : List Int) (b : Option Addr) (m d : Nat) (ys : List Int) (w : World) (h : IsWords w (.slice a n c) zs) (hz : Wd zs) (g : IsWords w (.slice b m d) ys) (gz : Wd ys)
    (hn : n ≤ 1000000000) (hm : m ≤ 1000000000) :
    Calls Tryz.prog 95 #[.slice a n c, .slice b m d] w (Ans w (val zs + val ys)) := by
  have l1 : Hid (zs.length = n) := h.len
  have l2 : Hid (ys.length = m) := g.len
  rcases Nat.lt_or_ge n m with hnm | hnm
  case' inl => obtain ⟨M, hM1, hM2⟩ : ∃ M : Nat, M ≤ m ∧ m ≤ M := ⟨m, by omega, by omega⟩
  case' inr => obtain ⟨M, hM1, hM2⟩ : ∃ M : Nat, M ≤ n ∧ n ≤ M := ⟨n, by omega, by omega⟩
  all_goals
    go_enter Tryz.func95, Tryz.ntmps95
    go_wp2
    go_loopw [5, 6, 7] (fun s cr i v => ∃ (k : Nat) (cy : Int) (oa : Option Addr) (oc : Nat) (ss : List Int), k ≤ M + 1 ∧ i = .int .i64 k ∧ cr = .int .u64 cy ∧ 0 ≤ cy ∧ cy ≤ 1 ∧ s = .slice oa k oc ∧ Own w v (.slice oa k oc) k ss ∧ Wd ss ∧ val ss + cy.toNat * 4294967296 ^ k = val (zs.take k) + val (ys.take k)) (fun _ _ i _ => M + 1 - (intOf i).toNat)
    case atStart => exact ⟨0, 0, none, 0, [], by omega, rfl, rfl, by omega, by omega, rfl, Own.nil (Below.refl _ _), wd_nil, by simp [val]⟩
    case round =>
      obtain ⟨k, cy, oa, oc, ss, hk, rfl, rfl, hc0, hc1, rfl, o, wS, hI⟩ := hrel
      have HI : Hid (val ss + cy.toNat * 4294967296 ^ k = val (zs.take k) + val (ys.take k)) := hI
      clear hI
      by_cases hlt : k ≤ M
      · have B1 := ref_at a n c zs wr (h.below o.below) k (by omega) _ rfl (wd_getD hz k).1 (wd_getD hz k).2
        have B2 := ref_at b m d ys wr (g.below o.below) k (by omega) _ rfl (wd_getD gz k).1 (wd_getD gz k).2
        obtain ⟨x0, x1⟩ := wd_getD hz k
        obtain ⟨y0, y1⟩ := wd_getD gz k
        have T1 : Hid (val (zs.take (k + 1)) = val (zs.take k) + (zs.getD k 0).toNat * 4294967296 ^ k) := val_take_succ zs k
        have T2 : Hid (val (ys.take (k + 1)) = val (ys.take k) + (ys.getD k 0).toNat * 4294967296 ^ k) := val_take_succ ys k
        have HL : Hid (ss.length = k) := o.length
        generalize zs.getD k 0 = x at B1 T1 x0 x1
        generalize ys.getD k 0 = y at B2 T2 y0 y1
        have HN : Hid (val (ss ++ [(x + y + cy) % 4294967296]) + ((x + y + cy) / 4294967296).toNat * 4294967296 ^ (k + 1) = val (zs.take (k + 1)) + val (ys.take (k + 1))) := by
          show _ = _
          rw [T1.out, T2.out, val_snoc, HL.out, Nat.pow_succ]
          exact ref_add_step HI.out (by omega)
        have WN : Wd (ss ++ [(x + y + cy) % 4294967296]) := wd_append wS (wd_one (by omega) (by omega))
        clear T1 T2 HL HI h g hz gz l1 l2 wS
        go_wp2_with (first
          | (go_at_call 121; with_reducible refine Calls.mono B1 ?_; rintro e w1 ⟨rfl, rfl⟩)
          | (go_at_call 121; with_reducible refine Calls.mono B2 ?_; rintro e w1 ⟨rfl, rfl⟩)
          | (at_builtin; refine wpl_append_words (.tmp 27) (.tmp 31) rfl rfl w _ _ _ k 1 ss [(x + y + cy) % 4294967296] rfl rfl (o.alloc _) (lit_words _ [(x + y + cy) % 4294967296] 1 rfl (by decide)) rfl (k + 1) rfl (by omega) ?_; intro a1 c1 w1 o1 g1))
        go_roundw
        case rel => exact ⟨k + 1, (x + y + cy) / 4294967296, a1, c1, _, by omega, by go_num, rfl, by omega, by omega, rfl, o1, WN, HN.out⟩
        case measure => simp [intOf]; omega
      · obtain rfl : k = M + 1 := by omega
        have HS := ref_add_last hz gz (by rw [l1.out]; omega) (by rw [l2.out]; omega) HI.out
        have R := ref_trim oa (M + 1) oc ss wr o.words wS (by omega)
        rw [HS] at R
        have ob := o.below
        clear HS HI h g hz gz l1 l2 wS o
        have hgt : ¬ ((M : Int) + 1 ≤ M) := by omega
        go_wp2_with (first
          | (go_at_call 41; (with_reducible refine Calls.mono R ?_); rintro e w1 ⟨a1, c1, rfl, o1⟩))
        go_ret
        exact ⟨_, _, rfl, o1.outer ob⟩

-- <<IF F talweg/talwegref02.Sub>>
/-- The document's difference: its last borrow is 0. -/
theorem ref_sub_last {ps qs ss : List Int} {r : Nat} (hs : Wd ss) (hp : Wd ps) (hls : ss.length = ps.length) (hle : val qs ≤ val ps) (hi : val ss + val (qs.take ps.length) = val (ps.take ps.length) + r * 4294967296 ^ ps.length) : val ss = val ps - val qs := by
  have h0 := val_lt ps hp
  rw [val_take_all qs _ (by omega), List.take_of_length_le (Nat.le_refl _)] at hi
  have h1 := val_lt ss hs
  rw [hls] at h1
  rcases Nat.eq_zero_or_pos r with rfl | hc
  · omega
  · have h3 : 1 * 4294967296 ^ ps.length ≤ r * 4294967296 ^ ps.length := Nat.mul_le_mul_right _ hc
    omega

set_option maxHeartbeats 1000000 in
theorem ref_nsub_no (a : Option Addr) (n c : Nat) (zs : List Int) (b : Option Addr) (m d : Nat) (ys : List Int) (w : World) (h : IsWords w (.slice a n c) zs) (hz : Wd zs) (g : IsWords w (.slice b m d) ys) (gz : Wd ys)
    (hn : n ≤ 1000000000) (hm : m ≤ 1000000000) (hlt : val zs < val ys) :
    Calls Tryz.prog 96 #[.slice a n c, .slice b m d] w fun e w' => e = .returned (.tuple #[.slice none 0 0, .bool false]) ∧ w = w' := by
  have C := ref_cmp _ _ _ _ _ _ _ _ w h hz g gz (by omega) (by omega)
  rw [sgn_lt (by omega)] at C
  clear h g hz gz hlt
  go_enter Tryz.func96, Tryz.ntmps96
  go_wp2_with (first
    | (go_at_call 91; with_reducible refine Calls.mono C ?_; rintro e w1 ⟨rfl, rfl⟩))
  go_ret2
  exact ⟨rfl, rfl⟩

set_option maxHeartbeats 2000000 in
theorem ref_nsub (a : Option Addr) (n c : Nat) (zs : List Int) (b : Option Addr) (m d : Nat) (ys : List Int) (w : World) (h : IsWords w (.slice a n c) zs) (hz : Wd zs) (g : IsWords w (.slice b m d) ys) (gz : Wd ys)
    (hn : n ≤ 1000000000) (hm : m ≤ 1000000000) (hge : val ys ≤ val zs) :
    Calls Tryz.prog 96 #[.slice a n c, .slice b m d] w (AnsOk w (val zs - val ys)) := by
  have C := ref_cmp _ _ _ _ _ _ _ _ w h hz g gz (by omega) (by omega)
  have l1 : Hid (zs.length = n) := h.len
  have hs : 0 ≤ sgn (val zs) (val ys) := by
    rcases Nat.lt_or_ge (val ys) (val zs) with h | h
    · rw [sgn_gt (by omega)]; omega
    · rw [sgn_eq (by omega)]; omega
  generalize sgn (val zs) (val ys) = sg at C hs
  have HG : Hid (val ys ≤ val zs) := hge
  clear hge
  go_enter Tryz.func96, Tryz.ntmps96
  go_wp2_with (first
    | (go_at_call 91; with_reducible refine Calls.mono C ?_; rintro e w1 ⟨rfl, rfl⟩))
  clear C
  go_loopw [6, 7, 8] (fun s cr i v => ∃ (k : Nat) (cy : Int) (oa : Option Addr) (oc : Nat) (ss : List Int), k ≤ n ∧ i = .int .i64 k ∧ cr = .int .u64 cy ∧ 0 ≤ cy ∧ cy ≤ 1 ∧ s = .slice oa k oc ∧ Own w v (.slice oa k oc) k ss ∧ Wd ss ∧ val ss + val (ys.take k) = val (zs.take k) + cy.toNat * 4294967296 ^ k) (fun _ _ i _ => n - (intOf i).toNat)
  case atStart => exact ⟨0, 0, none, 0, [], by omega, rfl, rfl, by omega, by omega, rfl, Own.nil (Below.refl _ _), wd_nil, by simp [val]⟩
  case round =>
    obtain ⟨k, cy, oa, oc, ss, hk, rfl, rfl, hc0, hc1, rfl, o, wS, hI⟩ := hrel
    have HI : Hid (val ss + val (ys.take k) = val (zs.take k) + cy.toNat * 4294967296 ^ k) := hI
    clear hI
    by_cases hlt : k < n
    · have B1 := ref_at a n c zs wr (h.below o.below) k (by omega) _ rfl (wd_getD hz k).1 (wd_getD hz k).2
      have B2 := ref_at b m d ys wr (g.below o.below) k (by omega) _ rfl (wd_getD gz k).1 (wd_getD gz k).2
      obtain ⟨x0, x1⟩ := wd_getD hz k
      obtain ⟨y0, y1⟩ := wd_getD gz k
      have T1 : Hid (val (zs.take (k + 1)) = val (zs.take k) + (zs.getD k 0).toNat * 4294967296 ^ k) := val_take_succ zs k
      have T2 : Hid (val (ys.take (k + 1)) = val (ys.take k) + (ys.getD k 0).toNat * 4294967296 ^ k) := val_take_succ ys k
      have HL : Hid (ss.length = k) := o.length
      generalize zs.getD k 0 = x at B1 T1 x0 x1
      generalize ys.getD k 0 = y at B2 T2 y0 y1
      have HN : Hid (val (ss ++ [(4294967296 + x - y - cy) % 4294967296]) + val (ys.take (k + 1)) = val (zs.take (k + 1)) + (1 - (4294967296 + x - y - cy) / 4294967296).toNat * 4294967296 ^ (k + 1)) := by
        show _ = _
        rw [T1.out, T2.out, val_snoc, HL.out, Nat.pow_succ]
        exact ref_sub_step HI.out (by omega)
      have WN : Wd (ss ++ [(4294967296 + x - y - cy) % 4294967296]) := wd_append wS (wd_one (by omega) (by omega))
      clear T1 T2 HL HI h g hz gz l1 wS
      go_wp2_with (first
        | (go_at_call 121; with_reducible refine Calls.mono B1 ?_; rintro e w1 ⟨rfl, rfl⟩)
        | (go_at_call 121; with_reducible refine Calls.mono B2 ?_; rintro e w1 ⟨rfl, rfl⟩)
        | (at_builtin; refine wpl_append_words (.tmp 30) (.tmp 34) rfl rfl w _ _ _ k 1 ss [(4294967296 + x - y - cy) % 4294967296] rfl rfl (o.alloc _) (lit_words _ [(4294967296 + x - y - cy) % 4294967296] 1 rfl (by decide)) rfl (k + 1) rfl (by omega) ?_; intro a1 c1 w1 o1 g1))
      go_roundw
      case rel => exact ⟨k + 1, 1 - (4294967296 + x - y - cy) / 4294967296, a1, c1, _, by omega, by go_num, rfl, by omega, by omega, rfl, o1, WN, HN.out⟩
      case measure => simp [intOf]; omega
    · obtain rfl : k = n := by omega
      have e1 := l1.out
      have HI' := HI.out
      rw [← e1] at HI'
      have HS := ref_sub_last wS hz (by rw [o.length, e1]) HG.out HI'
      have R := ref_trim oa k oc ss wr o.words wS (by omega)
      rw [HS] at R
      have ob := o.below
      clear HS HI HI' e1 h g hz gz l1 wS o
      go_wp2_with (first
        | (go_at_call 41; (with_reducible refine Calls.mono R ?_); rintro e w1 ⟨a1, c1, rfl, o1⟩))
      go_ret2
      exact ⟨_, _, rfl, o1.outer ob⟩
-- <<END>>
end Go.Proofs.YtpimcbncmfpdhaaGreatDoor
/-
  Contracts of package times's functions right, cut and addLine, for every list of words: where a line of a product goes, and what adding it does to the number in those words; memory older than the caller's stays.
-/
namespace Go.Proofs.YtpimcbncmfpdhaaGreatDoor
open Go.RowKit

theorem times_right0 (a : Option Addr) (n c : Nat) (zs : List Int) (w : World) (h : IsWords w (.slice a n c) zs) (L : Nat) (hL : lowN zs n = L) :
    Calls Tryz.prog 118 #[.slice a n c] w fun e w' => e = .returned (.slice a L c) ∧ w = w' := by
  have hle : L ≤ n := by rw [← hL]; exact lowN_le _ _
  have hcap := h.cap
  have C := limb_low_words a n c zs w h
  rw [hL] at C
  have h1 : (0 : Int) ≤ L := by omega
  have h2 : (L : Int) ≤ c := by omega
  have hs : a = none → L = 0 ∧ c = 0 := by
    rintro rfl
    rcases h with ⟨e, rfl⟩ | ⟨x, cap, e, -⟩
    · simp only [Value.slice.injEq] at e; omega
    · simp at e
  clear h hL
  rcases a with _ | x
  · obtain ⟨rfl, rfl⟩ := hs rfl
    go_enter Tryz.func118, Tryz.ntmps118
    go_wp2_with (go_at_call 84; with_reducible refine Calls.mono C ?_; rintro e w1 ⟨rfl, rfl⟩)
    go_ret
    exact ⟨rfl, rfl⟩
  · clear hs
    go_enter Tryz.func118, Tryz.ntmps118
    go_wp2_with (go_at_call 84; with_reducible refine Calls.mono C ?_; rintro e w1 ⟨rfl, rfl⟩)
    go_ret
    exact ⟨rfl, rfl⟩

/-- right, in numbers. -/
theorem times_right (a : Option Addr) (n c : Nat) (zs : List Int) (w : World) (h : IsWords w (.slice a n c) zs) (hz : Wd zs) :
    Calls Tryz.prog 118 #[.slice a n c] w fun e w' => e = .returned (.slice a (nl (val zs)) c) ∧ w = w' :=
  times_right0 a n c zs w h _ (h.low hz).1

theorem ret_slice {a : Option Addr} {n m : Nat} (h : n = m) : Ending.returned (.slice a n n) = .returned (.slice a m m) := by rw [h]

/-- cut, with three indices: a line's words, and no room behind them. -/
theorem times_cut (g M t n : Nat) (w : World) (h : t + n + 1 ≤ M) (hM : M ≤ 35184372088832) :
    Calls Tryz.prog 120 #[.slice (some ⟨g, 0, none⟩) M M, .int .i64 t, .int .i64 n] w fun e w' => e = .returned (.slice (some ⟨g, t, none⟩) (n + 1) (n + 1)) ∧ w = w' := by
  have e1 : (t : Int) + n + 1 - t = (n + 1 : Nat) := by omega
  have e2 : ((t : Int) + n + 1 - t).toNat = n + 1 := by omega
  go_enter Tryz.func120, Tryz.ntmps120
  go_wp2
  go_ret
  exact ⟨ret_slice (by omega), rfl⟩

/-- One word's step of a line. -/
theorem line_step {p q r S S' V A x z s y c c' : Nat} (hp : p = q * r) (hs : S' + s * p = S + y * p) (hi : S + c * p = V + A * x * q) (hy : y + 4294967296 * c' = z * x + s + c) :
    S' + c' * (p * 4294967296) = V + (A + z * r) * x * q := by
  have e : (y + 4294967296 * c') * p = (z * x + s + c) * p := by rw [hy]
  rw [Nat.add_mul, Nat.add_mul, Nat.add_mul] at e
  have e2 : c' * (p * 4294967296) = 4294967296 * c' * p := by rw [Nat.mul_comm p, ← Nat.mul_assoc, Nat.mul_comm c']
  have e3 : (A + z * r) * x * q = A * x * q + z * x * p := by
    rw [Nat.add_mul, Nat.add_mul, hp, Nat.mul_right_comm z r x, Nat.mul_assoc (z * x) r q, Nat.mul_comm r q]
  rw [e2, e3]; omega

/-- The line's last word has room for what is carried. -/
theorem line_last {ss : List Int} {k c : Nat} (hk : k < ss.length) (h : val ss + c * 4294967296 ^ k < 4294967296 ^ (k + 1)) : (ss.getD k 0).toNat + c < 4294967296 := by
  have h1 := val_set ss k 0 hk
  have h2 : ((ss.getD k 0).toNat + c) * 4294967296 ^ k < 4294967296 * 4294967296 ^ k := by
    rw [Nat.add_mul, Nat.mul_comm 4294967296, ← Nat.pow_succ]
    simp only [Int.toNat_zero, Nat.zero_mul, Nat.add_zero] at h1
    omega
  exact Nat.lt_of_mul_lt_mul_right h2

set_option maxHeartbeats 2000000 in
theorem times_line (W : World) (g M t n c : Nat) (ss : List Int) (a : Option Addr) (zs : List Int) (x : Int) (w : World) (o : Own W w (.slice (some ⟨g, 0, none⟩) M M) M ss) (wS : Wd ss)
    (h : IsWords W (.slice a n c) zs) (hz : Wd zs) (x0 : 0 ≤ x) (x1 : x < 4294967296) (hM : t + n + 1 ≤ M) (hM2 : M ≤ 35184372088832) (hv : val ss + val zs * x.toNat * 4294967296 ^ t < 4294967296 ^ (t + n + 1)) :
    Calls Tryz.prog 119 #[.slice (some ⟨g, t, none⟩) (n + 1) (n + 1), .slice a n c, .int .u32 x] w fun e w' => e = .returned (.tuple #[]) ∧
      ∃ ss', Own W w' (.slice (some ⟨g, 0, none⟩) M M) M ss' ∧ Wd ss' ∧ val ss' = val ss + val zs * x.toNat * 4294967296 ^ t := by
  have hl : Hid (zs.length = n) := h.len
  have HV : Hid (val ss + val zs * x.toNat * 4294967296 ^ t < 4294967296 ^ (t + n + 1)) := hv
  clear hv
  go_enter Tryz.func119, Tryz.ntmps119
  go_wp2
  go_loopw [6, 11] (fun cr i v => ∃ (k : Nat) (cy : Int) (rs : List Int), k ≤ n ∧ i = .int .i64 k ∧ cr = .int .u32 cy ∧ 0 ≤ cy ∧ cy < 4294967296 ∧ Own W v (.slice (some ⟨g, 0, none⟩) M M) M rs ∧ Wd rs ∧ val rs + cy.toNat * 4294967296 ^ (t + k) = val ss + val (zs.take k) * x.toNat * 4294967296 ^ t) (fun _ i _ => n - (intOf i).toNat)
  case atStart => exact ⟨0, 0, ss, by omega, rfl, rfl, by omega, by omega, o, wS, by simp [val]⟩
  case round =>
    obtain ⟨k, cy, rs, hk, rfl, rfl, c0, c1, o, wR, hI⟩ := hrel
    have HI : Hid (val rs + cy.toNat * 4294967296 ^ (t + k) = val ss + val (zs.take k) * x.toNat * 4294967296 ^ t) := hI
    clear hI
    have hrl := o.length
    by_cases hlt : k < n
    · have EQ : Hid (val (zs.take (k + 1)) = val (zs.take k) + (zs.getD k 0).toNat * 4294967296 ^ k) := val_take_succ zs k
      obtain ⟨z0, z1⟩ := wd_getD hz k
      rcases (h.below o.below).reads.1.2 with h0 | ⟨b, off, rfl, hcz⟩
      · omega
      have hck := hcz k hlt
      obtain ⟨hc, hf, hg1, hg2⟩ := o.cell (t + k) (by omega)
      have ES := fun y => val_set rs (t + k) y (by omega)
      obtain ⟨y0, y1⟩ := wd_getD wR (t + k)
      generalize zs.getD k 0 = z at hck EQ z0 z1
      generalize rs.getD (t + k) 0 = s at hc ES y0 y1
      have AC := limb_mul z x s cy wr z0 z1 x0 x1 y0 y1 c0 c1
      have m0 : 0 ≤ z * x := Int.mul_nonneg z0 x0
      have m1 : z * x ≤ 4294967295 * 4294967295 := Int.mul_le_mul (by omega) (by omega) x0 (by omega)
      have m2 : (z * x).toNat = z.toNat * x.toNat := Int.toNat_mul z0 x0
      have HY : Hid (((z * x + s + cy) % 4294967296).toNat + 4294967296 * ((z * x + s + cy) / 4294967296).toNat = z.toNat * x.toNat + s.toNat + cy.toNat ∧ 0 ≤ (z * x + s + cy) / 4294967296 ∧ (z * x + s + cy) / 4294967296 < 4294967296 ∧ 0 ≤ (z * x + s + cy) % 4294967296 ∧ (z * x + s + cy) % 4294967296 < 4294967296) := by
        show _ ∧ _
        rw [← m2]
        generalize z * x = p at m0 m1
        exact ⟨by omega, by omega, by omega, by omega, by omega⟩
      generalize (z * x + s + cy) % 4294967296 = y at AC HY
      generalize (z * x + s + cy) / 4294967296 = cq at AC HY
      have HN : Hid (val (rs.set (t + k) y) + cq.toNat * 4294967296 ^ (t + (k + 1)) = val ss + val (zs.take (k + 1)) * x.toNat * 4294967296 ^ t) := by
        show _ = _
        rw [EQ.out, ← Nat.add_assoc, Nat.pow_succ]
        exact line_step (Nat.pow_add _ _ _) (ES y) HI.out HY.out.1
      have WN : Wd (rs.set (t + k) y) := wd_set wR (t + k) HY.out.2.2.2.1 HY.out.2.2.2.2
      clear EQ HI ES wR hz hcz m0 m1 m2 HV hl h hrl wS
      go_wp2_with (first
        | (go_at_call 145; with_reducible refine Calls.mono AC ?_; rintro e w3 ⟨rfl, b3⟩; have o3 := o.more b3; obtain ⟨hc3, hf3, -, -⟩ := o3.cell (t + k) (by omega)))
      go_roundw
      case rel => exact ⟨k + 1, cq, rs.set (t + k) y, by omega, by go_num, rfl, HY.out.2.1, HY.out.2.2.1, o3.set (t + k) y, WN, HN.out⟩
      case measure => simp [intOf]; omega
    · obtain ⟨y0, y1⟩ := wd_getD wR (t + n)
      obtain ⟨hc, hf, hg1, hg2⟩ := o.cell (t + n) (by omega)
      have HI' : Hid (val rs + cy.toNat * 4294967296 ^ (t + n) = val ss + val zs * x.toNat * 4294967296 ^ t) := by
        have h1 := HI.out
        have h2 := hl.out
        rw [show k = n by omega, List.take_of_length_le (by omega)] at h1
        exact h1
      have HL := line_last (ss := rs) (k := t + n) (c := cy.toNat) (by omega) (by rw [HI'.out]; exact HV.out)
      have ES := fun y => val_set rs (t + n) y (by omega)
      generalize rs.getD (t + n) 0 = s at hc ES y0 y1 HL
      have HN : Hid (val (rs.set (t + n) (s + cy)) = val ss + val zs * x.toNat * 4294967296 ^ t) := by
        show _ = _
        have h1 := ES (s + cy)
        rw [show (s + cy).toNat = s.toNat + cy.toNat by omega, Nat.add_mul] at h1
        have h2 := HI'.out
        omega
      have WN : Wd (rs.set (t + n) (s + cy)) := wd_set wR (t + n) (by omega) (by omega)
      clear HI HI' ES wR hz HV hl h hrl wS
      go_wp2
      go_end0
      exact ⟨rfl, _, o.set (t + n) _, WN, HN.out⟩
end Go.Proofs.YtpimcbncmfpdhaaGreatDoor
/-
  Contracts of package times's functions One and Mul, for all lists of words: the list of the product; memory that was there stays, and what is answered is the call's own.
-/
namespace Go.Proofs.YtpimcbncmfpdhaaGreatDoor
open Go.RowKit

/-- A number of n words, times a word, and a word, has a word more at most. -/
theorem one_fits {A x c n : Nat} (hA : A < 4294967296 ^ n) (hx : x < 4294967296) (hc : c < 4294967296) : c + A * x < 4294967296 ^ (n + 1) := by
  have h1 : A * x ≤ A * 4294967295 := Nat.mul_le_mul_left _ (by omega)
  have h2 : A * 4294967295 ≤ (4294967296 ^ n - 1) * 4294967295 := Nat.mul_le_mul_right _ (by omega)
  rw [Nat.pow_succ]
  generalize 4294967296 ^ n = p at *
  omega
theorem val_zeros_set (M : Nat) (c : Int) (hM : 0 < M) : val ((List.replicate M 0).set 0 c) = c.toNat := by
  have h := val_set (List.replicate M 0) 0 c (by simpa using hM)
  rw [val_zeros] at h
  have e : (List.replicate M (0 : Int)).getD 0 0 = 0 := by simp [List.getD_eq_getElem?_getD, hM]
  rw [e] at h
  simpa using h
theorem natOf_len (A : Nat) : (natOf A).length = nl A := rfl

set_option maxHeartbeats 2000000 in
theorem times_one (a : Option Addr) (n c : Nat) (zs : List Int) (x y : Int) (w : World) (h : IsWords w (.slice a n c) zs) (hz : Wd zs) (hn : n ≤ 1000000000000) (x0 : 0 ≤ x) (x1 : x < 4294967296) (y0 : 0 ≤ y) (y1 : y < 4294967296) :
    Calls Tryz.prog 103 #[.slice a n c, .int .u32 x, .int .u32 y] w (Ans w (val zs * x.toNat + y.toNat)) := by
  have R1 := times_right a n c zs w h hz
  have S1 := h.right hz
  have b1 := (h.low hz).2.2
  have hv := lt_nl (val zs)
  have wP := wd_natOf (val zs)
  have EV : Hid (val (natOf (val zs)) = val zs) := val_natOf (val zs)
  clear h hz
  generalize val zs = A at *
  generalize nl A = L at R1 S1 b1 hv
  generalize natOf A = ps at S1 wP EV
  have HV : Hid (A < 4294967296 ^ L) := hv
  clear hv
  obtain ⟨M, hM1, hM2⟩ : ∃ M, M ≤ L + 1 ∧ L + 1 ≤ M := ⟨_, Nat.le_refl _, Nat.le_refl _⟩
  have W0 : Wd ((List.replicate M 0).set 0 y) := wd_set (wd_zeros M) 0 y0 y1
  have V0 : Hid (val ((List.replicate M 0).set 0 y) = y.toNat) := val_zeros_set M y (by omega)
  have K := fun g v (o : Own w v (.slice (some ⟨g, 0, none⟩) M M) M ((List.replicate M 0).set 0 y)) => times_line w g M 0 L c _ a ps x v o W0 S1 wP x0 x1 (by omega) (by omega) (by rw [V0.out, EV.out]; simpa using one_fits HV.out (x := x.toNat) (c := y.toNat) (by omega) (by omega))
  have CT := fun g v => times_cut g M 0 L v (by omega) (by omega)
  have RR := fun g v (rs : List Int) (o : Own w v (.slice (some ⟨g, 0, none⟩) M M) M rs) (hr : Wd rs) => times_right _ _ _ rs v o.words hr
  clear S1 W0
  go_enter Tryz.func103, Tryz.ntmps103
  go_wp2_with (first
    | (go_at_call 118; with_reducible refine Calls.mono R1 ?_; rintro e w1 ⟨rfl, rfl⟩)
    | (at_make; refine wpl_make_words (.tmp 12) rfl rfl w w M _ rfl (by omega) (by omega) (Below.refl _ _) ?_; intro g w1 hg o1; obtain ⟨hc1, hf1, -, -⟩ := o1.cell 0 (by omega); have o2 := o1.set 0 y)
    | (go_at_call 120; with_reducible refine Calls.mono (CT _ _) ?_; rintro e w3 ⟨rfl, rfl⟩)
    | (go_at_call 119; (with_reducible refine Calls.mono (K _ _ o2) ?_); rintro e w4 ⟨rfl, rs, o4, h4, E4⟩; have E5 : Hid (val rs = A * x.toNat + y.toNat) := (by show _ = _; rw [E4, V0.out, EV.out]; simp; omega); clear E4)
    | (go_at_call 118; (with_reducible refine Calls.mono (RR _ _ _ o4 h4) ?_); rintro e w5 ⟨rfl, rfl⟩))
  go_ret
  have o6 := o4.right h4
  rw [E5.out] at o6 ⊢
  exact ⟨_, _, rfl, o6⟩

set_option maxHeartbeats 2000000 in
theorem times_mul (a : Option Addr) (n c : Nat) (zs : List Int) (b : Option Addr) (m d : Nat) (ys : List Int) (w : World) (h : IsWords w (.slice a n c) zs) (hz : Wd zs) (g : IsWords w (.slice b m d) ys) (gz : Wd ys)
    (hn : n ≤ 1000000000000) (hm : m ≤ 1000000000000) :
    Calls Tryz.prog 89 #[.slice a n c, .slice b m d] w (Ans w (val zs * val ys)) := by
  have R1 := times_right a n c zs w h hz
  have R2 := times_right b m d ys w g gz
  have S1 := h.right hz
  have S2 := g.right gz
  have wP := wd_natOf (val zs)
  have wQ := wd_natOf (val ys)
  have b1 := (h.low hz).2.2
  have b2 := (g.low gz).2.2
  have hv2 := lt_nl (val ys)
  have E1 : Hid (val (natOf (val zs)) = val zs) := val_natOf (val zs)
  have E2 : Hid (val (natOf (val ys)) = val ys) := val_natOf (val ys)
  have hl := natOf_len (val zs)
  clear h hz g gz
  generalize val zs = A at *
  generalize val ys = B at *
  generalize nl A = L at R1 S1 b1 hl
  generalize nl B = K at R2 S2 b2 hv2
  generalize natOf A = ps at S1 wP E1 hl
  generalize natOf B = qs at S2 wQ E2
  have HL : Hid (ps.length = L) := hl
  have HV : Hid (B < 4294967296 ^ K) := hv2
  clear hv2 hl
  obtain ⟨M, hM1, hM2⟩ : ∃ M, M ≤ L + K ∧ L + K ≤ M := ⟨_, Nat.le_refl _, Nat.le_refl _⟩
  go_enter Tryz.func89, Tryz.ntmps89
  go_wp2_with (first
    | (go_at_call 118; with_reducible refine Calls.mono R1 ?_; rintro e w1 ⟨rfl, rfl⟩)
    | (go_at_call 118; with_reducible refine Calls.mono R2 ?_; rintro e w1 ⟨rfl, rfl⟩)
    | (at_make; refine wpl_make_words (.tmp 16) rfl rfl w w M _ rfl (by omega) (by omega) (Below.refl _ _) ?_; intro g w1 hg o1))
  clear R1 R2
  go_loopw [20] (fun i v => ∃ (k : Nat) (rs : List Int), k ≤ L ∧ i = .int .i64 k ∧ Own w v (.slice (some ⟨g, 0, none⟩) M M) M rs ∧ Wd rs ∧ val rs = val (ps.take k) * B) (fun i _ => L - (intOf i).toNat)
  case atStart => exact ⟨0, _, by omega, rfl, o1, wd_zeros M, by rw [val_zeros]; simp [val]⟩
  case round =>
    obtain ⟨k, rs, hk, rfl, o, wR, hI⟩ := hrel
    have HI : Hid (val rs = val (ps.take k) * B) := hI
    clear hI o1
    by_cases hlt : k < L
    · obtain ⟨z0, z1⟩ := wd_getD wP k
      rcases (S1.below o.below).reads.1.2 with h0 | ⟨b3, off, rfl, hcz⟩
      · omega
      have hck := hcz k hlt
      have EQ : Hid (val (ps.take (k + 1)) = val (ps.take k) + (ps.getD k 0).toNat * 4294967296 ^ k) := val_take_succ ps k
      have HF := val_take_lt ps wP (k + 1)
      generalize ps.getD k 0 = z at hck EQ z0 z1
      have HE : Hid (val rs + val qs * z.toNat * 4294967296 ^ k = val (ps.take (k + 1)) * B) := by
        show _ = _
        rw [HI.out, EQ.out, E2.out, Nat.add_mul, Nat.mul_assoc, Nat.mul_comm B]
      have CT := fun v => times_cut g M k K v (by omega) (by omega)
      have LN := times_line w g M k K d rs b qs z wr o wR S2 wQ z0 z1 (by omega) (by omega) (by
        rw [HE.out, show k + K + 1 = (k + 1) + K by omega, Nat.pow_add]
        have h1 : val (ps.take (k + 1)) * B ≤ val (ps.take (k + 1)) * 4294967296 ^ K := Nat.mul_le_mul_left _ (Nat.le_of_lt HV.out)
        have h2 : val (ps.take (k + 1)) * 4294967296 ^ K < 4294967296 ^ (k + 1) * 4294967296 ^ K := Nat.mul_lt_mul_of_pos_right HF (Nat.pow_pos (by omega))
        omega)
      rw [HE.out] at LN
      clear hcz wR EQ HE HI HF HV S1 S2
      go_wp2_with (first
        | (go_at_call 120; with_reducible refine Calls.mono (CT _) ?_; rintro e w3 ⟨rfl, rfl⟩)
        | (go_at_call 119; (with_reducible refine Calls.mono LN ?_); rintro e w4 ⟨rfl, rs4, o4, h4, E4⟩; have E5 : Hid (val rs4 = val (ps.take (k + 1)) * B) := E4; clear E4))
      go_roundw
      case rel => exact ⟨k + 1, rs4, by omega, by go_num, o4, h4, E5.out⟩
      case measure => simp [intOf]; omega
    · have HS : val rs = A * B := by
        have h1 := HI.out
        have h2 := HL.out
        rw [List.take_of_length_le (by omega), E1.out] at h1
        exact h1
      have R3 := times_right _ _ _ rs wr o.words wR
      have OR := o.right wR
      rw [HS] at R3 OR
      clear HS HI o wR S1 S2 HV
      go_wp2_with (first
        | (go_at_call 118; with_reducible refine Calls.mono R3 ?_; rintro e w1 ⟨rfl, rfl⟩))
      go_ret
      exact ⟨_, _, rfl, OR⟩
end Go.Proofs.YtpimcbncmfpdhaaGreatDoor
/-
  Contracts of package split's functions right, take, putBack, for every list of words: what taking a line from some words, and putting it back, does to the number in those words; nothing but those words' block turns.
-/
namespace Go.Proofs.YtpimcbncmfpdhaaGreatDoor
open Go.RowKit

/-- Of what there was nothing but block g has turned. -/
def But (g : Nat) (w w' : World) : Prop := w.heap.size ≤ w'.heap.size ∧ ∀ k, k < w.heap.size → k ≠ g → w'.heap[k]? = w.heap[k]?

theorem But.refl (g : Nat) (w : World) : But g w w := ⟨Nat.le_refl _, fun _ _ _ => rfl⟩
theorem But.trans {g : Nat} {a b c : World} (h : But g a b) (k : But g b c) : But g a c :=
  ⟨Nat.le_trans h.1 k.1, fun i hi hg => (k.2 i (Nat.lt_of_lt_of_le hi h.1) hg).trans (h.2 i hi hg)⟩
theorem But.more {g : Nat} {a b c : World} (h : But g a b) (k : Below b.heap.size b c) : But g a c :=
  h.trans ⟨k.size, fun i hi _ => k.block i hi⟩
theorem But.set {g : Nat} {a b : World} (h : But g a b) (k : Nat) (u : Value) : But g a (b.setCell ⟨g, k, none⟩ u) :=
  h.trans ⟨by simp [World.setCell], fun i _ hg => Below.heap_setCell _ _ _ _ hg⟩

/-- A slice apart from block g. -/
def Apart (g : Nat) (a : Option Addr) : Prop := ∀ x, a = some x → x.block ≠ g

theorem add_block (a : Addr) (n : Nat) : (a.add n).block = a.block := by unfold Addr.add; split <;> rfl

theorem IsWords.but {w w' : World} {a : Option Addr} {n c : Nat} {zs : List Int} {g : Nat} (h : IsWords w (.slice a n c) zs) (ha : Apart g a) (hb : But g w w') : IsWords w' (.slice a n c) zs := by
  rcases h with h | ⟨x, cap, e, h1, h2, hc⟩
  · exact .inl h
  · refine .inr ⟨x, cap, e, h1, h2, fun i hi => ?_⟩
    have hci := hc i hi
    simp only [Value.slice.injEq] at e
    rw [World.cell?_of_block (w := w) (hb.2 _ (World.block_lt_of_cell? w _ hci) (by rw [add_block]; exact ha x e.1))]
    exact hci

theorem Own.but {W w w' : World} {a : Option Addr} {n c : Nat} {xs : List Int} {g : Nat} (h : Own W w (.slice a n c) n xs) (ha : Apart g a) (hb : But g w w') (hB : Below W.heap.size W w') : Own W w' (.slice a n c) n xs := by
  refine ⟨⟨h.1.1, ?_⟩, hB⟩
  rcases h.1.2 with h0 | ⟨g', cap, cur, e, h1, hg', h2⟩
  · exact .inl h0
  · refine .inr ⟨g', cap, cur, e, h1, ?_, h2⟩
    simp only [Value.slice.injEq] at e
    rw [hb.2 g' (Array.getElem?_eq_some_iff.1 hg').1 (ha _ e.1)]
    exact hg'

theorem split_right0 (a : Option Addr) (n c : Nat) (zs : List Int) (w : World) (h : IsWords w (.slice a n c) zs) (L : Nat) (hL : lowN zs n = L) :
    Calls Tryz.prog 137 #[.slice a n c] w fun e w' => e = .returned (.slice a L c) ∧ w = w' := by
  have hle : L ≤ n := by rw [← hL]; exact lowN_le _ _
  have hcap := h.cap
  have C := limb_low_words a n c zs w h
  rw [hL] at C
  have h1 : (0 : Int) ≤ L := by omega
  have h2 : (L : Int) ≤ c := by omega
  have hs : a = none → L = 0 ∧ c = 0 := by
    rintro rfl
    rcases h with ⟨e, rfl⟩ | ⟨x, cap, e, -⟩
    · simp only [Value.slice.injEq] at e; omega
    · simp at e
  clear h hL
  rcases a with _ | x
  · obtain ⟨rfl, rfl⟩ := hs rfl
    go_enter Tryz.func137, Tryz.ntmps137
    go_wp2_with (go_at_call 84; with_reducible refine Calls.mono C ?_; rintro e w1 ⟨rfl, rfl⟩)
    go_ret
    exact ⟨rfl, rfl⟩
  · clear hs
    go_enter Tryz.func137, Tryz.ntmps137
    go_wp2_with (go_at_call 84; with_reducible refine Calls.mono C ?_; rintro e w1 ⟨rfl, rfl⟩)
    go_ret
    exact ⟨rfl, rfl⟩

/-- right, in numbers. -/
theorem split_right (a : Option Addr) (n c : Nat) (zs : List Int) (w : World) (h : IsWords w (.slice a n c) zs) (hz : Wd zs) :
    Calls Tryz.prog 137 #[.slice a n c] w fun e w' => e = .returned (.slice a (nl (val zs)) c) ∧ w = w' :=
  split_right0 a n c zs w h _ (h.low hz).1

theorem shift_mul {p c : Nat} : c * (p * 4294967296) = 4294967296 * c * p := by rw [Nat.mul_comm p, ← Nat.mul_assoc, Nat.mul_comm c]

/-- One word's step of taking a line. -/
theorem take_step {p q r S S' V A x z s s' b b' c c' : Nat} (hp : p = q * r) (hs : S' + s * p = S + s' * p) (hi : S + A * x * q = V + (c + b) * p) (hy : s' + z * x + c + b = s + 4294967296 * (c' + b')) :
    S' + (A + z * r) * x * q = V + (c' + b') * (p * 4294967296) := by
  have e : (s' + z * x + c + b) * p = (s + 4294967296 * (c' + b')) * p := by rw [hy]
  have e3 : (A + z * r) * x * q = A * x * q + z * x * p := by
    rw [Nat.add_mul, Nat.add_mul, hp, Nat.mul_right_comm z r x, Nat.mul_assoc (z * x) r q, Nat.mul_comm r q]
  rw [shift_mul, e3]
  rw [Nat.add_mul, Nat.add_mul, Nat.add_mul, Nat.add_mul] at e
  rw [Nat.add_mul] at hi
  omega
/-- The last word's. -/
theorem take_last {p S S' V P s s' b b' c : Nat} (hs : S' + s * p = S + s' * p) (hi : S + P = V + (c + b) * p) (hy : s' + c + b = s + 4294967296 * b') : S' + P = V + b' * (p * 4294967296) := by
  have e : (s' + c + b) * p = (s + 4294967296 * b') * p := by rw [hy]
  rw [shift_mul]
  rw [Nat.add_mul, Nat.add_mul, Nat.add_mul] at e
  rw [Nat.add_mul] at hi
  omega
/-- One word's step of putting it back. -/
theorem back_step {p q r S S' V A z s s' c c' : Nat} (hp : p = q * r) (hs : S' + s * p = S + s' * p) (hi : S + c * p = V + A * q) (hy : s' + 4294967296 * c' = s + z + c) :
    S' + c' * (p * 4294967296) = V + (A + z * r) * q := by
  have e : (s' + 4294967296 * c') * p = (s + z + c) * p := by rw [hy]
  have e3 : (A + z * r) * q = A * q + z * p := by
    rw [Nat.add_mul, hp, Nat.mul_assoc z r q, Nat.mul_comm r q]
  rw [shift_mul, e3]
  rw [Nat.add_mul, Nat.add_mul, Nat.add_mul] at e
  omega
theorem back_last {p S S' V P s s' c c' : Nat} (hs : S' + s * p = S + s' * p) (hi : S + c * p = V + P) (hy : s' + 4294967296 * c' = s + c) : S' + c' * (p * 4294967296) = V + P := by
  have e : (s' + 4294967296 * c') * p = (s + c) * p := by rw [hy]
  rw [shift_mul]
  rw [Nat.add_mul, Nat.add_mul] at e
  omega

theorem drop_set {rs : List Int} {k T : Nat} (y : Int) (h : k < T) : (rs.set k y).drop T = rs.drop T := by
  rw [List.drop_set, if_pos h]
theorem val_lt_of_drop {rs ss : List Int} {T : Nat} (hr : Wd rs) (hd : rs.drop T = ss.drop T) (h : val ss < 4294967296 ^ T) : val rs < 4294967296 ^ T := by
  have h1 := val_split ss T
  have h2 := val_split rs T
  have h3 : val (ss.drop T) = 0 := by
    rcases Nat.eq_zero_or_pos (val (ss.drop T)) with h0 | h0
    · exact h0
    · have : 4294967296 ^ T * 1 ≤ 4294967296 ^ T * val (ss.drop T) := Nat.mul_le_mul_left _ h0
      omega
  rw [hd, h3] at h2
  rw [h2]
  simpa using val_take_lt rs hr T

set_option maxHeartbeats 2000000 in
/-- take: what is left of the number, and whether it went below. -/
theorem split_take (W : World) (g M t n c C : Nat) (ss : List Int) (a : Option Addr) (ys : List Int) (x : Int) (w : World) (o : Own W w (.slice (some ⟨g, 0, none⟩) M M) M ss) (wS : Wd ss)
    (h : IsWords w (.slice a n c) ys) (hz : Wd ys) (ha : Apart g a) (x0 : 0 ≤ x) (x1 : x < 4294967296) (hM : t + n + 1 ≤ M) (hM2 : M ≤ 35184372088832) (hv : val ss < 4294967296 ^ (t + n + 1)) :
    Calls Tryz.prog 160 #[.slice (some ⟨g, t, none⟩) (n + 1) C, .slice a n c, .int .u32 x] w fun e w' => ∃ (b : Nat) (ss' : List Int), b ≤ 1 ∧ e = .returned (.bool (decide (b = 1))) ∧
      Own W w' (.slice (some ⟨g, 0, none⟩) M M) M ss' ∧ Wd ss' ∧ But g w w' ∧ val ss' < 4294967296 ^ (t + n + 1) ∧ val ss' + val ys * x.toNat * 4294967296 ^ t = val ss + b * 4294967296 ^ (t + n + 1) := by
  have hl : Hid (ys.length = n) := h.len
  have HV : Hid (val ss < 4294967296 ^ (t + n + 1)) := hv
  clear hv
  go_enter Tryz.func160, Tryz.ntmps160
  go_wp2
  go_loopw [7, 9, 15] (fun cr br i v => ∃ (k : Nat) (cy bo : Int) (rs : List Int), k ≤ n ∧ i = .int .i64 k ∧ cr = .int .u32 cy ∧ br = .int .u32 bo ∧ 0 ≤ cy ∧ cy < 4294967296 ∧ 0 ≤ bo ∧ bo ≤ 1 ∧ Own W v (.slice (some ⟨g, 0, none⟩) M M) M rs ∧ Wd rs ∧ But g w v ∧ rs.drop (t + n + 1) = ss.drop (t + n + 1) ∧ val rs + val (ys.take k) * x.toNat * 4294967296 ^ t = val ss + (cy.toNat + bo.toNat) * 4294967296 ^ (t + k)) (fun _ _ i _ => n - (intOf i).toNat)
  case atStart => exact ⟨0, 0, 0, ss, by omega, rfl, rfl, rfl, by omega, by omega, by omega, by omega, o, wS, But.refl _ _, rfl, by simp [val]⟩
  case round =>
    obtain ⟨k, cy, bo, rs, hk, rfl, rfl, rfl, c0, c1, b0, b1, o, wR, hB, hD, hI⟩ := hrel
    have HI : Hid (val rs + val (ys.take k) * x.toNat * 4294967296 ^ t = val ss + (cy.toNat + bo.toNat) * 4294967296 ^ (t + k)) := hI
    have HD : Hid (rs.drop (t + n + 1) = ss.drop (t + n + 1)) := hD
    clear hI hD
    have hrl := o.length
    by_cases hlt : k < n
    · have EQ : Hid (val (ys.take (k + 1)) = val (ys.take k) + (ys.getD k 0).toNat * 4294967296 ^ k) := val_take_succ ys k
      obtain ⟨z0, z1⟩ := wd_getD hz k
      rcases (h.but ha hB).reads.1.2 with h0 | ⟨b, off, rfl, hcz⟩
      · omega
      have hck := hcz k hlt
      have ES := fun y => val_set rs (t + k) y (by omega)
      have DS := fun y => drop_set (rs := rs) (k := t + k) (T := t + n + 1) y (by omega)
      obtain ⟨y0, y1⟩ := wd_getD wR (t + k)
      generalize ys.getD k 0 = z at hck EQ z0 z1
      have oc := fun v (ov : Own W v (.slice (some ⟨g, 0, none⟩) M M) M rs) => ov.cell (t + k) (by omega)
      generalize rs.getD (t + k) 0 = s at oc ES y0 y1
      have AC := limb_mul z x cy 0 wr z0 z1 x0 x1 c0 c1 (by omega) (by omega)
      have m0 : 0 ≤ z * x := Int.mul_nonneg z0 x0
      have m1 : z * x ≤ 4294967295 * 4294967295 := Int.mul_le_mul (by omega) (by omega) x0 (by omega)
      have m2 : (z * x).toNat = z.toNat * x.toNat := Int.toNat_mul z0 x0
      have HY : Hid (((z * x + cy + 0) % 4294967296).toNat + 4294967296 * ((z * x + cy + 0) / 4294967296).toNat = z.toNat * x.toNat + cy.toNat ∧ 0 ≤ (z * x + cy + 0) / 4294967296 ∧ (z * x + cy + 0) / 4294967296 < 4294967296 ∧ 0 ≤ (z * x + cy + 0) % 4294967296 ∧ (z * x + cy + 0) % 4294967296 < 4294967296) := by
        show _ ∧ _
        rw [← m2]
        generalize z * x = p at m0 m1
        exact ⟨by omega, by omega, by omega, by omega, by omega⟩
      generalize (z * x + cy + 0) % 4294967296 = lo at AC HY
      generalize (z * x + cy + 0) / 4294967296 = cq at AC HY
      have BC := fun v => limb_sub s lo bo v y0 y1 HY.out.2.2.2.1 HY.out.2.2.2.2 b0 (by omega)
      have HZ : Hid (((s - lo - bo) % 4294967296).toNat + lo.toNat + bo.toNat = s.toNat + 4294967296 * (-((s - lo - bo) / 4294967296)).toNat ∧ 0 ≤ -((s - lo - bo) / 4294967296) ∧ -((s - lo - bo) / 4294967296) ≤ 1 ∧ 0 ≤ (s - lo - bo) % 4294967296 ∧ (s - lo - bo) % 4294967296 < 4294967296) := by
        have h1 := HY.out.2.2.2
        exact ⟨by omega, by omega, by omega, by omega, by omega⟩
      generalize (s - lo - bo) % 4294967296 = s2 at BC HZ
      generalize -((s - lo - bo) / 4294967296) = b2 at BC HZ
      have HN : Hid (val (rs.set (t + k) s2) + val (ys.take (k + 1)) * x.toNat * 4294967296 ^ t = val ss + (cq.toNat + b2.toNat) * 4294967296 ^ (t + (k + 1))) := by
        show _ = _
        rw [EQ.out, ← Nat.add_assoc, Nat.pow_succ]
        refine take_step (Nat.pow_add _ _ _) (ES s2) HI.out ?_
        have h1 := HY.out.1
        have h2 := HZ.out.1
        omega
      have WN : Wd (rs.set (t + k) s2) := wd_set wR (t + k) HZ.out.2.2.2.1 HZ.out.2.2.2.2
      have DN : Hid ((rs.set (t + k) s2).drop (t + n + 1) = ss.drop (t + n + 1)) := (DS s2).trans HD.out
      obtain ⟨hc0, hf0, -, -⟩ := oc _ o
      clear EQ HI ES DS wR hz hcz m0 m1 m2 HV hl h hrl wS HD
      go_wp2_with (first
        | (go_at_call 145; with_reducible refine Calls.mono AC ?_; rintro e w3 ⟨rfl, b3⟩; have o3 := o.more b3; obtain ⟨hc3, hf3, -, -⟩ := oc _ o3)
        | (go_at_call 174; with_reducible refine Calls.mono (BC _) ?_; rintro e w4 ⟨rfl, b4⟩; have o4 := o3.more b4; obtain ⟨hc4, hf4, -, -⟩ := oc _ o4))
      go_roundw
      case rel => exact ⟨k + 1, cq, b2, rs.set (t + k) s2, by omega, by go_num, rfl, rfl, HY.out.2.1, HY.out.2.2.1, HZ.out.2.1, HZ.out.2.2.1, o4.set (t + k) s2, WN, ((hB.more b3).more b4).set _ _, DN.out, HN.out⟩
      case measure => simp [intOf]; omega
    · obtain ⟨y0, y1⟩ := wd_getD wR (t + n)
      have HI' : Hid (val rs + val ys * x.toNat * 4294967296 ^ t = val ss + (cy.toNat + bo.toNat) * 4294967296 ^ (t + n)) := by
        have h1 := HI.out
        have h2 := hl.out
        rw [show k = n by omega, List.take_of_length_le (by omega)] at h1
        exact h1
      have ES := fun y => val_set rs (t + n) y (by omega)
      have DS := fun y => drop_set (rs := rs) (k := t + n) (T := t + n + 1) y (by omega)
      have oc := fun v (ov : Own W v (.slice (some ⟨g, 0, none⟩) M M) M rs) => ov.cell (t + n) (by omega)
      generalize rs.getD (t + n) 0 = s at oc ES y0 y1
      have BC := fun v => limb_sub s cy bo v y0 y1 c0 c1 b0 (by omega)
      have HZ : Hid (((s - cy - bo) % 4294967296).toNat + cy.toNat + bo.toNat = s.toNat + 4294967296 * (-((s - cy - bo) / 4294967296)).toNat ∧ 0 ≤ -((s - cy - bo) / 4294967296) ∧ -((s - cy - bo) / 4294967296) ≤ 1 ∧ 0 ≤ (s - cy - bo) % 4294967296 ∧ (s - cy - bo) % 4294967296 < 4294967296) :=
        ⟨by omega, by omega, by omega, by omega, by omega⟩
      generalize (s - cy - bo) % 4294967296 = s2 at BC HZ
      generalize -((s - cy - bo) / 4294967296) = b2 at BC HZ
      have HN : Hid (val (rs.set (t + n) s2) + val ys * x.toNat * 4294967296 ^ t = val ss + b2.toNat * 4294967296 ^ (t + n + 1)) := by
        show _ = _
        rw [Nat.pow_succ]
        exact take_last (ES s2) HI'.out HZ.out.1
      have WN : Wd (rs.set (t + n) s2) := wd_set wR (t + n) HZ.out.2.2.2.1 HZ.out.2.2.2.2
      have LN : Hid (val (rs.set (t + n) s2) < 4294967296 ^ (t + n + 1)) := val_lt_of_drop WN ((DS s2).trans HD.out) HV.out
      obtain ⟨hc0, hf0, -, -⟩ := oc _ o
      obtain ⟨p0, p1⟩ : 0 ≤ b2 ∧ b2 ≤ 1 := ⟨HZ.out.2.1, HZ.out.2.2.1⟩
      clear HI HI' ES DS wR hz HV hl h hrl wS HD HZ
      rcases (by omega : b2 = 0 ∨ b2 = 1) with rfl | rfl
      all_goals
        go_wp2_with (first
          | (go_at_call 174; with_reducible refine Calls.mono (BC _) ?_; rintro e w4 ⟨rfl, b4⟩; have o4 := o.more b4; obtain ⟨hc4, hf4, -, -⟩ := oc _ o4))
        go_ret
        exact ⟨_, _, by decide, rfl, o4.set (t + n) s2, WN, (hB.more b4).set _ _, LN.out, HN.out⟩

set_option maxHeartbeats 2000000 in
/-- putBack: what the number becomes, and whether it came up. -/
theorem split_back (W : World) (g M t n c C : Nat) (ss : List Int) (a : Option Addr) (ys : List Int) (w : World) (o : Own W w (.slice (some ⟨g, 0, none⟩) M M) M ss) (wS : Wd ss)
    (h : IsWords w (.slice a n c) ys) (hz : Wd ys) (ha : Apart g a) (hM : t + n + 1 ≤ M) (hM2 : M ≤ 35184372088832) (hv : val ss < 4294967296 ^ (t + n + 1)) :
    Calls Tryz.prog 161 #[.slice (some ⟨g, t, none⟩) (n + 1) C, .slice a n c] w fun e w' => ∃ (b : Nat) (ss' : List Int), b ≤ 1 ∧ e = .returned (.bool (decide (b = 1))) ∧
      Own W w' (.slice (some ⟨g, 0, none⟩) M M) M ss' ∧ Wd ss' ∧ But g w w' ∧ val ss' < 4294967296 ^ (t + n + 1) ∧ val ss' + b * 4294967296 ^ (t + n + 1) = val ss + val ys * 4294967296 ^ t := by
  have hl : Hid (ys.length = n) := h.len
  have HV : Hid (val ss < 4294967296 ^ (t + n + 1)) := hv
  clear hv
  go_enter Tryz.func161, Tryz.ntmps161
  go_wp2
  go_loopw [5, 11] (fun cr i v => ∃ (k : Nat) (cy : Int) (rs : List Int), k ≤ n ∧ i = .int .i64 k ∧ cr = .int .u32 cy ∧ 0 ≤ cy ∧ cy ≤ 1 ∧ Own W v (.slice (some ⟨g, 0, none⟩) M M) M rs ∧ Wd rs ∧ But g w v ∧ rs.drop (t + n + 1) = ss.drop (t + n + 1) ∧ val rs + cy.toNat * 4294967296 ^ (t + k) = val ss + val (ys.take k) * 4294967296 ^ t) (fun _ i _ => n - (intOf i).toNat)
  case atStart => exact ⟨0, 0, ss, by omega, rfl, rfl, by omega, by omega, o, wS, But.refl _ _, rfl, by simp [val]⟩
  case round =>
    obtain ⟨k, cy, rs, hk, rfl, rfl, c0, c1, o, wR, hB, hD, hI⟩ := hrel
    have HI : Hid (val rs + cy.toNat * 4294967296 ^ (t + k) = val ss + val (ys.take k) * 4294967296 ^ t) := hI
    have HD : Hid (rs.drop (t + n + 1) = ss.drop (t + n + 1)) := hD
    clear hI hD
    have hrl := o.length
    by_cases hlt : k < n
    · have EQ : Hid (val (ys.take (k + 1)) = val (ys.take k) + (ys.getD k 0).toNat * 4294967296 ^ k) := val_take_succ ys k
      obtain ⟨z0, z1⟩ := wd_getD hz k
      rcases (h.but ha hB).reads.1.2 with h0 | ⟨b, off, rfl, hcz⟩
      · omega
      have hck := hcz k hlt
      have ES := fun y => val_set rs (t + k) y (by omega)
      have DS := fun y => drop_set (rs := rs) (k := t + k) (T := t + n + 1) y (by omega)
      obtain ⟨y0, y1⟩ := wd_getD wR (t + k)
      generalize ys.getD k 0 = z at hck EQ z0 z1
      have oc := fun v (ov : Own W v (.slice (some ⟨g, 0, none⟩) M M) M rs) => ov.cell (t + k) (by omega)
      generalize rs.getD (t + k) 0 = s at oc ES y0 y1
      have AC := fun v => limb_add s z cy v y0 y1 z0 z1 c0 (by omega)
      have HZ : Hid (((s + z + cy) % 4294967296).toNat + 4294967296 * ((s + z + cy) / 4294967296).toNat = s.toNat + z.toNat + cy.toNat ∧ 0 ≤ (s + z + cy) / 4294967296 ∧ (s + z + cy) / 4294967296 ≤ 1 ∧ 0 ≤ (s + z + cy) % 4294967296 ∧ (s + z + cy) % 4294967296 < 4294967296) :=
        ⟨by omega, by omega, by omega, by omega, by omega⟩
      generalize (s + z + cy) % 4294967296 = s2 at AC HZ
      generalize (s + z + cy) / 4294967296 = cq at AC HZ
      have HN : Hid (val (rs.set (t + k) s2) + cq.toNat * 4294967296 ^ (t + (k + 1)) = val ss + val (ys.take (k + 1)) * 4294967296 ^ t) := by
        show _ = _
        rw [EQ.out, ← Nat.add_assoc, Nat.pow_succ]
        exact back_step (Nat.pow_add _ _ _) (ES s2) HI.out HZ.out.1
      have WN : Wd (rs.set (t + k) s2) := wd_set wR (t + k) HZ.out.2.2.2.1 HZ.out.2.2.2.2
      have DN : Hid ((rs.set (t + k) s2).drop (t + n + 1) = ss.drop (t + n + 1)) := (DS s2).trans HD.out
      obtain ⟨hc0, hf0, -, -⟩ := oc _ o
      clear EQ HI ES DS wR hz hcz HV hl h hrl wS HD
      go_wp2_with (first
        | (go_at_call 167; with_reducible refine Calls.mono (AC _) ?_; rintro e w4 ⟨rfl, b4⟩; have o4 := o.more b4; obtain ⟨hc4, hf4, -, -⟩ := oc _ o4))
      go_roundw
      case rel => exact ⟨k + 1, cq, rs.set (t + k) s2, by omega, by go_num, rfl, HZ.out.2.1, HZ.out.2.2.1, o4.set (t + k) s2, WN, (hB.more b4).set _ _, DN.out, HN.out⟩
      case measure => simp [intOf]; omega
    · obtain ⟨y0, y1⟩ := wd_getD wR (t + n)
      have HI' : Hid (val rs + cy.toNat * 4294967296 ^ (t + n) = val ss + val ys * 4294967296 ^ t) := by
        have h1 := HI.out
        have h2 := hl.out
        rw [show k = n by omega, List.take_of_length_le (by omega)] at h1
        exact h1
      have ES := fun y => val_set rs (t + n) y (by omega)
      have DS := fun y => drop_set (rs := rs) (k := t + n) (T := t + n + 1) y (by omega)
      have oc := fun v (ov : Own W v (.slice (some ⟨g, 0, none⟩) M M) M rs) => ov.cell (t + n) (by omega)
      generalize rs.getD (t + n) 0 = s at oc ES y0 y1
      have AC := fun v => limb_add s 0 cy v y0 y1 (by omega) (by omega) c0 (by omega)
      have HZ : Hid (((s + 0 + cy) % 4294967296).toNat + 4294967296 * ((s + 0 + cy) / 4294967296).toNat = s.toNat + cy.toNat ∧ 0 ≤ (s + 0 + cy) / 4294967296 ∧ (s + 0 + cy) / 4294967296 ≤ 1 ∧ 0 ≤ (s + 0 + cy) % 4294967296 ∧ (s + 0 + cy) % 4294967296 < 4294967296) :=
        ⟨by omega, by omega, by omega, by omega, by omega⟩
      generalize (s + 0 + cy) % 4294967296 = s2 at AC HZ
      generalize (s + 0 + cy) / 4294967296 = b2 at AC HZ
      have HN : Hid (val (rs.set (t + n) s2) + b2.toNat * 4294967296 ^ (t + n + 1) = val ss + val ys * 4294967296 ^ t) := by
        show _ = _
        rw [Nat.pow_succ]
        exact back_last (ES s2) HI'.out HZ.out.1
      have WN : Wd (rs.set (t + n) s2) := wd_set wR (t + n) HZ.out.2.2.2.1 HZ.out.2.2.2.2
      have LN : Hid (val (rs.set (t + n) s2) < 4294967296 ^ (t + n + 1)) := val_lt_of_drop WN ((DS s2).trans HD.out) HV.out
      obtain ⟨hc0, hf0, -, -⟩ := oc _ o
      obtain ⟨p0, p1⟩ : 0 ≤ b2 ∧ b2 ≤ 1 := ⟨HZ.out.2.1, HZ.out.2.2.1⟩
      clear HI HI' ES DS wR hz HV hl h hrl wS HD HZ
      rcases (by omega : b2 = 0 ∨ b2 = 1) with rfl | rfl
      all_goals
        go_wp2_with (first
          | (go_at_call 167; with_reducible refine Calls.mono (AC _) ?_; rintro e w4 ⟨rfl, b4⟩; have o4 := o.more b4; obtain ⟨hc4, hf4, -, -⟩ := oc _ o4))
        go_ret
        exact ⟨_, _, by decide, rfl, o4.set (t + n) s2, WN, (hB.more b4).set _ _, LN.out, HN.out⟩
end Go.Proofs.YtpimcbncmfpdhaaGreatDoor
/-
  Contracts of package split's functions Small and Half, for every list of words: what a word goes into and what is left, as numbers. Memory that was there stays, and what is answered is the call's own.
-/
namespace Go.Proofs.YtpimcbncmfpdhaaGreatDoor
open Go.RowKit

/-- What Small answers: a slice of the call's own, the list of Q, and R. -/
def AnsSmall (W : World) (Q : Nat) (R : Int) (e : Ending) (w' : World) : Prop := ∃ a c, e = .returned (.tuple #[.slice a (nl Q) c, .int .u32 R, .bool true]) ∧ Own W w' (.slice a (nl Q) c) (nl Q) (natOf Q)

theorem split_small_no (a : Option Addr) (n c : Nat) (w : World) :
    Calls Tryz.prog 132 #[.slice a n c, .int .u32 0] w fun e w' => e = .returned (.tuple #[.slice none 0 0, .int .u32 0, .bool false]) ∧ w = w' := by
  go_enter Tryz.func132, Tryz.ntmps132
  go_wp2
  go_ret3
  exact ⟨rfl, rfl⟩

/-- One digit's step. -/
theorem small_step {p Q Q' D R R' z q V : Nat} (hs : Q' + 0 * p = Q + q * p) (hi : Q * D + R * (p * 4294967296) = V) (hy : q * D + R' = R * 4294967296 + z) : Q' * D + R' * p = V + z * p := by
  have e : (q * D + R') * p = (R * 4294967296 + z) * p := by rw [hy]
  have e1 : R * (p * 4294967296) = R * 4294967296 * p := by rw [Nat.mul_comm p, Nat.mul_assoc]
  rw [show Q' = Q + q * p by omega, Nat.add_mul, Nat.mul_right_comm q p D, ← hi, e1]
  rw [Nat.add_mul, Nat.add_mul] at e
  omega

/-- Words below k that are 0. -/
def Low0 (k : Nat) (qs : List Int) : Prop := ∀ j, j < k → qs.getD j 0 = 0
theorem low0_zeros (k L : Nat) : Low0 k (List.replicate L 0) := fun j _ => by
  rw [List.getD_eq_getElem?_getD, List.getElem?_replicate]; split <;> rfl
theorem ret_small {a : Option Addr} {n c : Nat} {R R' : Int} {r : Bool} (h : R = R') : Ending.returned (.tuple #[.slice a n c, .int .u32 R, .bool r]) = .returned (.tuple #[.slice a n c, .int .u32 R', .bool r]) := by rw [h]

set_option maxHeartbeats 2000000 in
theorem split_small (a : Option Addr) (n c : Nat) (zs : List Int) (d : Int) (w : World) (h : IsWords w (.slice a n c) zs) (hz : Wd zs) (hn : n ≤ 35184372088832) (d0 : 0 < d) (d1 : d < 4294967296) :
    Calls Tryz.prog 132 #[.slice a n c, .int .u32 d] w (AnsSmall w (val zs / d.toNat) ((val zs % d.toNat : Nat) : Int)) := by
  have R1 := split_right a n c zs w h hz
  have S1 := h.right hz
  have b1 := (h.low hz).2.2
  have wP := wd_natOf (val zs)
  have EV : Hid (val (natOf (val zs)) = val zs) := val_natOf (val zs)
  have hl : Hid ((natOf (val zs)).length = nl (val zs)) := rfl
  clear h hz
  generalize val zs = A at *
  generalize nl A = L at R1 S1 b1 hl
  generalize natOf A = ps at S1 wP EV hl
  have dne : d ≠ 0 := by omega
  go_enter Tryz.func132, Tryz.ntmps132
  go_wp2_with (first
    | (go_at_call 137; with_reducible refine Calls.mono R1 ?_; rintro e w1 ⟨rfl, rfl⟩)
    | (at_make; refine wpl_make_words (.tmp 13) rfl rfl w w L _ rfl (by omega) (by omega) (Below.refl _ _) ?_; intro g w1 hg o1))
  clear R1
  go_loopw [5, 7] (fun rr i v => ∃ (k : Nat) (R : Int) (qs : List Int), k ≤ L ∧ i = .int .i64 ((k : Int) - 1) ∧ rr = .int .u32 R ∧ 0 ≤ R ∧ R < d ∧ Own w v (.slice (some ⟨g, 0, none⟩) L L) L qs ∧ Wd qs ∧ Low0 k qs ∧ val qs * d.toNat + R.toNat * 4294967296 ^ k = 4294967296 ^ k * val (ps.drop k)) (fun _ i _ => (intOf i + 1).toNat)
  case atStart => exact ⟨L, 0, _, by omega, rfl, rfl, by omega, d0, o1, wd_zeros L, low0_zeros L L, by rw [val_zeros, List.drop_of_length_le (by rw [hl.out]; omega)]; simp [val]⟩
  case round =>
    obtain ⟨k, R, qs, hk, rfl, rfl, r0, r1, o, wQ, hL0, hI⟩ := hrel
    have HI : Hid (val qs * d.toNat + R.toNat * 4294967296 ^ k = 4294967296 ^ k * val (ps.drop k)) := hI
    have HL : Hid (Low0 k qs) := hL0
    clear hI hL0 o1
    have hql := o.length
    rcases Nat.eq_zero_or_pos k with hk0 | hk0
    · subst hk0
      rw [show ((0 : Nat) : Int) - 1 = -1 from rfl]
      have HS : val qs * d.toNat + R.toNat = A := by
        have h1 := HI.out
        rw [Nat.pow_zero, List.drop_zero, EV.out] at h1
        omega
      have hdt : (0 : Nat) < d.toNat := by omega
      have hRt : R.toNat < d.toNat := by omega
      have HQ : val qs = A / d.toNat := by
        rw [← HS, Nat.mul_comm, Nat.mul_add_div hdt, Nat.div_eq_of_lt hRt, Nat.add_zero]
      have HR : Hid (R = ((A % d.toNat : Nat) : Int)) := by
        show _ = _
        have : A % d.toNat = R.toNat := by rw [← HS, Nat.mul_comm, Nat.mul_add_mod, Nat.mod_eq_of_lt hRt]
        omega
      have R3 := split_right _ _ _ qs wr o.words wQ
      have OR := o.right wQ
      rw [HQ] at R3 OR
      clear HI HL o wQ hql HS HQ S1 EV hl wP
      go_wp2_with (first
        | (go_at_call 137; with_reducible refine Calls.mono R3 ?_; rintro e w1 ⟨rfl, rfl⟩))
      go_ret3
      exact ⟨_, _, ret_small HR.out, OR⟩
    · obtain ⟨t, rfl⟩ : ∃ t, k = t + 1 := ⟨k - 1, by omega⟩
      rw [show ((t + 1 : Nat) : Int) - 1 = t by omega]
      obtain ⟨z0, z1⟩ := wd_getD wP t
      rcases (S1.below o.below).reads.1.2 with h0 | ⟨b, off, rfl, hcz⟩
      · omega
      have hck := hcz t (by omega)
      have DV : Hid (val (ps.drop t) = (ps.getD t 0).toNat + 4294967296 * val (ps.drop (t + 1))) := val_drop ps t
      generalize ps.getD t 0 = z at hck DV z0 z1
      have AC := limb_div R z d wr r0 r1 z0 z1 d1
      have HY : Hid ((((R * 4294967296 + z) / d).toNat * d.toNat + ((R * 4294967296 + z) % d).toNat = R.toNat * 4294967296 + z.toNat) ∧ 0 ≤ (R * 4294967296 + z) / d ∧ (R * 4294967296 + z) / d < 4294967296 ∧ 0 ≤ (R * 4294967296 + z) % d ∧ (R * 4294967296 + z) % d < d) := by
        have q0 : 0 ≤ (R * 4294967296 + z) / d := Int.ediv_nonneg (by omega) (by omega)
        have q1 : (R * 4294967296 + z) / d < 4294967296 := Int.ediv_lt_of_lt_mul (by omega) (by omega)
        have r0' : 0 ≤ (R * 4294967296 + z) % d := Int.emod_nonneg _ (by omega)
        have r1' : (R * 4294967296 + z) % d < d := Int.emod_lt_of_pos _ (by omega)
        refine ⟨?_, q0, q1, r0', r1'⟩
        have h1 := Int.ediv_mul_add_emod (R * 4294967296 + z) d
        have h2 : ((R * 4294967296 + z) / d * d).toNat = ((R * 4294967296 + z) / d).toNat * d.toNat := Int.toNat_mul q0 (by omega)
        have h3 : 0 ≤ (R * 4294967296 + z) / d * d := Int.mul_nonneg q0 (by omega)
        rw [← h2]
        omega
      generalize (R * 4294967296 + z) / d = y at AC HY
      generalize (R * 4294967296 + z) % d = R2 at AC HY
      have ES := val_set qs t y (by omega)
      rw [HL.out t (by omega)] at ES
      have HN : Hid (val (qs.set t y) * d.toNat + R2.toNat * 4294967296 ^ t = 4294967296 ^ t * val (ps.drop t)) := by
        show _ = _
        have h1 := HI.out
        rw [Nat.pow_succ] at h1
        have h2 := small_step (p := 4294967296 ^ t) ES h1 HY.out.1
        rw [h2, DV.out, Nat.mul_add, Nat.mul_comm z.toNat, Nat.mul_assoc, Nat.add_comm]
      have WN : Wd (qs.set t y) := wd_set wQ t HY.out.2.1 HY.out.2.2.1
      have LN : Low0 t (qs.set t y) := fun j hj => by
        rw [List.getD_eq_getElem?_getD, List.getElem?_set_ne (by omega), ← List.getD_eq_getElem?_getD]
        exact HL.out j (by omega)
      have H2 : 0 ≤ R2 ∧ R2 < d := HY.out.2.2.2
      have HH : Hid (Low0 t (qs.set t y)) := LN
      obtain ⟨hc0, hf0, -, -⟩ := o.cell t (by omega)
      clear DV HI ES wQ hcz hql HY LN HL EV hl S1 wP
      go_wp2_with (first
        | (go_at_call 155; with_reducible refine Calls.mono AC ?_; rintro e w4 ⟨rfl, b4⟩; have o4 := o.more b4; obtain ⟨hc4, hf4, -, -⟩ := o4.cell t (by omega)))
      go_roundw
      case rel => exact ⟨t, R2, qs.set t y, by omega, rfl, rfl, H2.1, H2.2, o4.set t y, WN, HH.out, HN.out⟩
      case measure => simp [intOf]


end Go.Proofs.YtpimcbncmfpdhaaGreatDoor
/-
  Contract of package split's function firstGuess, for every two lists of words: a digit's first guess is not less than the right one. Memory that was there stays.
-/
namespace Go.Proofs.YtpimcbncmfpdhaaGreatDoor
open Go.RowKit

/-- By the highest words a digit is not more than the guess. -/
theorem guess_le {ss ys : List Int} {t n : Nat} {h1 h0 b1 : Int} (hs : Wd ss) (hb : 0 < b1) (e1 : ss.getD (t + n + 1) 0 = h1) (e0 : ss.getD (t + n) 0 = h0) (eb : ys.getD n 0 = b1) (hl : ys.length = n + 1) (hv : val ss < 4294967296 ^ (t + (n + 1) + 1))
    (q : Nat) (hq : q * val ys * 4294967296 ^ t ≤ val ss) : (q : Int) ≤ (h1 * 4294967296 + h0) / b1 := by
  have w1 := wd_getD hs (t + n + 1)
  have w0 := wd_getD hs (t + n)
  rw [e1] at w1
  rw [e0] at w0
  have s1 : val ss = val (ss.take (t + n)) + (h0.toNat + 4294967296 * h1.toNat) * 4294967296 ^ (t + n) := by
    have a1 := val_take_all ss (t + n + 1 + 1) (by rw [show t + n + 1 + 1 = t + (n + 1) + 1 by omega]; exact hv)
    rw [val_take_succ, val_take_succ, e1, e0, Nat.pow_succ] at a1
    rw [← a1, Nat.add_mul, Nat.mul_comm (4294967296 ^ (t + n)), ← Nat.mul_assoc, Nat.mul_comm h1.toNat]
    omega
  have s2 := val_take_lt ss hs (t + n)
  have s3 : b1.toNat * 4294967296 ^ n ≤ val ys := by
    have a1 : ys.take (n + 1) = ys := List.take_of_length_le (by omega)
    have a2 := val_take_succ ys n
    rw [a1, eb] at a2
    omega
  have s4 : q * b1.toNat * 4294967296 ^ (t + n) ≤ val ss := by
    refine Nat.le_trans ?_ hq
    rw [Nat.pow_add, Nat.mul_comm (4294967296 ^ t), ← Nat.mul_assoc, Nat.mul_assoc q]
    exact Nat.mul_le_mul_right _ (Nat.mul_le_mul_left _ s3)
  have s5 : q * b1.toNat * 4294967296 ^ (t + n) < (h0.toNat + 4294967296 * h1.toNat + 1) * 4294967296 ^ (t + n) := by
    rw [Nat.add_mul (h0.toNat + 4294967296 * h1.toNat) 1]
    omega
  have s6 := Nat.lt_of_mul_lt_mul_right s5
  rw [Int.le_ediv_iff_mul_le hb]
  have s7 : (q : Int) * b1 = ((q * b1.toNat : Nat) : Int) := by
    rw [Int.natCast_mul, Int.toNat_of_nonneg (by omega)]
  rw [s7]
  omega

section
attribute [local go_sem ↓] Go.wp_at_zero Go.wp_at_succ
set_option maxHeartbeats 2000000 in
theorem split_guess (W : World) (g M t n N c C : Nat) (ss : List Int) (a : Option Addr) (ys : List Int) (w : World) (o : Own W w (.slice (some ⟨g, 0, none⟩) M M) M ss) (wS : Wd ss)
    (h : IsWords w (.slice a N c) ys) (hz : Wd ys) (hN : N = n + 1) (hM : t + N + 1 ≤ M) (hM2 : M ≤ 35184372088832) (hv : val ss < 4294967296 ^ (t + N + 1)) (htop : ys.getD n 0 ≠ 0) :
    Calls Tryz.prog 159 #[.slice (some ⟨g, t, none⟩) (N + 1) C, .slice a N c] w fun e w' => ∃ G : Int, e = .returned (.int .u32 G) ∧ 0 ≤ G ∧ G < 4294967296 ∧ Below w.heap.size w w' ∧
      ∀ q : Nat, q < 4294967296 → q * val ys * 4294967296 ^ t ≤ val ss → (q : Int) ≤ G := by
  obtain ⟨z0, z1⟩ := wd_getD hz n
  have hG := fun h1 h0 b1 hb e1 e0 eb => guess_le (ss := ss) (ys := ys) (t := t) (n := n) (h1 := h1) (h0 := h0) (b1 := b1) wS hb e1 e0 eb (by rw [h.len, hN]) (by rw [← hN]; exact hv)
  have hc1 := (o.cell (t + N) (by omega)).1
  have hc0 := (o.cell (t + n) (by omega)).1
  obtain ⟨x0, x1⟩ := wd_getD wS (t + N)
  obtain ⟨y0, y1⟩ := wd_getD wS (t + n)
  rcases h.reads.1.2 with h0 | ⟨b, off, rfl, hcz⟩
  · omega
  have hcb := hcz n (by omega)
  clear hcz h hz hv wS o
  generalize ys.getD n 0 = bt at hcb hG z0 z1 htop
  have eN : t + n + 1 = t + N := by omega
  rw [eN] at hG
  generalize ss.getD (t + N) 0 = h1 at hc1 hG x0 x1
  generalize ss.getD (t + n) 0 = h0 at hc0 hG y0 y1
  have HG := hG _ _ _ (by omega) rfl rfl rfl
  clear hG
  have e1 : (N : Int) - 1 = n := by omega
  have n1 : n < N := by omega
  have n2 : N < N + 1 := by omega
  have n3 : n < N + 1 := by omega
  have n4 : n ≤ N := by omega
  have n5 : (n : Int) < (N : Int) + 1 := by omega
  have n7 : IntKind.i64.wrap (n : Int) = n := by rw [IntKind.wrap_i64]; omega
  clear hN eN
  have D1 : w.drew.cell? ⟨g, t + N, none⟩ = some (.int .u32 h1) := hc1
  have D0 : w.drew.cell? ⟨g, t + n, none⟩ = some (.int .u32 h0) := hc0
  have DB : w.drew.cell? ⟨b, off + n, none⟩ = some (.int .u32 bt) := hcb
  have AC : Calls Tryz.prog 155 #[.int .u32 h1, .int .u32 h0, .int .u32 bt] w.drew fun e w' => ∃ (G R : Int) (ok : Bool), e = .returned (.tuple #[.int .u32 G, .int .u32 R, .bool ok]) ∧ Below w.heap.size w w' ∧
      (ok = false ∨ ok = true ∧ 0 ≤ G ∧ G < 4294967296 ∧ Hid (∀ q : Nat, q * val ys * 4294967296 ^ t ≤ val ss → (q : Int) ≤ G)) := by
    by_cases hlt : h1 < bt
    · have q0 : 0 ≤ (h1 * 4294967296 + h0) / bt := Int.ediv_nonneg (by omega) (by omega)
      have q1 : (h1 * 4294967296 + h0) / bt < 4294967296 := Int.ediv_lt_of_lt_mul (by omega) (by omega)
      refine (limb_div h1 h0 bt w.drew x0 hlt y0 y1 z1).mono ?_
      rintro e w3 ⟨rfl, b3⟩
      exact ⟨_, _, _, rfl, (Below.refl _ w).drew.trans b3, .inr ⟨rfl, q0, q1, HG⟩⟩
    · refine (limb_div_no h1 h0 bt w.drew (by omega)).mono ?_
      rintro e w3 ⟨rfl, b3⟩
      exact ⟨_, _, _, rfl, (Below.refl _ w).drew.trans b3, .inl rfl⟩
  clear HG hc0 hc1 hcb
  go_enter Tryz.func159, Tryz.ntmps159
  go_wp2
  go_region_with (first
    | (go_at_call 155; with_reducible refine Calls.mono AC ?_; rintro e w3 ⟨G, R, ok, rfl, b3, hok⟩))
  all_goals
    rcases hok with rfl | ⟨rfl, q0, q1, HH⟩
    · go_wp2
      go_ret
      exact ⟨4294967295, rfl, by omega, by omega, b3, fun q hq _ => by omega⟩
    · go_wp2
      go_ret
      exact ⟨G, rfl, q0, q1, b3, fun q _ hq => HH.out q hq⟩
end
end Go.Proofs.YtpimcbncmfpdhaaGreatDoor
/-
  Contract of package split's function digits, for every two lists of words, the second one's last word not 0: how often it goes in, and what is left in its place. Nothing older than the caller's turns.
-/
namespace Go.Proofs.YtpimcbncmfpdhaaGreatDoor
open Go.RowKit

/-- The first line taken: what is left, with the guess e above the digit. -/
theorem take_first {S S1 d e b P Y q V : Nat} (hS : S = d * (Y * q) + V) (hV : V < Y * q) (h1 : S1 < P) (hb : b ≤ 1) (h : S1 + Y * (d + e) * q = S + b * P) :
    e = 0 ∧ b = 0 ∧ S1 = V ∨ 0 < e ∧ b = 1 ∧ S1 + e * (Y * q) = V + P := by
  have e1 : Y * (d + e) * q = d * (Y * q) + e * (Y * q) := by rw [Nat.mul_comm Y, Nat.mul_assoc, Nat.add_mul]
  rw [e1, hS] at h
  rcases Nat.eq_zero_or_pos e with rfl | he
  · rcases (by omega : b = 0 ∨ b = 1) with rfl | rfl
    · exact .inl ⟨rfl, rfl, by omega⟩
    · omega
  · have h2 : 1 * (Y * q) ≤ e * (Y * q) := Nat.mul_le_mul_right _ he
    rcases (by omega : b = 0 ∨ b = 1) with rfl | rfl
    · omega
    · exact .inr ⟨he, rfl, by omega⟩
/-- One line put back. -/
theorem back_first {S1 S2 e b P p V : Nat} (hV : V < p) (h1 : S1 + (e + 1) * p = V + P) (h2 : S2 + b * P = S1 + p) (hb : b ≤ 1) (h3 : S2 < P) :
    e = 0 ∧ b = 1 ∧ S2 = V ∨ 0 < e ∧ b = 0 ∧ S2 + e * p = V + P := by
  rw [Nat.add_mul, Nat.one_mul] at h1
  rcases Nat.eq_zero_or_pos e with rfl | he
  · rcases (by omega : b = 0 ∨ b = 1) with rfl | rfl
    · omega
    · exact .inl ⟨rfl, rfl, by omega⟩
  · have h2 : 1 * p ≤ e * p := Nat.mul_le_mul_right _ he
    rcases (by omega : b = 0 ∨ b = 1) with rfl | rfl
    · exact .inr ⟨he, rfl, by omega⟩
    · omega

/-- All digits are found. -/
theorem digits_end {A S Y Q R : Nat} (h : A * Y + S = Q * Y + R) (hS : S < Y) (hR : R < Y) : A = Q ∧ S = R := by
  have h1 : (Y * A + S) / Y = (Y * Q + R) / Y := by rw [Nat.mul_comm Y A, Nat.mul_comm Y Q, h]
  rw [Nat.mul_add_div (by omega), Nat.mul_add_div (by omega), Nat.div_eq_of_lt hS, Nat.div_eq_of_lt hR] at h1
  have h2 : A = Q := by omega
  subst h2
  exact ⟨rfl, by omega⟩

theorem getD_top (Y n : Nat) (h : nl Y = n + 1) : (natOf Y).getD n 0 ≠ 0 := by
  have h1 := right_nat Y
  have h2 := lowN_top (natOf Y) (nl Y)
  rw [h1] at h2
  rcases h2 with h2 | h2
  · omega
  · rw [h] at h2; exact h2

theorem IsWords.block {w : World} {a : Option Addr} {n c : Nat} {zs : List Int} (h : IsWords w (.slice a n c) zs) (hn : 0 < n) (x : Addr) (hx : a = some x) : x.block < w.heap.size := by
  rcases h with ⟨e, -⟩ | ⟨y, cap, e, -, -, hc⟩
  · simp only [Value.slice.injEq] at e; omega
  · simp only [Value.slice.injEq] at e
    have h0 := World.block_lt_of_cell? w _ (hc 0 (by omega))
    rw [add_block] at h0
    have : y = x := by have := e.1; rw [hx] at this; simpa using this.symm
    rw [← this]; exact h0

set_option maxHeartbeats 4000000 in
theorem split_digits (W : World) (g M n N L c : Nat) (ss : List Int) (a : Option Addr) (ys : List Int) (Q R : Nat) (w : World) (o : Own W w (.slice (some ⟨g, 0, none⟩) M M) M ss) (wS : Wd ss)
    (h : IsWords w (.slice a N c) ys) (hz : Wd ys) (ha : Apart g a) (hn : N = n + 1) (htop : ys.getD n 0 ≠ 0) (hM : M = L + N) (hL : 0 < L) (hM2 : M ≤ 35184372088832) (hv : val ss = Q * val ys + R) (hR : R < val ys) (hQ : Q < 4294967296 ^ L) :
    Calls Tryz.prog 139 #[.slice (some ⟨g, 0, none⟩) M M, .slice a N c] w fun e w' => ∃ (a1 : Option Addr) (c1 : Nat) (ss' : List Int), e = .returned (.slice a1 (nl Q) c1) ∧ Own W w' (.slice a1 (nl Q) c1) (nl Q) (natOf Q) ∧
      Own W w' (.slice (some ⟨g, 0, none⟩) M M) M ss' ∧ Wd ss' ∧ val ss' = R := by
  have hgl : g < w.heap.size := (o.cell 0 (by omega)).2.2.2
  have hgW : W.heap.size ≤ g := (o.cell 0 (by omega)).2.2.1
  have hbl := h.block (by omega)
  have hYB : val ys < 4294967296 ^ N := by have := val_lt ys hz; rw [h.len] at this; exact this
  have HN : Hid (N = n + 1) := hn
  have n1 : 1 ≤ N := by omega
  have m1 : L + N ≤ M := by omega
  have m2 : M ≤ L + N := by omega
  have HV : Hid (val ss = Q * val ys + R) := hv
  have HR : Hid (R < val ys) := hR
  have HS : Hid (val ss < val ys * 4294967296 ^ L) := by
    show _ < _
    have h1 : (Q + 1) * val ys ≤ 4294967296 ^ L * val ys := Nat.mul_le_mul_right _ hQ
    rw [Nat.add_mul, Nat.one_mul, Nat.mul_comm (4294967296 ^ L)] at h1
    omega
  have HTOP : Hid (ys.getD n 0 ≠ 0) := htop
  have HYB : Hid (val ys < 4294967296 ^ N) := hYB
  clear hn hv hR hM htop hYB hQ
  have eL : (M : Int) - N = L := by omega
  go_enter Tryz.func139, Tryz.ntmps139
  go_wp2
  go_step3
  go_wp2_with (first
    | (at_make; refine wpl_make_words (.tmp 14) rfl rfl w w L _ rfl (by omega) (by omega) (Below.refl _ _) ?_; intro gq w1 hgq o1))
  clear eL
  have hne : g ≠ gq := by omega
  have hAq : Apart gq a := fun x hx => by have := hbl x hx; omega
  have hBq : Apart g (some ⟨gq, 0, none⟩) := fun x hx => by simp only [Option.some.injEq] at hx; rw [← hx]; exact fun e => hne e.symm
  have hCq : Apart gq (some ⟨g, 0, none⟩) := fun x hx => by simp only [Option.some.injEq] at hx; rw [← hx]; exact hne
  have hgq2 : W.heap.size ≤ gq := by have := o.below.size; omega
  have p1 := o.more o1.below
  have q1 := o1.outer o.below
  have h1 := h.below o1.below
  clear o h hbl hgl
  go_step3
  go_wp2
  clear o1
  go_loopg [6] L (fun k i v => ∃ (rs qs : List Int), k ≤ L ∧ i = .int .i64 ((k : Int) - 1) ∧ Own W v (.slice (some ⟨g, 0, none⟩) M M) M rs ∧ Wd rs ∧ Own W v (.slice (some ⟨gq, 0, none⟩) L L) L qs ∧ Wd qs ∧ IsWords v (.slice a N c) ys ∧ Low0 k qs ∧ val rs < val ys * 4294967296 ^ k ∧ val qs * val ys + val rs = Q * val ys + R)
  case atStart => exact ⟨ss, _, by omega, rfl, p1, wS, q1, wd_zeros L, h1, low0_zeros L L, HS.out, by rw [val_zeros, Nat.zero_mul, Nat.zero_add]; exact HV.out⟩
  case round =>
    obtain ⟨rs, qs, hk, rfl, oR, wR, oQ, wQ, hY, hL0, hlt, hI⟩ := hrel
    have HI : Hid (val qs * val ys + val rs = Q * val ys + R) := hI
    have HL : Hid (Low0 gk qs) := hL0
    have HLT : Hid (val rs < val ys * 4294967296 ^ gk) := hlt
    clear hI hL0 hlt p1 q1 h1
    have hql := oQ.length
    cases gk with
    | zero =>
      rw [show ((0 : Nat) : Int) - 1 = -1 from rfl]
      have HE : val qs = Q ∧ val rs = R := digits_end HI.out (by have := HLT.out; simpa using this) HR.out
      have R3 := split_right _ _ _ qs wr oQ.words wQ
      have OR := oQ.right wQ
      rw [HE.1] at R3 OR
      have HE2 : Hid (val rs = R) := HE.2
      clear HE HI HL HLT HV HS HR HTOP HYB
      go_wp2_with (first
        | (go_at_call 137; with_reducible refine Calls.mono R3 ?_; rintro e w2 ⟨rfl, rfl⟩))
      try rw [Exit.noGoto_ret]
      go_ret
      exact ⟨_, _, rs, rfl, OR, oR, wR, HE2.out⟩
    | succ t =>
      rw [show ((t + 1 : Nat) : Int) - 1 = t by omega]
      have hYpos : 0 < val ys := by have := HR.out; omega
      have hp : 0 < val ys * 4294967296 ^ t := Nat.mul_pos hYpos (Nat.pow_pos (by omega))
      obtain ⟨d, V, HD, HVd, hd⟩ : ∃ d V : Nat, Hid (val rs = d * (val ys * 4294967296 ^ t) + V) ∧ Hid (V < val ys * 4294967296 ^ t) ∧ Hid (d < 4294967296) := by
        refine ⟨val rs / (val ys * 4294967296 ^ t), val rs % (val ys * 4294967296 ^ t), ?_, Nat.mod_lt _ hp, ?_⟩
        · show _ = _
          rw [Nat.mul_comm]; exact (Nat.div_add_mod _ _).symm
        · show _ < _
          rw [Nat.div_lt_iff_lt_mul hp]
          have := HLT.out
          rw [Nat.pow_succ] at this
          rw [Nat.mul_comm 4294967296, Nat.mul_assoc]; exact this
      have HF : Hid (val rs < 4294967296 ^ (t + N + 1)) := by
        show _ < _
        have h1 := HLT.out
        have h2 : val ys * 4294967296 ^ (t + 1) ≤ 4294967296 ^ N * 4294967296 ^ (t + 1) := Nat.mul_le_mul_right _ (Nat.le_of_lt HYB.out)
        rw [show t + N + 1 = N + (t + 1) by omega, Nat.pow_add]
        omega
      have GS := fun v C (oo : Own W v (.slice (some ⟨g, 0, none⟩) M M) M rs) (hy : IsWords v (.slice a N c) ys) => split_guess W g M t n N c C rs a ys v oo wR hy hz HN.out (by omega) hM2 HF.out HTOP.out
      have TK := fun v C (G : Int) (g0 : 0 ≤ G) (g1 : G < 4294967296) (oo : Own W v (.slice (some ⟨g, 0, none⟩) M M) M rs) (hy : IsWords v (.slice a N c) ys) => split_take W g M t N c C rs a ys G v oo wR hy hz ha g0 g1 (by omega) hM2 HF.out
      have BK := fun v C rs' (wR' : Wd rs') (hf : val rs' < 4294967296 ^ (t + N + 1)) (oo : Own W v (.slice (some ⟨g, 0, none⟩) M M) M rs') (hy : IsWords v (.slice a N c) ys) => split_back W g M t N c C rs' a ys v oo wR' hy hz ha (by omega) hM2 hf
      have e3 : t + N + 1 - t = N + 1 := by omega
      have htL : t < L := by omega
      have htM : t + N + 1 ≤ M := by omega
      have HDG : Hid (d * val ys * 4294967296 ^ t ≤ val rs) := by
        show _ ≤ _
        rw [HD.out, Nat.mul_assoc]; omega
      clear HLT HF HTOP HYB HS hYpos hp
      go_wp2_with (first
        | (go_at_call 159; (with_reducible refine Calls.mono (GS _ _ oR hY) ?_); rintro e w3 ⟨G, rfl, g0, g1, b3, hG⟩; have oR3 := oR.more b3; have oQ3 := oQ.more b3; have hY3 := hY.below b3; have HG : Hid ((d : Int) ≤ G) := hG d hd.out HDG.out; clear hG GS)
        | (go_at_call 160; (with_reducible refine Calls.mono (TK _ _ G g0 g1 oR3 hY3) ?_); rintro e w4 ⟨b, rs4, hb, rfl, oR4, wR4, bt4, l4, E4⟩; have oQ4 := oQ3.but hBq bt4 oR4.below; have hY4 := hY3.but ha bt4; clear TK))
      clear e3
      obtain ⟨e, HE⟩ : ∃ e : Nat, Hid (G.toNat = d + e) := ⟨G.toNat - d, by show _ = _; have := HG.out; omega⟩
      have HT := take_first (e := e) HD.out HVd.out l4 hb (by have := E4; rw [HE.out] at this; exact this)
      clear E4 oR oQ hY oR3 oQ3 hY3 HG
      go_loopg [8, 9] e (fun k s8 s9 v => ∃ (G2 : Int) (x : Bool) (rs5 : List Int), s8 = .int .u32 G2 ∧ s9 = .bool x ∧ 0 ≤ G2 ∧ G2 < 4294967296 ∧ G2.toNat = d + k ∧ Own W v (.slice (some ⟨g, 0, none⟩) M M) M rs5 ∧ Wd rs5 ∧ Own W v (.slice (some ⟨gq, 0, none⟩) L L) L qs ∧ IsWords v (.slice a N c) ys ∧ val rs5 < 4294967296 ^ (t + N + 1) ∧ (k = 0 ∧ x = false ∧ val rs5 = V ∨ 0 < k ∧ x = true ∧ val rs5 + k * (val ys * 4294967296 ^ t) = V + 4294967296 ^ (t + N + 1)))
      case atStart =>
        refine ⟨G, _, rs4, rfl, rfl, g0, g1, HE.out, oR4, wR4, oQ4, hY4, l4, ?_⟩
        rcases HT with ⟨h1, rfl, h3⟩ | ⟨h1, rfl, h3⟩
        · exact .inl ⟨h1, rfl, h3⟩
        · exact .inr ⟨h1, rfl, h3⟩
      case round =>
        obtain ⟨G2, x, rs5, rfl, rfl, p0, p1, hGk, oR5, wR5, oQ5, hY5, l5, hx⟩ := hrel
        have HGK : Hid (G2.toNat = d + gk) := hGk
        have HL5 : Hid (val rs5 < 4294967296 ^ (t + N + 1)) := l5
        clear hGk l5 HT oR4 oQ4 hY4 l4
        cases gk with
        | zero =>
          obtain ⟨rfl, HX⟩ : x = false ∧ Hid (val rs5 = V) := by
            rcases hx with ⟨-, h1, h2⟩ | ⟨h1, -⟩
            · exact ⟨h1, h2⟩
            · omega
          clear hx BK
          obtain ⟨hc, hf, -, -⟩ := oQ5.cell t htL
          have ES := val_set qs t G2 (by omega)
          rw [HL.out t (by omega)] at ES
          have HN2 : Hid (val (qs.set t G2) * val ys + val rs5 = Q * val ys + R) := by
            show _ = _
            have h1 := HI.out
            have h2 := HGK.out
            rw [HD.out] at h1
            rw [← h1, HX.out, show val (qs.set t G2) = val qs + d * 4294967296 ^ t by rw [h2] at ES; simpa using ES, Nat.add_mul, Nat.mul_assoc d, Nat.mul_comm (4294967296 ^ t)]
            omega
          have WN : Wd (qs.set t G2) := wd_set wQ t p0 p1
          have LN : Hid (Low0 t (qs.set t G2)) := fun j hj => by
            rw [List.getD_eq_getElem?_getD, List.getElem?_set_ne (by omega), ← List.getD_eq_getElem?_getD]
            exact HL.out j (by omega)
          have HLN : Hid (val rs5 < val ys * 4294967296 ^ t) := by show _ < _; rw [HX.out]; exact HVd.out
          have bq := (But.refl gq wr).set t (.int .u32 G2)
          have oQ6 := oQ5.set t G2
          have oR6 := oR5.but hCq bq oQ6.below
          have hY6 := hY5.but hAq bq
          clear ES HI HL HX HD HGK wQ
          go_wp2
          go_roundg t
          case measure => omega
          case rel => exact ⟨rs5, _, by omega, by go_num, oR6, wR5, oQ6, WN, hY6, LN.out, HLN.out, HN2.out⟩
        | succ k =>
          obtain ⟨rfl, HX⟩ : x = true ∧ Hid (val rs5 + (k + 1) * (val ys * 4294967296 ^ t) = V + 4294967296 ^ (t + N + 1)) := by
            rcases hx with ⟨h1, -⟩ | ⟨-, h1, h2⟩
            · omega
            · exact ⟨h1, h2⟩
          have BK5 := fun C => BK _ C rs5 wR5 HL5.out oR5 hY5
          have HG1 : 1 ≤ G2 := by have := HGK.out; omega
          clear hx BK
          go_wp2_with (first
            | (go_at_call 161; (with_reducible refine Calls.mono (BK5 _) ?_); rintro e w6 ⟨b6, rs6, hb6, rfl, oR6, wR6, bt6, l6, E6⟩; have oQ6 := oQ5.but hBq bt6 oR6.below; have hY6 := hY5.but ha bt6; clear BK5))
          go_roundg k
          case measure => omega
          case rel =>
            have HB := back_first HVd.out HX.out E6 hb6 l6
            refine ⟨G2 - 1, _, rs6, by go_num, rfl, by omega, by omega, by have := HGK.out; omega, oR6, wR6, oQ6, hY6, l6, ?_⟩
            rcases HB with ⟨h1, rfl, h3⟩ | ⟨h1, rfl, h3⟩
            · exact .inl ⟨h1, rfl, h3⟩
            · exact .inr ⟨h1, rfl, h3⟩
end Go.Proofs.YtpimcbncmfpdhaaGreatDoor
