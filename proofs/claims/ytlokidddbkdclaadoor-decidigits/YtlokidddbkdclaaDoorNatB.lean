/-
  Contracts of package nat's functions Trim, Of, Small, Bits, for every list of words and every number: what each answers, as numbers; memory that was there stays, and what is answered is the call's own.
-/
import Derived.Test.YtlokidddbkdclaaDoorWords2
namespace Go.Proofs.YtlokidddbkdclaaDoor
open Go.RowKit

theorem val_int {k : IntKind} {a b : Int} (h : a = b) : Value.int k a = .int k b := by rw [h]

theorem ret_ib {k : IntKind} {a b : Int} {r : Bool} (h : a = b) : Ending.returned (.tuple #[.int k a, .bool r]) = .returned (.tuple #[.int k b, .bool r]) := by rw [h]

theorem IsWords.low {w : World} {a : Option Addr} {n c : Nat} {zs : List Int} (h : IsWords w (.slice a n c) zs) (hz : Wd zs) : lowN zs n = nl (val zs) ∧ zs.take (nl (val zs)) = natOf (val zs) ∧ nl (val zs) ≤ n := by
  have hl := h.len
  refine ⟨by rw [nl_val zs hz, hl], (natOf_take zs hz).symm, by rw [← hl]; exact nl_val_le zs hz⟩

/-- right, in numbers. -/
theorem nat_right' (a : Option Addr) (n c : Nat) (zs : List Int) (w : World) (h : IsWords w (.slice a n c) zs) (hz : Wd zs) :
    Calls Tryd.prog 32 #[.slice a n c] w fun e w' => e = .returned (.slice a (nl (val zs)) c) ∧ w = w' :=
  nat_right a n c zs w h _ (h.low hz).1
theorem IsWords.right {w : World} {a : Option Addr} {n c : Nat} {zs : List Int} (h : IsWords w (.slice a n c) zs) (hz : Wd zs) : IsWords w (.slice a (nl (val zs)) c) (natOf (val zs)) := by
  have hl := h.low hz
  rw [← hl.2.1]; exact h.take _ hl.2.2
theorem Own.right {W w : World} {a : Option Addr} {n c : Nat} {zs : List Int} (h : Own W w (.slice a n c) n zs) (hz : Wd zs) : Own W w (.slice a (nl (val zs)) c) (nl (val zs)) (natOf (val zs)) := by
  have hl := h.words.low hz
  rw [← hl.2.1]; exact h.take _ hl.2.2

/-- What nat's functions answer: a slice of the call's own, the list of the number N. -/
def Ans (W : World) (N : Nat) (e : Ending) (w' : World) : Prop := ∃ a c, e = .returned (.slice a (nl N) c) ∧ Own W w' (.slice a (nl N) c) (nl N) (natOf N)


set_option maxHeartbeats 1000000 in
theorem nat_of (n : Int) (w : World) (h0 : 0 ≤ n) (h1 : n < 18446744073709551616) :
    Calls Tryd.prog 39 #[.int .u64 n] w (Ans w n.toNat) := by
  have hw : Wd [n % 4294967296, n / 4294967296] := wd_cons' (by omega) (by omega) (wd_one (by omega) (by omega))
  have hv : val [n % 4294967296, n / 4294967296] = n.toNat := by simp only [val]; omega
  have O := own_lit w w [n % 4294967296, n / 4294967296] 2 (Below.refl _ _) rfl (by decide)
  have R := nat_right' _ _ _ _ _ O.words hw
  have P := O.right hw
  rw [hv] at R P
  clear O hw hv
  have e : Hid (n / 4294967296 % 4294967296 = n / 4294967296) := (by omega : n / 4294967296 % 4294967296 = n / 4294967296)
  simp only [List.map_cons, List.map_nil] at R P
  go_enter Tryd.func39, Tryd.ntmps39
  go_wp2_with (first
    | (go_at_call 32; with_reducible refine Calls.mono R ?_; rintro e w1 ⟨rfl, rfl⟩))
  go_ret
  exact ⟨_, _, rfl, P⟩

set_option maxHeartbeats 1000000 in
theorem nat_bits (a : Option Addr) (n c : Nat) (zs : List Int) (w : World) (h : IsWords w (.slice a n c) zs) (hz : Wd zs) (hn : n ≤ 35184372088832) :
    Calls Tryd.prog 18 #[.slice a n c] w fun e w' => e = .returned (.int .i64 (nbits (val zs))) ∧ w = w' := by
  have R := nat_right' a n c zs w h hz
  have hl := h.low hz
  have hL := hl.2.2
  by_cases h0 : nl (val zs) = 0
  · have e : Hid (nbits (val zs) = 0) := by
      have : val zs = 0 := by have := val_natOf (val zs); rw [List.eq_nil_of_length_eq_zero h0] at this; exact this.symm
      show _ = _
      rw [this, nbits_zero]
    rw [h0] at R
    clear h hz hl hL h0
    go_enter Tryd.func18, Tryd.ntmps18
    go_wp2_with (first
      | (go_at_call 32; with_reducible refine Calls.mono R ?_; rintro e w1 ⟨rfl, rfl⟩))
    go_ret
    exact ⟨ret_int (by rw [e.out]; rfl), rfl⟩
  · obtain ⟨k, hk⟩ : ∃ k, nl (val zs) = k + 1 := ⟨nl (val zs) - 1, by omega⟩
    have e : Hid (nbits (val zs) = 32 * k + nbits (zs.getD k 0).toNat) := nbits_top zs hz k (by rw [h.len, hl.1, hk])
    rcases h.reads.1.2 with h0 | ⟨b, off, rfl, hc⟩
    · omega
    have hck := hc k (by omega)
    have hb := wd_getD hz k
    have hkn : (k : Int) + 1 ≤ n := by omega
    rw [hk] at R
    clear h hz hl hL h0 hc hk
    generalize zs.getD k 0 = z at hck hb e
    obtain ⟨z0, z1⟩ := hb
    have B := fun v => limb_bits z v z0 z1
    have hbl : Lib.bitLen z.toNat ≤ 32 := Lib.bitLen_le _ 32 (by omega) (by omega)
    have e2 : Hid (Lib.bitLen z.toNat = nbits z.toNat) := nbits_bitLen _ (by omega)
    go_enter Tryd.func18, Tryd.ntmps18
    go_wp2_with (first
      | (go_at_call 32; with_reducible refine Calls.mono R ?_; rintro e w1 ⟨rfl, rfl⟩)
      | (go_at_call 36; with_reducible refine Calls.mono (B _) ?_; rintro e w1 ⟨rfl, rfl⟩))
    go_ret
    exact ⟨ret_int (by rw [e.out, ← e2.out]; omega), rfl⟩
end Go.Proofs.YtlokidddbkdclaaDoor
