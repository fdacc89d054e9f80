/-
  A contract of the document's own answer for shifts (package talwegref03: Shift), for every list of words and every number of bits up to 100000: as numbers; memory that was there stays, and what is answered is the call's own.
-/
import Derived.Test.YtglidhiabdnfeaaTimesRef
namespace Go.Proofs.Ytglidhiabdnfeaa
open Go.RowKit

/-- How many words a shifted number has. -/
theorem nl_shift (A k : Nat) : nl (A * 2 ^ k) ≤ nl A + k := by
  refine Nat.le_trans (nl_le (nl A + k) _ ?_) (Nat.le_refl _)
  rw [Nat.pow_add]
  exact Nat.mul_lt_mul_of_lt_of_le (lt_nl A) (Nat.pow_le_pow_left (by omega) k) (Nat.pow_pos (by omega))

set_option maxHeartbeats 2000000 in
/-- N is the number of bits that counts. -/
theorem ref_tshift (a : Option Addr) (m c : Nat) (zs : List Int) (s : Int) (w : World) (h : IsWords w (.slice a m c) zs) (hz : Wd zs) (hm : m ≤ 1000000) (N : Int) (hN : s ≤ 0 ∧ N = 0 ∨ 0 ≤ s ∧ s ≤ 100000 ∧ N = s) :
    Calls Try.prog 20 #[.slice a m c, .int .i64 s] w (Ans w (val zs * 2 ^ N.toNat)) := by
  have T := ref_trim a m c zs w h hz (by omega)
  have hL := (h.low hz).2.2
  clear h hz
  generalize val zs = A at *
  obtain ⟨E, hE1, hE2⟩ : ∃ E : Nat, (E : Int) ≤ N ∧ N ≤ E := ⟨N.toNat, by omega, by omega⟩
  have HE : Hid (N.toNat = E) := (by omega : N.toNat = E)
  have hs : s ≤ E ∧ (E = 0 ∨ (E : Int) ≤ s) ∧ E ≤ 100000 := by omega
  obtain ⟨hs1, hs2, hs3⟩ := hs
  rw [HE.out]
  clear hN hE1 hE2 HE
  go_enter Try.func20, Try.ntmps20
  go_wp2_with (first
    | (go_at_call 30; (with_reducible refine Calls.mono T ?_); rintro e w1 ⟨a1, c1, rfl, o1⟩))
  clear T
  go_loopw [5, 6] (fun s i v => ∃ (k : Nat) (oa : Option Addr) (ol oc : Nat) (P : List Int), k ≤ E ∧ i = .int .i64 k ∧ s = .slice oa ol oc ∧ Own w v (.slice oa ol oc) ol P ∧ ol = nl (A * 2 ^ k) ∧ P = natOf (A * 2 ^ k)) (fun _ i _ => E - (intOf i).toNat)
  case atStart => exact ⟨0, a1, _, c1, _, by omega, rfl, rfl, o1, by simp, by simp⟩
  case round =>
    obtain ⟨k, oa, ol, oc, P, hk, rfl, rfl, o, hol, rfl⟩ := hrel
    clear o1
    by_cases hlt : k < E
    · by_cases hA : A = 0
      · have h0 : ol = 0 := by rw [hol, hA]; simp [nl_zero]
        have HE : Hid (A * 2 ^ k = A * 2 ^ E) := by show _ = _; rw [hA]; simp
        rw [HE.out] at o hol
        have HO : Hid (ol = nl (A * 2 ^ E)) := hol
        clear hol hA
        have h1 : (k : Int) < s := by omega
        have h3 : (k : Int) < 100000 := by omega
        subst h0
        clear hs3 hs2 hs1 hlt hk hL
        go_wp2
        go_ret
        have e := HO.out
        exact ⟨oa, oc, by rw [← e]; rfl, by rw [← e]; exact o⟩
      · have h0 : 0 < ol := by rw [hol]; exact nl_pos (Nat.mul_pos (by omega) (Nat.pow_pos (by omega)))
        have W1 := nl_shift A k
        have M1 := ref_one _ _ _ _ 2 0 _ o.words (wd_natOf (A * 2 ^ k)) (by rw [hol]; omega) (by omega) (by omega) (by omega) (by omega)
        rw [val_natOf, show A * 2 ^ k * (2 : Int).toNat + (0 : Int).toNat = A * 2 ^ (k + 1) by rw [Nat.pow_succ, ← Nat.mul_assoc]; rfl] at M1
        have HO : Hid (ol = nl (A * 2 ^ k)) := hol
        have h1 : (k : Int) < s := by omega
        have h2 : ol ≤ 2000000 := by omega
        have h3 : (k : Int) < 100000 := by omega
        have h4 : k + 1 ≤ E := hlt
        clear hol hA W1 hs3 hs2 hs1 hk hL
        go_wp2_with (first
          | (go_at_call 15; (with_reducible refine Calls.mono M1 ?_); rintro e w3 ⟨a3, c3, rfl, o3⟩))
        go_roundw
        case rel => exact ⟨k + 1, a3, _, c3, _, by omega, by go_num, rfl, o3.outer o.below, rfl, rfl⟩
        case measure => simp [intOf]; omega
    · obtain rfl : k = E := by omega
      subst hol
      have h1 : ¬ (k : Int) < s := by omega
      go_wp2
      go_ret
      exact ⟨_, _, rfl, o⟩
end Go.Proofs.Ytglidhiabdnfeaa
