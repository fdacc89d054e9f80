/-
  Contracts of the document's own answers for powers (package talwegref03: Pow), for every list of words and every exponent: as numbers; memory that was there stays, and what is answered is the call's own.
-/
import Derived.Test.YtglidhiabdnfeaaShiftRef
import Derived.Test.YtglidhiabdnfeaaTimesC
namespace Go.Proofs.Ytglidhiabdnfeaa
open Go.RowKit

theorem natOf_one : natOf 1 = [1] := by rw [natOf_pos (by omega), show (1 : Nat) / 4294967296 = 0 by omega, natOf_zero]; rfl
theorem nl_one : nl 1 = 1 := by unfold nl; rw [natOf_one]; rfl
theorem wd_lit_one : Wd [1] := wd_one (by omega) (by omega)

/-- 0 and 1 to a power: as to that power's first. -/
theorem small_pow {A n : Nat} (h : A ≤ 1) (hn : 1 ≤ n) : A ^ n = A ^ 1 := by
  rcases Nat.le_one_iff_eq_zero_or_eq_one.1 h with rfl | rfl
  · rw [Nat.zero_pow (by omega), Nat.pow_one]
  · simp

set_option maxHeartbeats 2000000 in
theorem ref_tpow_no (a : Option Addr) (m c : Nat) (zs : List Int) (n : Int) (w : World) (h : IsWords w (.slice a m c) zs) (hz : Wd zs) (hm : m ≤ 1000000000) (hn : n < 0 ∨ 1 < val zs ∧ (4096 / nl (val zs) : Int) < n) :
    Calls Try.prog 18 #[.slice a m c, .int .i64 n] w fun e w' => e = .returned (.tuple #[.slice none 0 0, .bool false]) ∧ Below w.heap.size w w' := by
  have T := ref_trim a m c zs w h hz (by omega)
  have hL := (h.low hz).2.2
  have hp : 1 < val zs → 0 < nl (val zs) := fun h => nl_pos (by omega)
  clear h hz
  generalize val zs = A at *
  have C := fun v a1 c1 b1 (p : IsWords v (.slice a1 (nl A) c1) (natOf A)) (q : IsWords v (.slice b1 1 1) [1]) => ref_cmp _ _ _ _ _ _ _ _ v p (wd_natOf A) q wd_lit_one (by omega) (by omega)
  rw [val_natOf, show val [1] = 1 from rfl] at C
  have L1 := fun v => lit_words v [1] 1 rfl (by decide)
  simp only [List.map_cons, List.map_nil] at L1
  by_cases h0 : n < 0
  · generalize sgn (A : Int) (1 : Nat) = sg at C
    clear hn
    go_enter Try.func18, Try.ntmps18
    go_wp2_with (first
      | (go_at_call 30; (with_reducible refine Calls.mono T ?_); rintro e w1 ⟨a1, c1, rfl, o1⟩)
      | (go_at_call 16; (with_reducible refine Calls.mono (C _ _ _ _ (o1.alloc _).words (L1 _)) ?_); rintro e w2 ⟨rfl, rfl⟩))
    go_ret2
    exact ⟨rfl, (o1.alloc _).below⟩
  · obtain ⟨h1, h2⟩ := hn.resolve_left h0
    have hp1 := hp h1
    rw [sgn_gt (by omega)] at C
    clear hn h1 hp
    go_enter Try.func18, Try.ntmps18
    go_wp2_with (first
      | (go_at_call 30; (with_reducible refine Calls.mono T ?_); rintro e w1 ⟨a1, c1, rfl, o1⟩)
      | (go_at_call 16; (with_reducible refine Calls.mono (C _ _ _ _ (o1.alloc _).words (L1 _)) ?_); rintro e w2 ⟨rfl, rfl⟩))
    go_ret2
    exact ⟨rfl, (o1.alloc _).below⟩

set_option maxHeartbeats 4000000 in
theorem ref_tpow (a : Option Addr) (m c : Nat) (zs : List Int) (n : Int) (w : World) (h : IsWords w (.slice a m c) zs) (hz : Wd zs) (hm : m ≤ 1000000) (hn : 0 ≤ n) (hn1 : n < 9223372036854775808) (hok : val zs ≤ 1 ∨ nl (val zs) * n.toNat ≤ 4096) :
    Calls Try.prog 18 #[.slice a m c, .int .i64 n] w (AnsOk w (val zs ^ n.toNat)) := by
  have T := ref_trim a m c zs w h hz (by omega)
  have hL := (h.low hz).2.2
  clear h hz
  generalize val zs = A at *
  have hp : 1 < A → 0 < nl A := fun h => nl_pos (by omega)
  have hq : 1 < A → n ≤ 4096 / (nl A : Int) := fun h => by
    have h0 := hok.resolve_left (by omega)
    have : n.toNat ≤ 4096 / nl A := (Nat.le_div_iff_mul_le (hp h)).2 (by rw [Nat.mul_comm]; exact h0)
    have e : ((4096 / nl A : Nat) : Int) = 4096 / (nl A : Int) := by simp
    omega
  have C := fun v a1 c1 b1 (p : IsWords v (.slice a1 (nl A) c1) (natOf A)) (q : IsWords v (.slice b1 1 1) [1]) => ref_cmp _ _ _ _ _ _ _ _ v p (wd_natOf A) q wd_lit_one (by omega) (by omega)
  rw [val_natOf, show val [1] = 1 from rfl] at C
  have L1 := fun v => lit_words v [1] 1 rfl (by decide)
  have NW := fun k hk => nl_pow (A := A) (n := n.toNat) (k := k) hok hk
  simp only [List.map_cons, List.map_nil] at L1
  have hs : A ≤ 1 → sgn (A : Int) (1 : Nat) ≤ 0 := fun h => by
    rcases Nat.lt_or_ge A 1 with h0 | h0
    · rw [sgn_lt (by omega)]; omega
    · rw [sgn_eq (by omega)]; omega
  have hs2 : 1 < A → sgn (A : Int) (1 : Nat) = 1 := fun h => sgn_gt (by omega)
  rcases (by omega : 1 < A ∨ A ≤ 1 ∧ n ≤ 1 ∨ A ≤ 1 ∧ 1 < n) with hA | ⟨hA, hn2⟩ | ⟨hA, hn2⟩
  case' inl =>
    rw [hs2 hA] at C
    have hq1 := hq hA
    have hp1 := hp hA
    obtain ⟨E, hE1, hE2⟩ : ∃ E : Nat, (E : Int) ≤ n ∧ n ≤ E := ⟨n.toNat, by omega, by omega⟩
    have HE : Hid (A ^ E = A ^ n.toNat) := by show _ = _; rw [show E = n.toNat by omega]
  case' inr.inl =>
    have hs1 := hs hA
    generalize sgn (A : Int) (1 : Nat) = sg at C hs1
    obtain ⟨E, hE1, hE2⟩ : ∃ E : Nat, (E : Int) ≤ n ∧ n ≤ E := ⟨n.toNat, by omega, by omega⟩
    have HE : Hid (A ^ E = A ^ n.toNat) := by show _ = _; rw [show E = n.toNat by omega]
  case' inr.inr =>
    have hs1 := hs hA
    generalize sgn (A : Int) (1 : Nat) = sg at C hs1
    obtain ⟨E, hE1, hE2⟩ : ∃ E : Nat, (E : Int) ≤ 1 ∧ 1 ≤ (E : Int) := ⟨1, by omega, by omega⟩
    have HE : Hid (A ^ E = A ^ n.toNat) := by show _ = _; rw [show E = 1 by omega]; exact (small_pow hA (by omega)).symm
  all_goals
    have hEn : E ≤ n.toNat := by omega
    clear hs hs2 hp hq hok
    go_enter Try.func18, Try.ntmps18
    go_wp2_with (first
      | (go_at_call 30; (with_reducible refine Calls.mono T ?_); rintro e w1 ⟨a1, c1, rfl, o1⟩)
      | (go_at_call 16; (with_reducible refine Calls.mono (C _ _ _ _ (o1.alloc _).words (L1 _)) ?_); rintro e w2 ⟨rfl, rfl⟩))
    clear T C L1
    go_loopw [8, 9] (fun s i v => ∃ (k : Nat) (oa : Option Addr) (ol oc : Nat) (P : List Int), k ≤ E ∧ i = .int .i64 k ∧ s = .slice oa ol oc ∧ Own w v (.slice oa ol oc) ol P ∧ Own w v (.slice a1 (nl A) c1) (nl A) (natOf A) ∧ ol = nl (A ^ k) ∧ P = natOf (A ^ k)) (fun _ i _ => E - (intOf i).toNat)
    case atStart => exact ⟨0, _, 1, 1, [1], by omega, rfl, rfl, by simpa using own_lit w (w1.alloc (.cells #[.int .u32 1] 23)) [1] 1 (o1.alloc _).below rfl (by decide), (o1.alloc _).alloc _, by rw [Nat.pow_zero, nl_one], by rw [Nat.pow_zero, natOf_one]⟩
    case round =>
      obtain ⟨k, oa, ol, oc, P, hk, rfl, rfl, o, ot, hol, rfl⟩ := hrel
      clear o1
      by_cases hlt : k < E
      · have W1 := NW k (by omega)
        have M1 := ref_tmul _ _ _ _ _ _ _ _ _ o.words (wd_natOf (A ^ k)) ot.words (wd_natOf A) (by rw [hol]; omega) (by omega)
        rw [val_natOf, val_natOf, ← Nat.pow_succ] at M1
        have HO : Hid (ol = nl (A ^ k)) := hol
        clear hol NW
        go_wp2_with (first
          | (go_at_call 13; (with_reducible refine Calls.mono M1 ?_); rintro e w3 ⟨a3, c3, rfl, o3⟩))
        go_roundw
        case rel => exact ⟨k + 1, a3, _, c3, _, by omega, by go_num, rfl, o3.outer o.below, ot.more o3.below, rfl, rfl⟩
        case measure => simp [intOf]; omega
      · obtain rfl : k = E := by omega
        rw [HE.out] at o hol
        subst hol
        clear NW
        go_wp2
        go_ret2
        exact ⟨_, _, rfl, o⟩

end Go.Proofs.Ytglidhiabdnfeaa
