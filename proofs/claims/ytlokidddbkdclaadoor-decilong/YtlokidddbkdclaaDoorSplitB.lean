/-
  Contracts of package split's functions Small and Half, for every list of words: what a word goes into and what is left, as numbers. Memory that was there stays, and what is answered is the call's own.
-/
import Derived.Test.YtlokidddbkdclaaDoorSplitA
namespace Go.Proofs.YtlokidddbkdclaaDoor
open Go.RowKit

/-- What Small answers: a slice of the call's own, the list of Q, and R. -/
def AnsSmall (W : World) (Q : Nat) (R : Int) (e : Ending) (w' : World) : Prop := ∃ a c, e = .returned (.tuple #[.slice a (nl Q) c, .int .u32 R, .bool true]) ∧ Own W w' (.slice a (nl Q) c) (nl Q) (natOf Q)

theorem split_small_no (a : Option Addr) (n c : Nat) (w : World) :
    Calls Tryd.prog 49 #[.slice a n c, .int .u32 0] w fun e w' => e = .returned (.tuple #[.slice none 0 0, .int .u32 0, .bool false]) ∧ w = w' := by
  go_enter Tryd.func49, Tryd.ntmps49
  go_wp2
  go_ret3
  exact ⟨rfl, rfl⟩

/-- One digit's step. -/
theorem small_step {p Q Q' D R R' z q V : Nat} (hs : Q' + 0 * p = Q + q * p) (hi : Q * D + R * (p * 4294967296) = V) (hy : q * D + R' = R * 4294967296 + z) : Q' * D + R' * p = V + z * p := by
  have e : (q * D + R') * p = (R * 4294967296 + z) * p := by rw [hy]
  have e1 : R * (p * 4294967296) = R * 4294967296 * p := by rw [Nat.mul_comm p, Nat.mul_assoc]
  rw [show Q' = Q + q * p by omega, Nat.add_mul, Nat.mul_right_comm q p D, ← hi, e1]
  rw [Nat.add_mul, Nat.add_mul] at e
  omega

/-- Words below k that are 0. -/
def Low0 (k : Nat) (qs : List Int) : Prop := ∀ j, j < k → qs.getD j 0 = 0
theorem low0_zeros (k L : Nat) : Low0 k (List.replicate L 0) := fun j _ => by
  rw [List.getD_eq_getElem?_getD, List.getElem?_replicate]; split <;> rfl
theorem ret_small {a : Option Addr} {n c : Nat} {R R' : Int} {r : Bool} (h : R = R') : Ending.returned (.tuple #[.slice a n c, .int .u32 R, .bool r]) = .returned (.tuple #[.slice a n c, .int .u32 R', .bool r]) := by rw [h]

set_option maxHeartbeats 2000000 in
theorem split_small (a : Option Addr) (n c : Nat) (zs : List Int) (d : Int) (w : World) (h : IsWords w (.slice a n c) zs) (hz : Wd zs) (hn : n ≤ 35184372088832) (d0 : 0 < d) (d1 : d < 4294967296) :
    Calls Tryd.prog 49 #[.slice a n c, .int .u32 d] w (AnsSmall w (val zs / d.toNat) ((val zs % d.toNat : Nat) : Int)) := by
  have R1 := split_right a n c zs w h hz
  have S1 := h.right hz
  have b1 := (h.low hz).2.2
  have wP := wd_natOf (val zs)
  have EV : Hid (val (natOf (val zs)) = val zs) := val_natOf (val zs)
  have hl : Hid ((natOf (val zs)).length = nl (val zs)) := rfl
  clear h hz
  generalize val zs = A at *
  generalize nl A = L at R1 S1 b1 hl
  generalize natOf A = ps at S1 wP EV hl
  have dne : d ≠ 0 := by omega
  go_enter Tryd.func49, Tryd.ntmps49
  go_wp2_with (first
    | (go_at_call 64; with_reducible refine Calls.mono R1 ?_; rintro e w1 ⟨rfl, rfl⟩)
    | (at_make; refine wpl_make_words (.tmp 13) rfl rfl w w L _ rfl (by omega) (by omega) (Below.refl _ _) ?_; intro g w1 hg o1))
  clear R1
  go_loopw [5, 7] (fun rr i v => ∃ (k : Nat) (R : Int) (qs : List Int), k ≤ L ∧ i = .int .i64 ((k : Int) - 1) ∧ rr = .int .u32 R ∧ 0 ≤ R ∧ R < d ∧ Own w v (.slice (some ⟨g, 0, none⟩) L L) L qs ∧ Wd qs ∧ Low0 k qs ∧ val qs * d.toNat + R.toNat * 4294967296 ^ k = 4294967296 ^ k * val (ps.drop k)) (fun _ i _ => (intOf i + 1).toNat)
  case atStart => exact ⟨L, 0, _, by omega, rfl, rfl, by omega, d0, o1, wd_zeros L, low0_zeros L L, by rw [val_zeros, List.drop_of_length_le (by rw [hl.out]; omega)]; simp [val]⟩
  case round =>
    obtain ⟨k, R, qs, hk, rfl, rfl, r0, r1, o, wQ, hL0, hI⟩ := hrel
    have HI : Hid (val qs * d.toNat + R.toNat * 4294967296 ^ k = 4294967296 ^ k * val (ps.drop k)) := hI
    have HL : Hid (Low0 k qs) := hL0
    clear hI hL0 o1
    have hql := o.length
    rcases Nat.eq_zero_or_pos k with hk0 | hk0
    · subst hk0
      rw [show ((0 : Nat) : Int) - 1 = -1 from rfl]
      have HS : val qs * d.toNat + R.toNat = A := by
        have h1 := HI.out
        rw [Nat.pow_zero, List.drop_zero, EV.out] at h1
        omega
      have hdt : (0 : Nat) < d.toNat := by omega
      have hRt : R.toNat < d.toNat := by omega
      have HQ : val qs = A / d.toNat := by
        rw [← HS, Nat.mul_comm, Nat.mul_add_div hdt, Nat.div_eq_of_lt hRt, Nat.add_zero]
      have HR : Hid (R = ((A % d.toNat : Nat) : Int)) := by
        show _ = _
        have : A % d.toNat = R.toNat := by rw [← HS, Nat.mul_comm, Nat.mul_add_mod, Nat.mod_eq_of_lt hRt]
        omega
      have R3 := split_right _ _ _ qs wr o.words wQ
      have OR := o.right wQ
      rw [HQ] at R3 OR
      clear HI HL o wQ hql HS HQ S1 EV hl wP
      go_wp2_with (first
        | (go_at_call 64; with_reducible refine Calls.mono R3 ?_; rintro e w1 ⟨rfl, rfl⟩))
      go_ret3
      exact ⟨_, _, ret_small HR.out, OR⟩
    · obtain ⟨t, rfl⟩ : ∃ t, k = t + 1 := ⟨k - 1, by omega⟩
      rw [show ((t + 1 : Nat) : Int) - 1 = t by omega]
      obtain ⟨z0, z1⟩ := wd_getD wP t
      rcases (S1.below o.below).reads.1.2 with h0 | ⟨b, off, rfl, hcz⟩
      · omega
      have hck := hcz t (by omega)
      have DV : Hid (val (ps.drop t) = (ps.getD t 0).toNat + 4294967296 * val (ps.drop (t + 1))) := val_drop ps t
      generalize ps.getD t 0 = z at hck DV z0 z1
      have AC := limb_div R z d wr r0 r1 z0 z1 d1
      have HY : Hid ((((R * 4294967296 + z) / d).toNat * d.toNat + ((R * 4294967296 + z) % d).toNat = R.toNat * 4294967296 + z.toNat) ∧ 0 ≤ (R * 4294967296 + z) / d ∧ (R * 4294967296 + z) / d < 4294967296 ∧ 0 ≤ (R * 4294967296 + z) % d ∧ (R * 4294967296 + z) % d < d) := by
        have q0 : 0 ≤ (R * 4294967296 + z) / d := Int.ediv_nonneg (by omega) (by omega)
        have q1 : (R * 4294967296 + z) / d < 4294967296 := Int.ediv_lt_of_lt_mul (by omega) (by omega)
        have r0' : 0 ≤ (R * 4294967296 + z) % d := Int.emod_nonneg _ (by omega)
        have r1' : (R * 4294967296 + z) % d < d := Int.emod_lt_of_pos _ (by omega)
        refine ⟨?_, q0, q1, r0', r1'⟩
        have h1 := Int.ediv_mul_add_emod (R * 4294967296 + z) d
        have h2 : ((R * 4294967296 + z) / d * d).toNat = ((R * 4294967296 + z) / d).toNat * d.toNat := Int.toNat_mul q0 (by omega)
        have h3 : 0 ≤ (R * 4294967296 + z) / d * d := Int.mul_nonneg q0 (by omega)
        rw [← h2]
        omega
      generalize (R * 4294967296 + z) / d = y at AC HY
      generalize (R * 4294967296 + z) % d = R2 at AC HY
      have ES := val_set qs t y (by omega)
      rw [HL.out t (by omega)] at ES
      have HN : Hid (val (qs.set t y) * d.toNat + R2.toNat * 4294967296 ^ t = 4294967296 ^ t * val (ps.drop t)) := by
        show _ = _
        have h1 := HI.out
        rw [Nat.pow_succ] at h1
        have h2 := small_step (p := 4294967296 ^ t) ES h1 HY.out.1
        rw [h2, DV.out, Nat.mul_add, Nat.mul_comm z.toNat, Nat.mul_assoc, Nat.add_comm]
      have WN : Wd (qs.set t y) := wd_set wQ t HY.out.2.1 HY.out.2.2.1
      have LN : Low0 t (qs.set t y) := fun j hj => by
        rw [List.getD_eq_getElem?_getD, List.getElem?_set_ne (by omega), ← List.getD_eq_getElem?_getD]
        exact HL.out j (by omega)
      have H2 : 0 ≤ R2 ∧ R2 < d := HY.out.2.2.2
      have HH : Hid (Low0 t (qs.set t y)) := LN
      obtain ⟨hc0, hf0, -, -⟩ := o.cell t (by omega)
      clear DV HI ES wQ hcz hql HY LN HL EV hl S1 wP
      go_wp2_with (first
        | (go_at_call 65; with_reducible refine Calls.mono AC ?_; rintro e w4 ⟨rfl, b4⟩; have o4 := o.more b4; obtain ⟨hc4, hf4, -, -⟩ := o4.cell t (by omega)))
      go_roundw
      case rel => exact ⟨t, R2, qs.set t y, by omega, rfl, rfl, H2.1, H2.2, o4.set t y, WN, HH.out, HN.out⟩
      case measure => simp [intOf]


end Go.Proofs.YtlokidddbkdclaaDoor
