/-
  Contracts of package times's functions One and Mul, for all lists of words: the list of the product; memory that was there stays, and what is answered is the call's own.
-/
import Derived.Test.YtlokidddbkdclaaDoorTimesA
namespace Go.Proofs.YtlokidddbkdclaaDoor
open Go.RowKit

/-- A number of n words, times a word, and a word, has a word more at most. -/
theorem one_fits {A x c n : Nat} (hA : A < 4294967296 ^ n) (hx : x < 4294967296) (hc : c < 4294967296) : c + A * x < 4294967296 ^ (n + 1) := by
  have h1 : A * x ≤ A * 4294967295 := Nat.mul_le_mul_left _ (by omega)
  have h2 : A * 4294967295 ≤ (4294967296 ^ n - 1) * 4294967295 := Nat.mul_le_mul_right _ (by omega)
  rw [Nat.pow_succ]
  generalize 4294967296 ^ n = p at *
  omega
theorem val_zeros_set (M : Nat) (c : Int) (hM : 0 < M) : val ((List.replicate M 0).set 0 c) = c.toNat := by
  have h := val_set (List.replicate M 0) 0 c (by simpa using hM)
  rw [val_zeros] at h
  have e : (List.replicate M (0 : Int)).getD 0 0 = 0 := by simp [List.getD_eq_getElem?_getD, hM]
  rw [e] at h
  simpa using h
theorem natOf_len (A : Nat) : (natOf A).length = nl A := rfl

set_option maxHeartbeats 2000000 in
theorem times_one (a : Option Addr) (n c : Nat) (zs : List Int) (x y : Int) (w : World) (h : IsWords w (.slice a n c) zs) (hz : Wd zs) (hn : n ≤ 1000000000000) (x0 : 0 ≤ x) (x1 : x < 4294967296) (y0 : 0 ≤ y) (y1 : y < 4294967296) :
    Calls Tryd.prog 23 #[.slice a n c, .int .u32 x, .int .u32 y] w (Ans w (val zs * x.toNat + y.toNat)) := by
  have R1 := times_right a n c zs w h hz
  have S1 := h.right hz
  have b1 := (h.low hz).2.2
  have hv := lt_nl (val zs)
  have wP := wd_natOf (val zs)
  have EV : Hid (val (natOf (val zs)) = val zs) := val_natOf (val zs)
  clear h hz
  generalize val zs = A at *
  generalize nl A = L at R1 S1 b1 hv
  generalize natOf A = ps at S1 wP EV
  have HV : Hid (A < 4294967296 ^ L) := hv
  clear hv
  obtain ⟨M, hM1, hM2⟩ : ∃ M, M ≤ L + 1 ∧ L + 1 ≤ M := ⟨_, Nat.le_refl _, Nat.le_refl _⟩
  have W0 : Wd ((List.replicate M 0).set 0 y) := wd_set (wd_zeros M) 0 y0 y1
  have V0 : Hid (val ((List.replicate M 0).set 0 y) = y.toNat) := val_zeros_set M y (by omega)
  have K := fun g v (o : Own w v (.slice (some ⟨g, 0, none⟩) M M) M ((List.replicate M 0).set 0 y)) => times_line w g M 0 L c _ a ps x v o W0 S1 wP x0 x1 (by omega) (by omega) (by rw [V0.out, EV.out]; simpa using one_fits HV.out (x := x.toNat) (c := y.toNat) (by omega) (by omega))
  have CT := fun g v => times_cut g M 0 L v (by omega) (by omega)
  have RR := fun g v (rs : List Int) (o : Own w v (.slice (some ⟨g, 0, none⟩) M M) M rs) (hr : Wd rs) => times_right _ _ _ rs v o.words hr
  clear S1 W0
  go_enter Tryd.func23, Tryd.ntmps23
  go_wp2_with (first
    | (go_at_call 37; with_reducible refine Calls.mono R1 ?_; rintro e w1 ⟨rfl, rfl⟩)
    | (at_make; refine wpl_make_words (.tmp 12) rfl rfl w w M _ rfl (by omega) (by omega) (Below.refl _ _) ?_; intro g w1 hg o1; obtain ⟨hc1, hf1, -, -⟩ := o1.cell 0 (by omega); have o2 := o1.set 0 y)
    | (go_at_call 44; with_reducible refine Calls.mono (CT _ _) ?_; rintro e w3 ⟨rfl, rfl⟩)
    | (go_at_call 43; (with_reducible refine Calls.mono (K _ _ o2) ?_); rintro e w4 ⟨rfl, rs, o4, h4, E4⟩; have E5 : Hid (val rs = A * x.toNat + y.toNat) := (by show _ = _; rw [E4, V0.out, EV.out]; simp; omega); clear E4)
    | (go_at_call 37; (with_reducible refine Calls.mono (RR _ _ _ o4 h4) ?_); rintro e w5 ⟨rfl, rfl⟩))
  go_ret
  have o6 := o4.right h4
  rw [E5.out] at o6 ⊢
  exact ⟨_, _, rfl, o6⟩

set_option maxHeartbeats 2000000 in
theorem times_mul (a : Option Addr) (n c : Nat) (zs : List Int) (b : Option Addr) (m d : Nat) (ys : List Int) (w : World) (h : IsWords w (.slice a n c) zs) (hz : Wd zs) (g : IsWords w (.slice b m d) ys) (gz : Wd ys)
    (hn : n ≤ 1000000000000) (hm : m ≤ 1000000000000) :
    Calls Tryd.prog 21 #[.slice a n c, .slice b m d] w (Ans w (val zs * val ys)) := by
  have R1 := times_right a n c zs w h hz
  have R2 := times_right b m d ys w g gz
  have S1 := h.right hz
  have S2 := g.right gz
  have wP := wd_natOf (val zs)
  have wQ := wd_natOf (val ys)
  have b1 := (h.low hz).2.2
  have b2 := (g.low gz).2.2
  have hv2 := lt_nl (val ys)
  have E1 : Hid (val (natOf (val zs)) = val zs) := val_natOf (val zs)
  have E2 : Hid (val (natOf (val ys)) = val ys) := val_natOf (val ys)
  have hl := natOf_len (val zs)
  clear h hz g gz
  generalize val zs = A at *
  generalize val ys = B at *
  generalize nl A = L at R1 S1 b1 hl
  generalize nl B = K at R2 S2 b2 hv2
  generalize natOf A = ps at S1 wP E1 hl
  generalize natOf B = qs at S2 wQ E2
  have HL : Hid (ps.length = L) := hl
  have HV : Hid (B < 4294967296 ^ K) := hv2
  clear hv2 hl
  obtain ⟨M, hM1, hM2⟩ : ∃ M, M ≤ L + K ∧ L + K ≤ M := ⟨_, Nat.le_refl _, Nat.le_refl _⟩
  go_enter Tryd.func21, Tryd.ntmps21
  go_wp2_with (first
    | (go_at_call 37; with_reducible refine Calls.mono R1 ?_; rintro e w1 ⟨rfl, rfl⟩)
    | (go_at_call 37; with_reducible refine Calls.mono R2 ?_; rintro e w1 ⟨rfl, rfl⟩)
    | (at_make; refine wpl_make_words (.tmp 16) rfl rfl w w M _ rfl (by omega) (by omega) (Below.refl _ _) ?_; intro g w1 hg o1))
  clear R1 R2
  go_loopw [20] (fun i v => ∃ (k : Nat) (rs : List Int), k ≤ L ∧ i = .int .i64 k ∧ Own w v (.slice (some ⟨g, 0, none⟩) M M) M rs ∧ Wd rs ∧ val rs = val (ps.take k) * B) (fun i _ => L - (intOf i).toNat)
  case atStart => exact ⟨0, _, by omega, rfl, o1, wd_zeros M, by rw [val_zeros]; simp [val]⟩
  case round =>
    obtain ⟨k, rs, hk, rfl, o, wR, hI⟩ := hrel
    have HI : Hid (val rs = val (ps.take k) * B) := hI
    clear hI o1
    by_cases hlt : k < L
    · obtain ⟨z0, z1⟩ := wd_getD wP k
      rcases (S1.below o.below).reads.1.2 with h0 | ⟨b3, off, rfl, hcz⟩
      · omega
      have hck := hcz k hlt
      have EQ : Hid (val (ps.take (k + 1)) = val (ps.take k) + (ps.getD k 0).toNat * 4294967296 ^ k) := val_take_succ ps k
      have HF := val_take_lt ps wP (k + 1)
      generalize ps.getD k 0 = z at hck EQ z0 z1
      have HE : Hid (val rs + val qs * z.toNat * 4294967296 ^ k = val (ps.take (k + 1)) * B) := by
        show _ = _
        rw [HI.out, EQ.out, E2.out, Nat.add_mul, Nat.mul_assoc, Nat.mul_comm B]
      have CT := fun v => times_cut g M k K v (by omega) (by omega)
      have LN := times_line w g M k K d rs b qs z wr o wR S2 wQ z0 z1 (by omega) (by omega) (by
        rw [HE.out, show k + K + 1 = (k + 1) + K by omega, Nat.pow_add]
        have h1 : val (ps.take (k + 1)) * B ≤ val (ps.take (k + 1)) * 4294967296 ^ K := Nat.mul_le_mul_left _ (Nat.le_of_lt HV.out)
        have h2 : val (ps.take (k + 1)) * 4294967296 ^ K < 4294967296 ^ (k + 1) * 4294967296 ^ K := Nat.mul_lt_mul_of_pos_right HF (Nat.pow_pos (by omega))
        omega)
      rw [HE.out] at LN
      clear hcz wR EQ HE HI HF HV S1 S2
      go_wp2_with (first
        | (go_at_call 44; with_reducible refine Calls.mono (CT _) ?_; rintro e w3 ⟨rfl, rfl⟩)
        | (go_at_call 43; (with_reducible refine Calls.mono LN ?_); rintro e w4 ⟨rfl, rs4, o4, h4, E4⟩; have E5 : Hid (val rs4 = val (ps.take (k + 1)) * B) := E4; clear E4))
      go_roundw
      case rel => exact ⟨k + 1, rs4, by omega, by go_num, o4, h4, E5.out⟩
      case measure => simp [intOf]; omega
    · have HS : val rs = A * B := by
        have h1 := HI.out
        have h2 := HL.out
        rw [List.take_of_length_le (by omega), E1.out] at h1
        exact h1
      have R3 := times_right _ _ _ rs wr o.words wR
      have OR := o.right wR
      rw [HS] at R3 OR
      clear HS HI o wR S1 S2 HV
      go_wp2_with (first
        | (go_at_call 37; with_reducible refine Calls.mono R3 ?_; rintro e w1 ⟨rfl, rfl⟩))
      go_ret
      exact ⟨_, _, rfl, OR⟩
end Go.Proofs.YtlokidddbkdclaaDoor
