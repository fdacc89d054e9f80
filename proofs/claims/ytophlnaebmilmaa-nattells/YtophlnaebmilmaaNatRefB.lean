/-
  Contracts of the document's own answers for numbers (package talwegref02: Trim, Of, Small, Bits), for every list of words and every number: as numbers; memory that was there stays, and what is answered is the call's own.
-/
import Derived.Test.YtophlnaebmilmaaNatRef
namespace Go.Proofs.Ytophlnaebmilmaa
open Go.RowKit

theorem ref_low_nl (a : Option Addr) (n c : Nat) (zs : List Int) (w : World) (h : IsWords w (.slice a n c) zs) (hz : Wd zs) :
    Calls Try.prog 12 #[.slice a n c] w fun e w' => e = .returned (.int .i64 (nl (val zs))) ∧ w = w' := by
  have C := ref_low a n c zs w h.reads.1 h.reads.2
  rw [(h.low hz).1] at C
  exact C

theorem take_snoc {zs : List Int} {k : Nat} (h : k < zs.length) : zs.take k ++ [zs.getD k 0] = zs.take (k + 1) := by
  rw [List.take_succ_eq_append_getElem h]; simp [List.getD_eq_getElem?_getD, h]

set_option maxHeartbeats 1000000 in
theorem ref_trim (a : Option Addr) (n c : Nat) (zs : List Int) (w : World) (h : IsWords w (.slice a n c) zs) (hz : Wd zs) (hn : n ≤ 1000000000000) :
    Calls Try.prog 16 #[.slice a n c] w (Ans w (val zs)) := by
  have C := ref_low_nl a n c zs w h hz
  have hl := h.low hz
  have hL := hl.2.2
  have hr := h.reads.1
  have HE : Hid (zs.take (nl (val zs)) = natOf (val zs)) := hl.2.1
  unfold Ans
  generalize nl (val zs) = L at C hL HE
  clear hl h hz
  go_enter Try.func16, Try.ntmps16
  go_wp2_with (go_at_call 12; with_reducible refine Calls.mono C ?_; rintro e w1 ⟨rfl, rfl⟩)
  clear C
  go_loopw [4, 5] (fun s i v => ∃ (k : Nat) (oa : Option Addr) (oc : Nat), k ≤ L ∧ i = .int .i64 k ∧ s = .slice oa k oc ∧ Own w v (.slice oa k oc) k (zs.take k)) (fun _ i _ => L - (intOf i).toNat)
  case atStart => exact ⟨0, none, 0, by omega, rfl, rfl, Own.nil (Below.refl _ _)⟩
  case round =>
    obtain ⟨k, oa, oc, hk, rfl, rfl, o⟩ := hrel
    by_cases hlt : k < L
    · rcases hr.2 with h0 | ⟨b1, o1, rfl, hc1⟩
      · omega
      have h1 := hc1 k (by omega)
      rw [← o.below.cell (p := ⟨b1, o1 + k, none⟩) (World.block_lt_of_cell? w _ h1)] at h1
      have HT : Hid (zs.take k ++ [zs.getD k 0] = zs.take (k + 1)) := take_snoc (by rw [hr.1]; omega)
      clear hc1 hr
      generalize zs.getD k 0 = z at h1 HT
      generalize zs.take k = xs at o HT
      go_wp2_with (first
        | (at_builtin; refine wpl_append_words (.tmp 13) (.tmp 18) rfl rfl w _ _ _ k 1 xs [z] rfl rfl (o.alloc _) (lit_words _ [z] 1 rfl (by decide)) rfl (k + 1) rfl (by omega) ?_; intro a1 c1 w1 o1 g1))
      go_roundw
      case rel => exact ⟨k + 1, a1, c1, by omega, by go_num, rfl, by rw [← HT.out]; exact o1⟩
      case measure => simp [intOf]; omega
    · obtain rfl : k = L := by omega
      rw [HE.out] at o
      clear hr HE
      go_wp2
      go_ret
      exact ⟨_, _, rfl, o⟩

set_option maxHeartbeats 1000000 in
theorem ref_of (n : Int) (w : World) (h0 : 0 ≤ n) (h1 : n < 18446744073709551616) :
    Calls Try.prog 18 #[.int .u64 n] w (Ans w n.toNat) := by
  have HB : Hid ((natOf n.toNat).length ≤ 2) := nl_le 2 n.toNat (by omega)
  have HN : Hid (nl n.toNat = (natOf n.toNat).length) := rfl
  unfold Ans
  generalize hys : natOf n.toNat = ys at HB HN
  generalize nl n.toNat = L at HN
  have HM : Hid (natOf n.toNat = ys) := hys
  clear hys
  go_enter Try.func18, Try.ntmps18
  go_wp2
  go_loopw [0, 3] (fun i s v => ∃ (r : Int) (k : Nat) (oa : Option Addr) (oc : Nat) (xs : List Int), 0 ≤ r ∧ r < 18446744073709551616 ∧ i = .int .u64 r ∧ s = .slice oa k oc ∧ Own w v (.slice oa k oc) k xs ∧ xs ++ natOf r.toNat = ys) (fun i _ _ => (intOf i).toNat)
  case atStart => exact ⟨n, 0, none, 0, [], h0, h1, rfl, rfl, Own.nil (Below.refl _ _), HM.out⟩
  case round =>
    obtain ⟨r, k, oa, oc, xs, hr0, hr, rfl, rfl, o, hx⟩ := hrel
    have HX : Hid (xs ++ natOf r.toNat = ys) := hx
    clear hx
    by_cases h0 : r = 0
    · subst h0
      have HX' := HX.out
      rw [show (0 : Int).toNat = 0 from rfl, natOf_zero, List.append_nil] at HX'
      subst HX'
      have hk := o.length
      rw [← HN.out] at hk
      subst hk
      clear HX HM HB HN
      go_wp2
      go_ret
      exact ⟨_, _, rfl, o⟩
    · have hpos : 0 < r := by omega
      have hX := HX.out
      rw [natOf_pos (by omega), List.append_cons, show ((r.toNat % 4294967296 : Nat) : Int) = r % 4294967296 by omega, show r.toNat / 4294967296 = (r / 4294967296).toNat by omega] at hX
      have HX2 : Hid (xs ++ [r % 4294967296] ++ natOf (r / 4294967296).toNat = ys) := hX
      have hk : k + 1 ≤ 2 := by
        have e := congrArg List.length hX
        have := HB.out
        have := o.length
        simp only [List.length_append, List.length_cons, List.length_nil] at e
        omega
      clear HX hX HM HB HN
      go_wp2_with (first
        | (at_builtin; refine wpl_append_words (.tmp 6) (.tmp 10) rfl rfl w _ _ _ k 1 xs [r % 4294967296] rfl rfl (o.alloc _) (lit_words _ [r % 4294967296] 1 rfl (by decide)) rfl (k + 1) rfl (by omega) ?_; intro a1 c1 w1 o1 g1))
      go_roundw
      case rel => exact ⟨r / 4294967296, k + 1, a1, c1, _, by omega, by omega, rfl, rfl, o1, HX2.out⟩
      case measure => simp [intOf]; omega

theorem small_two (zs : List Int) (h : nl (val zs) ≤ 2) : val zs = (zs.getD 0 0).toNat + 4294967296 * (zs.getD 1 0).toNat := by
  have h1 := lt_nl (val zs)
  have h2 : 4294967296 ^ nl (val zs) ≤ 4294967296 ^ 2 := Nat.pow_le_pow_right (by omega) h
  have h3 := val_take_all zs 2 (by omega)
  rw [val_take_succ, val_take_succ] at h3
  simp [val] at h3
  simp
  omega

set_option maxHeartbeats 1000000 in
theorem ref_small (a : Option Addr) (n c : Nat) (zs : List Int) (w : World) (h : IsWords w (.slice a n c) zs) (hz : Wd zs) (hv : val zs < 18446744073709551616) :
    Calls Try.prog 11 #[.slice a n c] w fun e w' => e = .returned (.tuple #[.int .u64 (val zs), .bool true]) ∧ w = w' := by
  have C := ref_low_nl a n c zs w h hz
  have hL : nl (val zs) ≤ 2 := nl_le 2 _ hv
  obtain ⟨x0, x1⟩ := wd_getD hz 0
  obtain ⟨y0, y1⟩ := wd_getD hz 1
  have A0 := ref_at a n c zs w h 0 (by omega) _ rfl x0 x1
  have A1 := ref_at a n c zs w h 1 (by omega) _ rfl y0 y1
  have HV : Hid (val zs = (zs.getD 0 0).toNat + 4294967296 * (zs.getD 1 0).toNat) := small_two zs hL
  generalize zs.getD 0 0 = x at *
  generalize zs.getD 1 0 = y at *
  generalize nl (val zs) = L at C hL
  clear h hz hv
  rw [show ((0 : Nat) : Int) = 0 from rfl] at A0
  rw [show ((1 : Nat) : Int) = 1 from rfl] at A1
  go_enter Try.func11, Try.ntmps11
  go_wp2_with (first
    | (go_at_call 12; with_reducible refine Calls.mono C ?_; rintro e w1 ⟨rfl, rfl⟩)
    | (go_at_call 29; with_reducible refine Calls.mono A0 ?_; rintro e w1 ⟨rfl, rfl⟩)
    | (go_at_call 29; with_reducible refine Calls.mono A1 ?_; rintro e w1 ⟨rfl, rfl⟩))
  go_ret2
  exact ⟨ret_ib (by rw [HV.out]; omega), rfl⟩

set_option maxHeartbeats 1000000 in
theorem ref_small_no (a : Option Addr) (n c : Nat) (zs : List Int) (w : World) (h : IsWords w (.slice a n c) zs) (hz : Wd zs) (hv : 18446744073709551616 ≤ val zs) :
    Calls Try.prog 11 #[.slice a n c] w fun e w' => e = .returned (.tuple #[.int .u64 0, .bool false]) ∧ w = w' := by
  have C := ref_low_nl a n c zs w h hz
  have hL2 := nl_big _ hv
  generalize nl (val zs) = L at C hL2
  clear h hz hv
  go_enter Try.func11, Try.ntmps11
  go_wp2_with (first
    | (go_at_call 12; with_reducible refine Calls.mono C ?_; rintro e w1 ⟨rfl, rfl⟩))
  go_ret2
  exact ⟨rfl, rfl⟩

set_option maxHeartbeats 1000000 in
theorem ref_nbits (a : Option Addr) (n c : Nat) (zs : List Int) (w : World) (h : IsWords w (.slice a n c) zs) (hz : Wd zs) (hn : n ≤ 1000000000000) :
    Calls Try.prog 20 #[.slice a n c] w fun e w' => e = .returned (.int .i64 (nbits (val zs))) ∧ w = w' := by
  have R := ref_low_nl a n c zs w h hz
  have hl := h.low hz
  have hL := hl.2.2
  by_cases h0 : nl (val zs) = 0
  · have e : Hid (nbits (val zs) = 0) := by
      have : val zs = 0 := by have := val_natOf (val zs); rw [List.eq_nil_of_length_eq_zero h0] at this; exact this.symm
      show _ = _
      rw [this, nbits_zero]
    rw [h0] at R
    clear h hz hl hL h0
    go_enter Try.func20, Try.ntmps20
    go_wp2_with (first
      | (go_at_call 12; with_reducible refine Calls.mono R ?_; rintro e w1 ⟨rfl, rfl⟩))
    go_ret
    exact ⟨ret_int (by rw [e.out]; rfl), rfl⟩
  · obtain ⟨k, hk⟩ : ∃ k, nl (val zs) = k + 1 := ⟨nl (val zs) - 1, by omega⟩
    have e : Hid (nbits (val zs) = 32 * k + nbits (zs.getD k 0).toNat) := nbits_top zs hz k (by rw [h.len, hl.1, hk])
    rcases h.reads.1.2 with h0 | ⟨b, off, rfl, hc⟩
    · omega
    have hck := hc k (by omega)
    have hb := wd_getD hz k
    have hkn : (k : Int) + 1 ≤ n := by omega
    rw [hk] at R
    clear h hz hl hL h0 hc hk
    generalize zs.getD k 0 = z at hck hb e
    obtain ⟨z0, z1⟩ := hb
    have B := fun v => ref_bits z v z0 z1
    have hbl : Lib.bitLen z.toNat ≤ 32 := Lib.bitLen_le _ 32 (by omega) (by omega)
    have e2 : Hid (Lib.bitLen z.toNat = nbits z.toNat) := nbits_bitLen _ (by omega)
    go_enter Try.func20, Try.ntmps20
    go_wp2_with (first
      | (go_at_call 12; with_reducible refine Calls.mono R ?_; rintro e w1 ⟨rfl, rfl⟩)
      | (go_at_call 32; with_reducible refine Calls.mono (B _) ?_; rintro e w1 ⟨rfl, rfl⟩))
    go_ret
    exact ⟨ret_int (by rw [e.out, ← e2.out]; omega), rfl⟩
end Go.Proofs.Ytophlnaebmilmaa
