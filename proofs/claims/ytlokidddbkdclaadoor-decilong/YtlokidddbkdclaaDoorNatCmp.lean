/-
  Contract of package nat's function Cmp, for all two lists of words: how the two numbers are to each other; memory that was there stays.
-/
import Derived.Test.YtlokidddbkdclaaDoorNatB
namespace Go.Proofs.YtlokidddbkdclaaDoor
open Go.RowKit

theorem sgn_val {a b : List Int} (ha : Wd a) (hb : Wd b) (m : Nat) (hd : val (a.drop (m + 1)) = val (b.drop (m + 1))) (hne : a.getD m 0 ≠ b.getD m 0) : sgn (a.getD m 0) (b.getD m 0) = sgn (val a) (val b) := by
  rcases Int.lt_or_gt_of_ne hne with h | h
  · have := val_decides a b ha m hd h
    rw [sgn_lt h, sgn_lt (by omega)]
  · have := val_decides b a hb m hd.symm h
    rw [sgn_gt h, sgn_gt (by omega)]

theorem quiet_more {f : FuncId} {args : Array Value} {w : World} {a n : Nat} {v : Value} (h : Calls Tryd.prog f args (w.drewN (a + n)) fun e w' => e = .returned v ∧ w.drewN (a + n) = w') :
    Calls Tryd.prog f args (w.drewN (a + n)) fun e w' => e = .returned v ∧ ∃ m, w' = w.drewN (a + m) :=
  h.mono fun _ _ k => ⟨k.1, n, k.2.symm⟩

theorem sgn_len (A B : Nat) (h : nl A ≠ nl B) : sgn (nl A) (nl B) = sgn A B := by
  rcases Nat.lt_or_gt_of_ne h with h | h
  · have := lt_of_nl h
    rw [sgn_lt (by omega), sgn_lt (by omega)]
  · have := lt_of_nl h
    rw [sgn_gt (by omega), sgn_gt (by omega)]

set_option maxHeartbeats 2000000 in
theorem nat_cmp (a : Option Addr) (n c : Nat) (zs : List Int) (b : Option Addr) (m d : Nat) (ys : List Int) (w : World) (h : IsWords w (.slice a n c) zs) (hz : Wd zs) (g : IsWords w (.slice b m d) ys) (gz : Wd ys) :
    Calls Tryd.prog 16 #[.slice a n c, .slice b m d] w fun e w' => e = .returned (.int .i64 (sgn (val zs) (val ys))) ∧ Below w.heap.size w w' := by
  have R1 := nat_right' a n c zs w h hz
  have R2 := nat_right' b m d ys w g gz
  by_cases hl : nl (val zs) = nl (val ys)
  · have hn := h.reads.2
    have hr1 := (h.right hz).reads.1
    have hr2 := (g.right gz).reads.1
    have hLn := (h.low hz).2.2
    have w1 := wd_natOf (val zs)
    have w2 := wd_natOf (val ys)
    have V1 : Hid (val (natOf (val zs)) = val zs) := val_natOf _
    have V2 : Hid (val (natOf (val ys)) = val ys) := val_natOf _
    rw [← hl] at R2 hr2
    generalize nl (val zs) = L at R1 R2 hr1 hr2 hLn hl
    generalize natOf (val zs) = ps at hr1 w1 V1
    generalize natOf (val ys) = qs at hr2 w2 V2
    clear h g hz gz hl
    go_enter Tryd.func16, Tryd.ntmps16
    go_wp2_with (first
      | (go_at_call 32; with_reducible refine Calls.mono R1 ?_; rintro e w1 ⟨rfl, rfl⟩)
      | (go_at_call 32; with_reducible refine Calls.mono R2 ?_; rintro e w1 ⟨rfl, rfl⟩))
    clear R1 R2
    go_loopw [23] (fun i v => ∃ k : Nat, k ≤ L ∧ i = .int .i64 k ∧ Below w.heap.size w v ∧ val (ps.drop (L - k)) = val (qs.drop (L - k))) (fun i _ => L - (intOf i).toNat)
    case atStart => exact ⟨0, by omega, rfl, Below.refl _ _, by rw [List.drop_of_length_le (by rw [hr1.1]; omega), List.drop_of_length_le (by rw [hr2.1]; omega)]⟩
    case round =>
      obtain ⟨k, hk, rfl, hb, hd⟩ := hrel
      have HD : Hid (val (ps.drop (L - k)) = val (qs.drop (L - k))) := hd
      clear hd
      by_cases hlt : k < L
      · rcases hr1.2 with h0 | ⟨b1, o1, rfl, hc1⟩
        · omega
        rcases hr2.2 with h0 | ⟨b2, o2, rfl, hc2⟩
        · omega
        obtain ⟨t, ht⟩ : ∃ t, t + 1 = L - k := ⟨L - k - 1, by omega⟩
        have h1 := hc1 t (by omega)
        have h2 := hc2 t (by omega)
        rw [← hb.cell (p := ⟨b1, o1 + t, none⟩) (World.block_lt_of_cell? w _ h1)] at h1
        rw [← hb.cell (p := ⟨b2, o2 + t, none⟩) (World.block_lt_of_cell? w _ h2)] at h2
        have e1 : (L : Int) - 1 - k = t := by omega
        have D1 : Hid (val (ps.drop t) = (ps.getD t 0).toNat + 4294967296 * val (ps.drop (t + 1))) := val_drop ps t
        have D2 : Hid (val (qs.drop t) = (qs.getD t 0).toNat + 4294967296 * val (qs.drop (t + 1))) := val_drop qs t
        have HD' : Hid (val (ps.drop (t + 1)) = val (qs.drop (t + 1))) := by rw [ht]; exact HD.out
        have HS : ps.getD t 0 ≠ qs.getD t 0 → Hid (sgn (ps.getD t 0) (qs.getD t 0) = sgn (val zs) (val ys)) := fun hne => by
          show _ = _
          rw [sgn_val w1 w2 t HD'.out hne, V1.out, V2.out]
        clear hc1 hc2 hr1 hr2 w1 w2
        generalize ps.getD t 0 = x at h1 D1 HS
        generalize qs.getD t 0 = y at h2 D2 HS
        by_cases hxy : x = y
        · subst hxy
          clear HS
          go_wp2
          go_quiet (fail)
          go_wp2
          go_roundw
          case rel => exact ⟨k + 1, by omega, by go_num, below_drewN hb _, by rw [show L - (k + 1) = t by omega, D1.out, D2.out, HD'.out]⟩
          case measure => simp [intOf]; omega
        · have HS' := HS hxy
          have hne : (x == y) = false := by simpa using hxy
          clear HS
          go_wp2
          go_quiet (fail)
          go_wp2
          go_quiet ((go_at_call 34; exact quiet_more (compare_u32 _ _ _)))
          go_wp2
          go_ret
          exact ⟨ret_int HS'.out, below_drewN (below_drewN hb _) _⟩
      · have HE : Hid (sgn (val zs) (val ys) = 0) := by
          have h0 := HD.out
          rw [show L - k = 0 by omega, List.drop_zero, List.drop_zero, V1.out, V2.out] at h0
          exact sgn_eq (by omega)
        clear hr1 hr2 w1 w2
        go_wp2
        go_ret
        exact ⟨ret_int HE.out.symm, hb⟩
  · have E := sgn_len _ _ hl
    have hn := (h.low hz).2.2
    have gn := (g.low gz).2.2
    have hn' := h.reads.2
    have gn' := g.reads.2
    have C := fun v => compare_int (nl (val zs)) (nl (val ys)) v
    rw [E] at C
    clear h g hz gz E
    generalize nl (val zs) = L at *
    generalize nl (val ys) = M at *
    go_enter Tryd.func16, Tryd.ntmps16
    go_wp2_with (first
      | (go_at_call 32; with_reducible refine Calls.mono R1 ?_; rintro e w1 ⟨rfl, rfl⟩)
      | (go_at_call 32; with_reducible refine Calls.mono R2 ?_; rintro e w1 ⟨rfl, rfl⟩)
      | (go_at_call 33; with_reducible refine Calls.mono (C _) ?_; rintro e w1 ⟨rfl, rfl⟩))
    go_ret
    exact ⟨rfl, Below.refl _ _⟩
end Go.Proofs.YtlokidddbkdclaaDoor
