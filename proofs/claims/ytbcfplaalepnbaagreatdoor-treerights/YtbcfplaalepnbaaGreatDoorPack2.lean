/-
  Texts of mine put together in build order, as far as TreeParses, TreeRight need them: NatB, NatCmp, NatSub, NatMore, LimbRef, NatRef, NatRefB, NatRefC, TimesA, TimesB, SplitA, SplitB, SplitC, SplitD, TimesD, SplitE, TimesRef, SplitRef, TimesMore, SplitMore, WholeRef, WholeRefB, DeciMath. No conditions of their own.
-/
import Derived.Test.YtbcfplaalepnbaaGreatDoorRows
import Derived.WalkKit
import Derived.ProofKit
import Derived.WalkLawsBesides
import Derived.Deep.QuietTactic
import Derived.BigQuiet
import Derived.Outline
import Derived.Lib.BitFns
import Derived.Lib.AppendZerosOnto
import Derived.OpenShut
import Derived.Laws.CopyOwn
import Derived.Deep.RegionWith
import Derived.Deep.DrawnRows
import Derived.Deep.LoopGhost
import Derived.Deep.RegionLaw
import Derived.Deep.RegionHeld3
import Derived.Test.YtbcfplaalepnbaaGreatDoorPack1
namespace Go.Proofs.YtbcfplaalepnbaaGreatDoor
open Go.RowKit
theorem val_int {k : IntKind} {a b : Int} (h : a = b) : Value.int k a = .int k b := by rw [h]
theorem ret_ib {k : IntKind} {a b : Int} {r : Bool} (h : a = b) : Ending.returned (.tuple #[.int k a, .bool r]) = .returned (.tuple #[.int k b, .bool r]) := by rw [h]
theorem IsWords.low {w : World} {a : Option Addr} {n c : Nat} {zs : List Int} (h : IsWords w (.slice a n c) zs) (hz : Wd zs) : lowN zs n = nl (val zs) ∧ zs.take (nl (val zs)) = natOf (val zs) ∧ nl (val zs) ≤ n := by
  have hl := h.len
  refine ⟨by rw [nl_val zs hz, hl], (natOf_take zs hz).symm, by rw [← hl]; exact nl_val_le zs hz⟩
theorem nat_right' (a : Option Addr) (n c : Nat) (zs : List Int) (w : World) (h : IsWords w (.slice a n c) zs) (hz : Wd zs) :
    Calls Tryz.prog 184 #[.slice a n c] w fun e w' => e = .returned (.slice a (nl (val zs)) c) ∧ w = w' :=
  nat_right a n c zs w h _ (h.low hz).1
theorem IsWords.right {w : World} {a : Option Addr} {n c : Nat} {zs : List Int} (h : IsWords w (.slice a n c) zs) (hz : Wd zs) : IsWords w (.slice a (nl (val zs)) c) (natOf (val zs)) := by
  have hl := h.low hz
  rw [← hl.2.1]; exact h.take _ hl.2.2
theorem Own.right {W w : World} {a : Option Addr} {n c : Nat} {zs : List Int} (h : Own W w (.slice a n c) n zs) (hz : Wd zs) : Own W w (.slice a (nl (val zs)) c) (nl (val zs)) (natOf (val zs)) := by
  have hl := h.words.low hz
  rw [← hl.2.1]; exact h.take _ hl.2.2
def Ans (W : World) (N : Nat) (e : Ending) (w' : World) : Prop := ∃ a c, e = .returned (.slice a (nl N) c) ∧ Own W w' (.slice a (nl N) c) (nl N) (natOf N)
set_option maxHeartbeats 1000000 in
theorem nat_trim (a : Option Addr) (n c : Nat) (zs : List Int) (w : World) (h : IsWords w (.slice a n c) zs) (hz : Wd zs) (hn : n ≤ 35184372088832) :
    Calls Tryz.prog 206 #[.slice a n c] w (Ans w (val zs)) := by
  have R := nat_right' a n c zs w h hz
  have S := h.right hz
  have hL := (h.low hz).2.2
  have hS : (natOf (val zs)).length = nl (val zs) := rfl
  clear h hz
  have HS : Hid ((natOf (val zs)).length = nl (val zs)) := hS
  unfold Ans
  generalize nl (val zs) = L at R S hL HS
  generalize natOf (val zs) = ys at S HS
  clear hS
  go_enter Tryz.func206, Tryz.ntmps206
  go_wp2_with (first
    | (go_at_call 184; with_reducible refine Calls.mono R ?_; rintro e w1 ⟨rfl, rfl⟩)
    | (at_make; refine wpl_make_words (.tmp 7) rfl rfl w w L L rfl rfl (by omega) (Below.refl _ _) ?_; intro g w1 hg o1)
    | (with_reducible show wpList _ _ _ (Oper.mk _ (Op.call { callee := Callee.builtin Builtin.copy, args := _, argTypes := _ }) _ _ _ _ :: _) _ _; refine wpl_copy_words (.tmp 9) (.tmp 10) rfl rfl w w1 g L L L _ (List.replicate L 0) ys o1 (S.below o1.below) rfl rfl HS.out (Nat.le_refl _) ?_; intro w2 o2))
  go_ret
  refine ⟨_, _, rfl, ?_⟩
  simpa using o2
set_option maxHeartbeats 1000000 in
theorem nat_of (n : Int) (w : World) (h0 : 0 ≤ n) (h1 : n < 18446744073709551616) :
    Calls Tryz.prog 168 #[.int .u64 n] w (Ans w n.toNat) := by
  have hw : Wd [n % 4294967296, n / 4294967296] := wd_cons' (by omega) (by omega) (wd_one (by omega) (by omega))
  have hv : val [n % 4294967296, n / 4294967296] = n.toNat := by simp only [val]; omega
  have O := own_lit w w [n % 4294967296, n / 4294967296] 2 (Below.refl _ _) rfl (by decide)
  have R := nat_right' _ _ _ _ _ O.words hw
  have P := O.right hw
  rw [hv] at R P
  clear O hw hv
  have e : Hid (n / 4294967296 % 4294967296 = n / 4294967296) := (by omega : n / 4294967296 % 4294967296 = n / 4294967296)
  simp only [List.map_cons, List.map_nil] at R P
  go_enter Tryz.func168, Tryz.ntmps168
  go_wp2_with (first
    | (go_at_call 184; with_reducible refine Calls.mono R ?_; rintro e w1 ⟨rfl, rfl⟩))
  go_ret
  exact ⟨_, _, rfl, P⟩
set_option maxHeartbeats 1000000 in
theorem nat_bits (a : Option Addr) (n c : Nat) (zs : List Int) (w : World) (h : IsWords w (.slice a n c) zs) (hz : Wd zs) (hn : n ≤ 35184372088832) :
    Calls Tryz.prog 171 #[.slice a n c] w fun e w' => e = .returned (.int .i64 (nbits (val zs))) ∧ w = w' := by
  have R := nat_right' a n c zs w h hz
  have hl := h.low hz
  have hL := hl.2.2
  by_cases h0 : nl (val zs) = 0
  · have e : Hid (nbits (val zs) = 0) := by
      have : val zs = 0 := by have := val_natOf (val zs); rw [List.eq_nil_of_length_eq_zero h0] at this; exact this.symm
      show _ = _
      rw [this, nbits_zero]
    rw [h0] at R
    clear h hz hl hL h0
    go_enter Tryz.func171, Tryz.ntmps171
    go_wp2_with (first
      | (go_at_call 184; with_reducible refine Calls.mono R ?_; rintro e w1 ⟨rfl, rfl⟩))
    go_ret
    exact ⟨ret_int (by rw [e.out]; rfl), rfl⟩
  · obtain ⟨k, hk⟩ : ∃ k, nl (val zs) = k + 1 := ⟨nl (val zs) - 1, by omega⟩
    have e : Hid (nbits (val zs) = 32 * k + nbits (zs.getD k 0).toNat) := nbits_top zs hz k (by rw [h.len, hl.1, hk])
    rcases h.reads.1.2 with h0 | ⟨b, off, rfl, hc⟩
    · omega
    have hck := hc k (by omega)
    have hb := wd_getD hz k
    have hkn : (k : Int) + 1 ≤ n := by omega
    rw [hk] at R
    clear h hz hl hL h0 hc hk
    generalize zs.getD k 0 = z at hck hb e
    obtain ⟨z0, z1⟩ := hb
    have B := fun v => limb_bits z v z0 z1
    have hbl : Lib.bitLen z.toNat ≤ 32 := Lib.bitLen_le _ 32 (by omega) (by omega)
    have e2 : Hid (Lib.bitLen z.toNat = nbits z.toNat) := nbits_bitLen _ (by omega)
    go_enter Tryz.func171, Tryz.ntmps171
    go_wp2_with (first
      | (go_at_call 184; with_reducible refine Calls.mono R ?_; rintro e w1 ⟨rfl, rfl⟩)
      | (go_at_call 189; with_reducible refine Calls.mono (B _) ?_; rintro e w1 ⟨rfl, rfl⟩))
    go_ret
    exact ⟨ret_int (by rw [e.out, ← e2.out]; omega), rfl⟩
end Go.Proofs.YtbcfplaalepnbaaGreatDoor
namespace Go.Proofs.YtbcfplaalepnbaaGreatDoor
open Go.RowKit
theorem sgn_val {a b : List Int} (ha : Wd a) (hb : Wd b) (m : Nat) (hd : val (a.drop (m + 1)) = val (b.drop (m + 1))) (hne : a.getD m 0 ≠ b.getD m 0) : sgn (a.getD m 0) (b.getD m 0) = sgn (val a) (val b) := by
  rcases Int.lt_or_gt_of_ne hne with h | h
  · have := val_decides a b ha m hd h
    rw [sgn_lt h, sgn_lt (by omega)]
  · have := val_decides b a hb m hd.symm h
    rw [sgn_gt h, sgn_gt (by omega)]
theorem quiet_more {f : FuncId} {args : Array Value} {w : World} {a n : Nat} {v : Value} (h : Calls Tryz.prog f args (w.drewN (a + n)) fun e w' => e = .returned v ∧ w.drewN (a + n) = w') :
    Calls Tryz.prog f args (w.drewN (a + n)) fun e w' => e = .returned v ∧ ∃ m, w' = w.drewN (a + m) :=
  h.mono fun _ _ k => ⟨k.1, n, k.2.symm⟩
theorem sgn_len (A B : Nat) (h : nl A ≠ nl B) : sgn (nl A) (nl B) = sgn A B := by
  rcases Nat.lt_or_gt_of_ne h with h | h
  · have := lt_of_nl h
    rw [sgn_lt (by omega), sgn_lt (by omega)]
  · have := lt_of_nl h
    rw [sgn_gt (by omega), sgn_gt (by omega)]
set_option maxHeartbeats 2000000 in
theorem nat_cmp (a : Option Addr) (n c : Nat) (zs : List Int) (b : Option Addr) (m d : Nat) (ys : List Int) (w : World) (h : IsWords w (.slice a n c) zs) (hz : Wd zs) (g : IsWords w (.slice b m d) ys) (gz : Wd ys) :
    Calls Tryz.prog 166 #[.slice a n c, .slice b m d] w fun e w' => e = .returned (.int .i64 (sgn (val zs) (val ys))) ∧ Below w.heap.size w w' := by
  have R1 := nat_right' a n c zs w h hz
  have R2 := nat_right' b m d ys w g gz
  by_cases hl : nl (val zs) = nl (val ys)
  · have hn := h.reads.2
    have hr1 := (h.right hz).reads.1
    have hr2 := (g.right gz).reads.1
    have hLn := (h.low hz).2.2
    have w1 := wd_natOf (val zs)
    have w2 := wd_natOf (val ys)
    have V1 : Hid (val (natOf (val zs)) = val zs) := val_natOf _
    have V2 : Hid (val (natOf (val ys)) = val ys) := val_natOf _
    rw [← hl] at R2 hr2
    generalize nl (val zs) = L at R1 R2 hr1 hr2 hLn hl
    generalize natOf (val zs) = ps at hr1 w1 V1
    generalize natOf (val ys) = qs at hr2 w2 V2
    clear h g hz gz hl
    go_enter Tryz.func166, Tryz.ntmps166
    go_wp2_with (first
      | (go_at_call 184; with_reducible refine Calls.mono R1 ?_; rintro e w1 ⟨rfl, rfl⟩)
      | (go_at_call 184; with_reducible refine Calls.mono R2 ?_; rintro e w1 ⟨rfl, rfl⟩))
    clear R1 R2
    go_loopw [23] (fun i v => ∃ k : Nat, k ≤ L ∧ i = .int .i64 k ∧ Below w.heap.size w v ∧ val (ps.drop (L - k)) = val (qs.drop (L - k))) (fun i _ => L - (intOf i).toNat)
    case atStart => exact ⟨0, by omega, rfl, Below.refl _ _, by rw [List.drop_of_length_le (by rw [hr1.1]; omega), List.drop_of_length_le (by rw [hr2.1]; omega)]⟩
    case round =>
      obtain ⟨k, hk, rfl, hb, hd⟩ := hrel
      have HD : Hid (val (ps.drop (L - k)) = val (qs.drop (L - k))) := hd
      clear hd
      by_cases hlt : k < L
      · rcases hr1.2 with h0 | ⟨b1, o1, rfl, hc1⟩
        · omega
        rcases hr2.2 with h0 | ⟨b2, o2, rfl, hc2⟩
        · omega
        obtain ⟨t, ht⟩ : ∃ t, t + 1 = L - k := ⟨L - k - 1, by omega⟩
        have h1 := hc1 t (by omega)
        have h2 := hc2 t (by omega)
        rw [← hb.cell (p := ⟨b1, o1 + t, none⟩) (World.block_lt_of_cell? w _ h1)] at h1
        rw [← hb.cell (p := ⟨b2, o2 + t, none⟩) (World.block_lt_of_cell? w _ h2)] at h2
        have e1 : (L : Int) - 1 - k = t := by omega
        have D1 : Hid (val (ps.drop t) = (ps.getD t 0).toNat + 4294967296 * val (ps.drop (t + 1))) := val_drop ps t
        have D2 : Hid (val (qs.drop t) = (qs.getD t 0).toNat + 4294967296 * val (qs.drop (t + 1))) := val_drop qs t
        have HD' : Hid (val (ps.drop (t + 1)) = val (qs.drop (t + 1))) := by rw [ht]; exact HD.out
        have HS : ps.getD t 0 ≠ qs.getD t 0 → Hid (sgn (ps.getD t 0) (qs.getD t 0) = sgn (val zs) (val ys)) := fun hne => by
          show _ = _
          rw [sgn_val w1 w2 t HD'.out hne, V1.out, V2.out]
        clear hc1 hc2 hr1 hr2 w1 w2
        generalize ps.getD t 0 = x at h1 D1 HS
        generalize qs.getD t 0 = y at h2 D2 HS
        by_cases hxy : x = y
        · subst hxy
          clear HS
          go_wp2
          go_quiet (fail)
          go_wp2
          go_roundw
          case rel => exact ⟨k + 1, by omega, by go_num, below_drewN hb _, by rw [show L - (k + 1) = t by omega, D1.out, D2.out, HD'.out]⟩
          case measure => simp [intOf]; omega
        · have HS' := HS hxy
          have hne : (x == y) = false := by simpa using hxy
          clear HS
          go_wp2
          go_quiet (fail)
          go_wp2
          go_quiet ((go_at_call 186; exact quiet_more (compare_u32 _ _ _)))
          go_wp2
          go_ret
          exact ⟨ret_int HS'.out, below_drewN (below_drewN hb _) _⟩
      · have HE : Hid (sgn (val zs) (val ys) = 0) := by
          have h0 := HD.out
          rw [show L - k = 0 by omega, List.drop_zero, List.drop_zero, V1.out, V2.out] at h0
          exact sgn_eq (by omega)
        clear hr1 hr2 w1 w2
        go_wp2
        go_ret
        exact ⟨ret_int HE.out.symm, hb⟩
  · have E := sgn_len _ _ hl
    have hn := (h.low hz).2.2
    have gn := (g.low gz).2.2
    have hn' := h.reads.2
    have gn' := g.reads.2
    have C := fun v => compare_int (nl (val zs)) (nl (val ys)) v
    rw [E] at C
    clear h g hz gz E
    generalize nl (val zs) = L at *
    generalize nl (val ys) = M at *
    go_enter Tryz.func166, Tryz.ntmps166
    go_wp2_with (first
      | (go_at_call 184; with_reducible refine Calls.mono R1 ?_; rintro e w1 ⟨rfl, rfl⟩)
      | (go_at_call 184; with_reducible refine Calls.mono R2 ?_; rintro e w1 ⟨rfl, rfl⟩)
      | (go_at_call 185; with_reducible refine Calls.mono (C _) ?_; rintro e w1 ⟨rfl, rfl⟩))
    go_ret
    exact ⟨rfl, Below.refl _ _⟩
end Go.Proofs.YtbcfplaalepnbaaGreatDoor
namespace Go.Proofs.YtbcfplaalepnbaaGreatDoor
open Go.RowKit
attribute [local go_sem ↓] Go.wp_at_zero Go.wp_at_succ
theorem sub_last {ps qs ss : List Int} {k r : Nat} (hs : Wd ss) (hls : ss.length = ps.length) (hle : val qs ≤ val ps) (hl : qs.length ≤ ps.length) (hi : val ss + val (qs.take k) = val ps + r * 4294967296 ^ k) (hk : k = ps.length ∨ qs.length ≤ k ∧ r = 0) : val ss = val ps - val qs := by
  have e : qs.take k = qs := List.take_of_length_le (by omega)
  rw [e] at hi
  rcases hk with rfl | ⟨-, rfl⟩
  · have h1 := val_lt ss hs
    rw [hls] at h1
    rcases Nat.eq_zero_or_pos r with rfl | hc
    · omega
    · have h3 : 1 * 4294967296 ^ ps.length ≤ r * 4294967296 ^ ps.length := Nat.mul_le_mul_right _ hc
      omega
  · omega
def AnsOk (W : World) (N : Nat) (e : Ending) (w' : World) : Prop := ∃ a c, e = .returned (.tuple #[.slice a (nl N) c, .bool true]) ∧ Own W w' (.slice a (nl N) c) (nl N) (natOf N)
set_option maxHeartbeats 4000000 in
theorem nat_sub (a : Option Addr) (n c : Nat) (zs : List Int) (b : Option Addr) (m d : Nat) (ys : List Int) (w : World) (h : IsWords w (.slice a n c) zs) (hz : Wd zs) (g : IsWords w (.slice b m d) ys) (gz : Wd ys)
    (hn : n ≤ 1000000000000) (hge : val ys ≤ val zs) :
    Calls Tryz.prog 241 #[.slice a n c, .slice b m d] w (AnsOk w (val zs - val ys)) := by
  have R1 := nat_right' a n c zs w h hz
  have R2 := nat_right' b m d ys w g gz
  have P := h.right hz
  have Q := g.right gz
  have wP := wd_natOf (val zs)
  have wQ := wd_natOf (val ys)
  have b1 := (h.low hz).2.2
  have C := nat_cmp _ _ _ _ _ _ _ _ w P wP Q wQ
  rw [val_natOf, val_natOf] at C
  have hs : 0 ≤ sgn (val zs) (val ys) := by
    rcases Nat.lt_or_ge (val ys) (val zs) with h | h
    · rw [sgn_gt (by omega)]; omega
    · rw [sgn_eq (by omega)]; omega
  have lP : Hid ((natOf (val zs)).length = nl (val zs)) := rfl
  have lQ : Hid ((natOf (val ys)).length = nl (val ys)) := rfl
  have hle := nl_mono hge
  have HG : Hid (val (natOf (val ys)) ≤ val (natOf (val zs))) := by show _ ≤ _; rw [val_natOf, val_natOf]; exact hge
  have HV : Hid (val (natOf (val zs)) - val (natOf (val ys)) = val zs - val ys) := by show _ = _; rw [val_natOf, val_natOf]
  clear h g hz gz hge
  generalize val zs - val ys = S at HV ⊢
  generalize sgn (val zs) (val ys) = sg at C hs
  generalize nl (val zs) = LP at R1 P b1 lP C hle
  generalize nl (val ys) = LQ at R2 Q lQ C hle
  generalize natOf (val zs) = ps at P wP lP HV HG
  generalize natOf (val ys) = qs at Q wQ lQ HV HG
  have hLP : LP ≤ 1000000000000 := by omega
  go_enter Tryz.func241, Tryz.ntmps241
  go_wp2_with (first
    | (go_at_call 184; with_reducible refine Calls.mono R1 ?_; rintro e w1 ⟨rfl, rfl⟩)
    | (go_at_call 184; with_reducible refine Calls.mono R2 ?_; rintro e w1 ⟨rfl, rfl⟩)
    | (go_at_call 166; with_reducible refine Calls.mono C ?_; rintro e wC ⟨rfl, bC⟩)
    | (at_make; refine wpl_make_words (.tmp 18) rfl rfl w wC LP _ rfl rfl (by omega) bC ?_; intro g w1 hg o1)
    | (with_reducible show wpList _ _ _ (Oper.mk _ (Op.call { callee := Callee.builtin Builtin.copy, args := _, argTypes := _ }) _ _ _ _ :: _) _ _; refine wpl_copy_words (.tmp 20) (.tmp 21) rfl rfl w w1 g LP LP LP _ (List.replicate LP 0) ps o1 (P.below o1.below) rfl rfl lP.out (by omega) ?_; intro w2 o2))
  clear R1 R2 C bC
  go_loopw [7, 25] (fun cr i v => ∃ (k cy : Nat) (ss : List Int), k ≤ LP ∧ i = .int .i64 k ∧ cr = .int .u32 cy ∧ cy ≤ 1 ∧ Own w v (.slice (some ⟨g, 0, none⟩) LP LP) LP ss ∧ Wd ss ∧ val ss + val (qs.take k) = val ps + cy * 4294967296 ^ k) (fun _ i _ => LP - (intOf i).toNat)
  case atStart =>
    refine ⟨0, 0, _, by omega, rfl, rfl, by omega, o2, ?_, ?_⟩
    · rw [List.drop_replicate]; exact wd_append wP (wd_zeros _)
    · rw [List.drop_replicate, val_append_zeros]; simp [val]
  case round =>
    obtain ⟨k, cy, ss, hk, rfl, rfl, hcy, o, wS, hI⟩ := hrel
    have HI : Hid (val ss + val (qs.take k) = val ps + cy * 4294967296 ^ k) := hI
    clear hI o1 o2
    by_cases hdone : k = LP ∨ LQ ≤ k ∧ cy = 0
    · have HS : val ss = S := by
        have e1 := lP.out
        have e2 := lQ.out
        have e3 := o.length
        rw [sub_last wS (by omega) HG.out (by omega) HI.out (by omega), HV.out]
      have R3 := nat_right' _ _ _ ss wr o.words wS
      have OR := o.right wS
      rw [HS] at R3 OR
      clear HS HI P Q wP wQ lP lQ o wS HV HG
      by_cases hkM : k < LP
      · have h1 : LQ ≤ k := by omega
        have h2 : cy = 0 := by omega
        subst h2
        clear hdone
        go_wp2_with (first
          | (go_at_call 184; with_reducible refine Calls.mono R3 ?_; rintro e w1 ⟨rfl, rfl⟩))
        go_ret2
        exact ⟨_, _, rfl, OR⟩
      · clear hdone
        go_wp2_with (first
          | (go_at_call 184; with_reducible refine Calls.mono R3 ?_; rintro e w1 ⟨rfl, rfl⟩))
        go_ret2
        exact ⟨_, _, rfl, OR⟩
    · have EQ : Hid (val (qs.take (k + 1)) = val (qs.take k) + (qs.getD k 0).toNat * 4294967296 ^ k) := val_take_succ qs k
      have W1 := fun v hb z hz => nat_word _ _ _ _ v (Q.below hb) k (by omega) z hz
      obtain ⟨z0, z1⟩ := wd_getD wQ k
      have hkM : k < LP := by omega
      obtain ⟨hc, hf, hg1, hg2⟩ := o.cell k hkM
      have hss := o.length
      have ES := fun y => val_set ss k y (by omega)
      obtain ⟨x0, x1⟩ := wd_getD wS k
      generalize hqz : qs.getD k 0 = z at EQ z0 z1
      have HZ : Hid (qs.getD k 0 = z) := hqz
      clear hqz
      generalize ss.getD k 0 = x at hc ES x0 x1
      have od := o.drew
      have WC := W1 wr.drew od.below z HZ.out
      have AC := limb_sub x z cy wr.drew x0 x1 z0 z1 (by omega) (by omega)
      have HY : Hid (((x - z - cy) % 4294967296).toNat + z.toNat + cy = x.toNat + 4294967296 * (-((x - z - cy) / 4294967296)).toNat ∧ 0 ≤ -((x - z - cy) / 4294967296) ∧ -((x - z - cy) / 4294967296) ≤ 1 ∧ 0 ≤ (x - z - cy) % 4294967296 ∧ (x - z - cy) % 4294967296 < 4294967296) := ⟨by omega, by omega, by omega, by omega, by omega⟩
      generalize (x - z - cy) % 4294967296 = y at AC HY
      generalize -((x - z - cy) / 4294967296) = cq at AC HY
      have HN : Hid (val (ss.set k y) + val (qs.take (k + 1)) = val ps + cq.toNat * 4294967296 ^ (k + 1)) := by
        show _ = _
        rw [EQ.out, Nat.pow_succ]
        exact sub_step (ES y) HI.out HY.out.1
      have WN : Wd (ss.set k y) := wd_set wS k HY.out.2.2.2.1 HY.out.2.2.2.2
      clear W1 hss EQ HI HZ ES P Q wP wQ lP lQ wS HV HG
      by_cases h1 : LQ ≤ k
      case' pos => have h2 : ((cy : Int) == 0) = false := by simp; omega
      all_goals
        clear hdone
        go_wp2
        go_region_with (first
          | (go_at_call 251; with_reducible refine Calls.mono WC ?_; rintro e w3 ⟨rfl, rfl⟩)
          | (go_at_call 250; with_reducible refine Calls.mono AC ?_; rintro e w3 ⟨rfl, b3⟩; have o3 := od.more b3; obtain ⟨hc3, hf3, -, -⟩ := o3.cell k hkM))
        all_goals
          clear WC AC
          go_wp2
          go_roundw
          case rel => exact ⟨k + 1, cq.toNat, ss.set k y, by omega, by go_num, val_int (by have := HY.out.2.1; omega), by have := HY.out.2.2.1; omega, o3.set k y, WN, HN.out⟩
          case measure => simp [intOf]; omega
end Go.Proofs.YtbcfplaalepnbaaGreatDoor
namespace Go.Proofs.YtbcfplaalepnbaaGreatDoor
open Go.RowKit
theorem natOf_lit {n : Nat} (zs : List Int) (h : Wd zs) (hv : val zs = n) (hl : lowN zs zs.length = zs.length) : natOf n = zs := by
  rw [← hv, natOf_val zs h, hl]; exact List.take_length
theorem right_nat (n : Nat) : lowN (natOf n) (nl n) = nl n := by
  have := nl_val (natOf n) (wd_natOf n)
  rw [val_natOf] at this
  exact this.symm
theorem nat_sub' {a : Option Addr} {n c : Nat} {zs : List Int} {b : Option Addr} {m d : Nat} {ys : List Int} {w : World} (h : IsWords w (.slice a n c) zs) (hz : Wd zs) (g : IsWords w (.slice b m d) ys) (gz : Wd ys)
    (hn : n ≤ 1000000000000) (N : Nat) (hN : N + val ys = val zs) : Calls Tryz.prog 241 #[.slice a n c, .slice b m d] w (AnsOk w N) := by
  rw [show N = val zs - val ys by omega]; exact nat_sub a n c zs b m d ys w h hz g gz hn (by omega)
theorem nat_cmp' {a : Option Addr} {n c : Nat} {zs : List Int} {b : Option Addr} {m d : Nat} {ys : List Int} {w : World} (h : IsWords w (.slice a n c) zs) (hz : Wd zs) (g : IsWords w (.slice b m d) ys) (gz : Wd ys)
    (s : Int) (hs : sgn (val zs) (val ys) = s) : Calls Tryz.prog 166 #[.slice a n c, .slice b m d] w fun e w' => e = .returned (.int .i64 s) ∧ Below w.heap.size w w' := by
  rw [← hs]; exact nat_cmp a n c zs b m d ys w h hz g gz
theorem nl_small {xs : List Int} (h : Wd xs) (n : Nat) (hn : xs.length ≤ n) : nl (val xs) ≤ n := Nat.le_trans (nl_val_le xs h) hn
end Go.Proofs.YtbcfplaalepnbaaGreatDoor
namespace Go.Proofs.YtbcfplaalepnbaaGreatDoor
open Go.RowKit
theorem ref_low (a : Option Addr) (n cap : Nat) (zs : List Int) (w : World) (hr : Reads .u32 w a n zs) (hn : n ≤ 9223372036854775807) :
    Calls Tryz.prog 119 #[.slice a n cap] w fun e w' => e = .returned (.int .i64 (lowN zs n)) ∧ w = w' := by
  obtain ⟨-, rfl | ⟨b, off, rfl, hc⟩⟩ := hr
  · go_enter Tryz.func119, Tryz.ntmps119
    go_wp2
    go_loop [3, 4] (fun s i => s = .int .i64 0 ∧ i = .int .i64 0) (fun _ _ => 0)
    case atStart => exact ⟨rfl, rfl⟩
    case round =>
      obtain ⟨rfl, rfl⟩ := hrel
      go_wp2
      go_ret
      exact ⟨rfl, rfl⟩
  · go_enter Tryz.func119, Tryz.ntmps119
    go_wp2
    go_loop [3, 4] (fun s i => ∃ k m : Nat, k ≤ n ∧ i = .int .i64 k ∧ s = .int .i64 m ∧ lowN zs k = m) (fun _ i => n - (intOf i).toNat)
    case atStart => exact ⟨0, 0, by omega, rfl, rfl, rfl⟩
    case round =>
      obtain ⟨k, m, hk, rfl, rfl, hl⟩ := hrel
      have HL : Hid (lowN zs k = m) := hl
      clear hl
      by_cases hlt : k < n
      · have hck := hc k hlt
        by_cases hz : zs.getD k 0 = 0
        · rw [hz] at hck
          have HZ : Hid (zs.getD k 0 = 0) := hz
          clear hz hc
          go_wp2
          go_round
          case rel => exact ⟨k + 1, m, by omega, by go_num, rfl, by rw [lowN_zero HZ.out]; exact HL.out⟩
          case measure => simp [intOf]; omega
        · have HZ : Hid (zs.getD k 0 ≠ 0) := hz
          generalize zs.getD k 0 = z at hck hz
          have hz' : (z == 0) = false := by simpa using hz
          clear hz hc
          go_wp2
          go_round
          case rel => exact ⟨k + 1, k + 1, by omega, by go_num, by go_num, lowN_keep HZ.out⟩
          case measure => simp [intOf]; omega
      · have HE : Hid (k = n) := (by omega : k = n)
        clear hc
        go_wp2
        go_ret
        exact ⟨ret_int (by rw [← HE.out, HL.out]), rfl⟩
end Go.Proofs.YtbcfplaalepnbaaGreatDoor
namespace Go.Proofs.YtbcfplaalepnbaaGreatDoor
open Go.RowKit
theorem words_step {xs ys : List Int} {k : Nat} (h : xs.take k = ys.take k) (he : xs.getD k 0 = ys.getD k 0) (hx : k < xs.length) (hy : k < ys.length) : xs.take (k + 1) = ys.take (k + 1) := by
  rw [List.take_succ_eq_append_getElem hx, List.take_succ_eq_append_getElem hy, h]
  simp [List.getD_eq_getElem?_getD, hx, hy] at he
  rw [he]
set_option maxHeartbeats 1000000 in
/-- Are two lists of words one? -/
theorem ref_words (a : Option Addr) (n c : Nat) (xs : List Int) (b : Option Addr) (m d : Nat) (ys : List Int) (w : World) (h : IsWords w (.slice a n c) xs) (g : IsWords w (.slice b m d) ys) (r : Bool) (hr : decide (xs = ys) = r) :
    Calls Tryz.prog 97 #[.slice a n c, .slice b m d] w fun e w' => e = .returned (.bool r) ∧ Below w.heap.size w w' := by
  obtain ⟨hr1, hn⟩ := h.reads
  obtain ⟨hr2, hm⟩ := g.reads
  clear h g
  by_cases hl : n = m
  · subst hl
    go_enter Tryz.func97, Tryz.ntmps97
    go_wp2
    go_loopw [5] (fun i v => ∃ k : Nat, k ≤ n ∧ i = .int .i64 k ∧ Below w.heap.size w v ∧ xs.take k = ys.take k) (fun i _ => n - (intOf i).toNat)
    case atStart => exact ⟨0, by omega, rfl, Below.refl _ _, rfl⟩
    case round =>
      obtain ⟨k, hk, rfl, hb, hd⟩ := hrel
      have HD : Hid (xs.take k = ys.take k) := hd
      clear hd
      by_cases hlt : k < n
      · rcases hr1.2 with h0 | ⟨b1, o1, rfl, hc1⟩
        · omega
        rcases hr2.2 with h0 | ⟨b2, o2, rfl, hc2⟩
        · omega
        have h1 := hc1 k hlt
        have h2 := hc2 k hlt
        rw [← hb.cell (p := ⟨b1, o1 + k, none⟩) (World.block_lt_of_cell? w _ h1)] at h1
        rw [← hb.cell (p := ⟨b2, o2 + k, none⟩) (World.block_lt_of_cell? w _ h2)] at h2
        have l1 : Hid (xs.length = n) := hr1.1
        have l2 : Hid (ys.length = n) := hr2.1
        by_cases he : xs.getD k 0 = ys.getD k 0
        · rw [he] at h1
          have HE : Hid (xs.getD k 0 = ys.getD k 0) := he
          generalize ys.getD k 0 = y at h1 h2
          clear hc1 hc2 hr1 hr2 he
          go_wp2
          go_quiet (fail)
          go_wp2
          go_roundw
          case rel => exact ⟨k + 1, by omega, by go_num, below_drewN hb _, words_step HD.out HE.out (by rw [l1.out]; omega) (by rw [l2.out]; omega)⟩
          case measure => simp [intOf]; omega
        · have hf : r = false := by
            rw [← hr]
            simp only [decide_eq_false_iff_not]
            intro e; exact he (by rw [e])
          subst hf
          clear hr
          generalize xs.getD k 0 = x at h1 he
          generalize ys.getD k 0 = y at h2 he
          have hne : (x == y) = false := by simpa using he
          clear hc1 hc2 hr1 hr2 he
          go_wp2
          go_quiet (fail)
          go_wp2
          go_ret
          exact ⟨rfl, below_drewN hb _⟩
      · have ht : r = true := by
          rw [← hr]
          have := HD.out
          rw [List.take_of_length_le (by rw [hr1.1]; omega), List.take_of_length_le (by rw [hr2.1]; omega)] at this
          simpa using this
        subst ht
        clear hr hr1 hr2
        go_wp2
        go_ret
        exact ⟨rfl, hb⟩
  · have hf : r = false := by
      rw [← hr]
      simp only [decide_eq_false_iff_not]
      intro e; exact hl (by rw [← hr1.1, ← hr2.1, e])
    subst hf
    clear hr hr1 hr2
    go_enter Tryz.func97, Tryz.ntmps97
    go_wp2
    go_ret
    exact ⟨rfl, Below.refl _ _⟩
theorem ref_at (a : Option Addr) (n c : Nat) (zs : List Int) (w : World) (h : IsWords w (.slice a n c) zs) (k : Nat) (hk : k ≤ 9223372036854775807) (z : Int) (hz : zs.getD k 0 = z) (z0 : 0 ≤ z) (z1 : z < 4294967296) :
    Calls Tryz.prog 143 #[.slice a n c, .int .i64 k] w fun e w' => e = .returned (.int .u64 z) ∧ w = w' := by
  obtain ⟨⟨hl, hr⟩, hn⟩ := h.reads
  by_cases hlt : k < n
  · rcases hr with h0 | ⟨b, off, rfl, hc⟩
    · omega
    · have hck := hc k hlt
      rw [hz] at hck
      clear hc hz h
      go_enter Tryz.func143, Tryz.ntmps143
      go_wp2
      go_ret
      exact ⟨rfl, rfl⟩
  · have : z = 0 := by rw [← hz]; simp [List.getD_eq_getElem?_getD, List.getElem?_eq_none (by omega : zs.length ≤ k)]
    subst this
    clear h hr hz
    go_enter Tryz.func143, Tryz.ntmps143
    go_wp2
    go_ret
    exact ⟨rfl, rfl⟩
end Go.Proofs.YtbcfplaalepnbaaGreatDoor
namespace Go.Proofs.YtbcfplaalepnbaaGreatDoor
open Go.RowKit
theorem ref_low_nl (a : Option Addr) (n c : Nat) (zs : List Int) (w : World) (h : IsWords w (.slice a n c) zs) (hz : Wd zs) :
    Calls Tryz.prog 119 #[.slice a n c] w fun e w' => e = .returned (.int .i64 (nl (val zs))) ∧ w = w' := by
  have C := ref_low a n c zs w h.reads.1 h.reads.2
  rw [(h.low hz).1] at C
  exact C
theorem take_snoc {zs : List Int} {k : Nat} (h : k < zs.length) : zs.take k ++ [zs.getD k 0] = zs.take (k + 1) := by
  rw [List.take_succ_eq_append_getElem h]; simp [List.getD_eq_getElem?_getD, h]
set_option maxHeartbeats 1000000 in
theorem ref_trim (a : Option Addr) (n c : Nat) (zs : List Int) (w : World) (h : IsWords w (.slice a n c) zs) (hz : Wd zs) (hn : n ≤ 1000000000000) :
    Calls Tryz.prog 99 #[.slice a n c] w (Ans w (val zs)) := by
  have C := ref_low_nl a n c zs w h hz
  have hl := h.low hz
  have hL := hl.2.2
  have hr := h.reads.1
  have HE : Hid (zs.take (nl (val zs)) = natOf (val zs)) := hl.2.1
  unfold Ans
  generalize nl (val zs) = L at C hL HE
  clear hl h hz
  go_enter Tryz.func99, Tryz.ntmps99
  go_wp2_with (go_at_call 119; with_reducible refine Calls.mono C ?_; rintro e w1 ⟨rfl, rfl⟩)
  clear C
  go_loopw [4, 5] (fun s i v => ∃ (k : Nat) (oa : Option Addr) (oc : Nat), k ≤ L ∧ i = .int .i64 k ∧ s = .slice oa k oc ∧ Own w v (.slice oa k oc) k (zs.take k)) (fun _ i _ => L - (intOf i).toNat)
  case atStart => exact ⟨0, none, 0, by omega, rfl, rfl, Own.nil (Below.refl _ _)⟩
  case round =>
    obtain ⟨k, oa, oc, hk, rfl, rfl, o⟩ := hrel
    by_cases hlt : k < L
    · rcases hr.2 with h0 | ⟨b1, o1, rfl, hc1⟩
      · omega
      have h1 := hc1 k (by omega)
      rw [← o.below.cell (p := ⟨b1, o1 + k, none⟩) (World.block_lt_of_cell? w _ h1)] at h1
      have HT : Hid (zs.take k ++ [zs.getD k 0] = zs.take (k + 1)) := take_snoc (by rw [hr.1]; omega)
      clear hc1 hr
      generalize zs.getD k 0 = z at h1 HT
      generalize zs.take k = xs at o HT
      go_wp2_with (first
        | (at_builtin; refine wpl_append_words (.tmp 13) (.tmp 18) rfl rfl w _ _ _ k 1 xs [z] rfl rfl (o.alloc _) (lit_words _ [z] 1 rfl (by decide)) rfl (k + 1) rfl (by omega) ?_; intro a1 c1 w1 o1 g1))
      go_roundw
      case rel => exact ⟨k + 1, a1, c1, by omega, by go_num, rfl, by rw [← HT.out]; exact o1⟩
      case measure => simp [intOf]; omega
    · obtain rfl : k = L := by omega
      rw [HE.out] at o
      clear hr HE
      go_wp2
      go_ret
      exact ⟨_, _, rfl, o⟩
set_option maxHeartbeats 1000000 in
theorem ref_of (n : Int) (w : World) (h0 : 0 ≤ n) (h1 : n < 18446744073709551616) :
    Calls Tryz.prog 74 #[.int .u64 n] w (Ans w n.toNat) := by
  have HB : Hid ((natOf n.toNat).length ≤ 2) := nl_le 2 n.toNat (by omega)
  have HN : Hid (nl n.toNat = (natOf n.toNat).length) := rfl
  unfold Ans
  generalize hys : natOf n.toNat = ys at HB HN
  generalize nl n.toNat = L at HN
  have HM : Hid (natOf n.toNat = ys) := hys
  clear hys
  go_enter Tryz.func74, Tryz.ntmps74
  go_wp2
  go_loopw [0, 3] (fun i s v => ∃ (r : Int) (k : Nat) (oa : Option Addr) (oc : Nat) (xs : List Int), 0 ≤ r ∧ r < 18446744073709551616 ∧ i = .int .u64 r ∧ s = .slice oa k oc ∧ Own w v (.slice oa k oc) k xs ∧ xs ++ natOf r.toNat = ys) (fun i _ _ => (intOf i).toNat)
  case atStart => exact ⟨n, 0, none, 0, [], h0, h1, rfl, rfl, Own.nil (Below.refl _ _), HM.out⟩
  case round =>
    obtain ⟨r, k, oa, oc, xs, hr0, hr, rfl, rfl, o, hx⟩ := hrel
    have HX : Hid (xs ++ natOf r.toNat = ys) := hx
    clear hx
    by_cases h0 : r = 0
    · subst h0
      have HX' := HX.out
      rw [show (0 : Int).toNat = 0 from rfl, natOf_zero, List.append_nil] at HX'
      subst HX'
      have hk := o.length
      rw [← HN.out] at hk
      subst hk
      clear HX HM HB HN
      go_wp2
      go_ret
      exact ⟨_, _, rfl, o⟩
    · have hpos : 0 < r := by omega
      have hX := HX.out
      rw [natOf_pos (by omega), List.append_cons, show ((r.toNat % 4294967296 : Nat) : Int) = r % 4294967296 by omega, show r.toNat / 4294967296 = (r / 4294967296).toNat by omega] at hX
      have HX2 : Hid (xs ++ [r % 4294967296] ++ natOf (r / 4294967296).toNat = ys) := hX
      have hk : k + 1 ≤ 2 := by
        have e := congrArg List.length hX
        have := HB.out
        have := o.length
        simp only [List.length_append, List.length_cons, List.length_nil] at e
        omega
      clear HX hX HM HB HN
      go_wp2_with (first
        | (at_builtin; refine wpl_append_words (.tmp 6) (.tmp 10) rfl rfl w _ _ _ k 1 xs [r % 4294967296] rfl rfl (o.alloc _) (lit_words _ [r % 4294967296] 1 rfl (by decide)) rfl (k + 1) rfl (by omega) ?_; intro a1 c1 w1 o1 g1))
      go_roundw
      case rel => exact ⟨r / 4294967296, k + 1, a1, c1, _, by omega, by omega, rfl, rfl, o1, HX2.out⟩
      case measure => simp [intOf]; omega
end Go.Proofs.YtbcfplaalepnbaaGreatDoor
namespace Go.Proofs.YtbcfplaalepnbaaGreatDoor
open Go.RowKit
set_option maxHeartbeats 2000000 in
theorem ref_cmp (a : Option Addr) (n c : Nat) (zs : List Int) (b : Option Addr) (m d : Nat) (ys : List Int) (w : World) (h : IsWords w (.slice a n c) zs) (hz : Wd zs) (g : IsWords w (.slice b m d) ys) (gz : Wd ys)
    (hn : n ≤ 1000000000000) (hm : m ≤ 1000000000000) :
    Calls Tryz.prog 124 #[.slice a n c, .slice b m d] w fun e w' => e = .returned (.int .i64 (sgn (val zs) (val ys))) ∧ w = w' := by
  have l1 : Hid (zs.length = n) := h.len
  have l2 : Hid (ys.length = m) := g.len
  have A1 := fun k hk => ref_at a n c zs w h k hk _ rfl (wd_getD hz k).1 (wd_getD hz k).2
  have A2 := fun k hk => ref_at b m d ys w g k hk _ rfl (wd_getD gz k).1 (wd_getD gz k).2
  have HZ : Hid (Wd zs) := hz
  have GZ : Hid (Wd ys) := gz
  clear h g hz gz
  rcases Nat.lt_or_ge n m with hnm | hnm
  all_goals
    go_enter Tryz.func124, Tryz.ntmps124
    go_wp2
    go_loop [6] (fun i => ∃ k : Nat, k ≤ 1000000000000 ∧ i = .int .i64 ((k : Int) - 1) ∧ val (zs.drop k) = val (ys.drop k)) (fun i => (intOf i + 1).toNat)
    case atStart =>
      have e1 := l1.out
      have e2 := l2.out
      first
        | exact ⟨m, hm, rfl, by rw [List.drop_of_length_le (by omega), List.drop_of_length_le (by omega)]⟩
        | exact ⟨n, hn, rfl, by rw [List.drop_of_length_le (by omega), List.drop_of_length_le (by omega)]⟩
    case round =>
      obtain ⟨k, hk, rfl, hd⟩ := hrel
      have HD : Hid (val (zs.drop k) = val (ys.drop k)) := hd
      clear hd
      rcases Nat.eq_zero_or_pos k with hk0 | hk0
      · subst hk0
        have HE : Hid (sgn (val zs) (val ys) = 0) := sgn_eq (by have := HD.out; rw [List.drop_zero, List.drop_zero] at this; omega)
        clear HD A1 A2
        rw [show ((0 : Nat) : Int) - 1 = -1 from rfl]
        go_wp2
        go_ret
        exact ⟨ret_int HE.out.symm, rfl⟩
      · obtain ⟨t, rfl⟩ : ∃ t, k = t + 1 := ⟨k - 1, by omega⟩
        rw [show ((t + 1 : Nat) : Int) - 1 = t by omega]
        have B1 := A1 t (by omega)
        have B2 := A2 t (by omega)
        obtain ⟨x0, x1⟩ := wd_getD HZ.out t
        obtain ⟨y0, y1⟩ := wd_getD GZ.out t
        have D1 : Hid (val (zs.drop t) = (zs.getD t 0).toNat + 4294967296 * val (zs.drop (t + 1))) := val_drop zs t
        have D2 : Hid (val (ys.drop t) = (ys.getD t 0).toNat + 4294967296 * val (ys.drop (t + 1))) := val_drop ys t
        have HS : zs.getD t 0 ≠ ys.getD t 0 → Hid (sgn (zs.getD t 0) (ys.getD t 0) = sgn (val zs) (val ys)) := fun hne => sgn_val HZ.out GZ.out t HD.out hne
        clear A1 A2
        generalize zs.getD t 0 = x at B1 D1 HS x0 x1
        generalize ys.getD t 0 = y at B2 D2 HS y0 y1
        rcases Int.lt_trichotomy x y with hxy | hxy | hxy
        · have H := HS (by omega)
          rw [sgn_lt hxy] at H
          clear HS
          go_wp2_with (first
            | (go_at_call 143; with_reducible refine Calls.mono B1 ?_; rintro e w1 ⟨rfl, rfl⟩)
            | (go_at_call 143; with_reducible refine Calls.mono B2 ?_; rintro e w1 ⟨rfl, rfl⟩))
          go_ret
          exact ⟨ret_int H.out, rfl⟩
        · subst hxy
          clear HS
          go_wp2_with (first
            | (go_at_call 143; with_reducible refine Calls.mono B1 ?_; rintro e w1 ⟨rfl, rfl⟩)
            | (go_at_call 143; with_reducible refine Calls.mono B2 ?_; rintro e w1 ⟨rfl, rfl⟩))
          go_round
          case rel => exact ⟨t, by omega, rfl, by rw [D1.out, D2.out, HD.out]⟩
          case measure => simp [intOf]
        · have H := HS (by omega)
          rw [sgn_gt hxy] at H
          have hxy' : ¬ x < y := by omega
          clear HS
          go_wp2_with (first
            | (go_at_call 143; with_reducible refine Calls.mono B1 ?_; rintro e w1 ⟨rfl, rfl⟩)
            | (go_at_call 143; with_reducible refine Calls.mono B2 ?_; rintro e w1 ⟨rfl, rfl⟩))
          go_ret
          exact ⟨ret_int H.out, rfl⟩
theorem ref_sub_step {p S A B x y b c c' : Nat} (hi : S + B = A + c * p) (hy : y + b + c = x + 4294967296 * c') : (S + y * p) + (B + b * p) = (A + x * p) + c' * (p * 4294967296) := by
  have e : (y + b + c) * p = (x + 4294967296 * c') * p := by rw [hy]
  rw [Nat.add_mul, Nat.add_mul, Nat.add_mul] at e
  have e2 : c' * (p * 4294967296) = 4294967296 * c' * p := by rw [Nat.mul_comm p, ← Nat.mul_assoc, Nat.mul_comm c']
  rw [e2]; omega
-- <<IF F talweg/talwegref02.Sub>>
theorem ref_sub_last {ps qs ss : List Int} {r : Nat} (hs : Wd ss) (hp : Wd ps) (hls : ss.length = ps.length) (hle : val qs ≤ val ps) (hi : val ss + val (qs.take ps.length) = val (ps.take ps.length) + r * 4294967296 ^ ps.length) : val ss = val ps - val qs := by
  have h0 := val_lt ps hp
  rw [val_take_all qs _ (by omega), List.take_of_length_le (Nat.le_refl _)] at hi
  have h1 := val_lt ss hs
  rw [hls] at h1
  rcases Nat.eq_zero_or_pos r with rfl | hc
  · omega
  · have h3 : 1 * 4294967296 ^ ps.length ≤ r * 4294967296 ^ ps.length := Nat.mul_le_mul_right _ hc
    omega
set_option maxHeartbeats 1000000 in
theorem ref_nsub_no (a : Option Addr) (n c : Nat) (zs : List Int) (b : Option Addr) (m d : Nat) (ys : List Int) (w : World) (h : IsWords w (.slice a n c) zs) (hz : Wd zs) (g : IsWords w (.slice b m d) ys) (gz : Wd ys)
    (hn : n ≤ 1000000000) (hm : m ≤ 1000000000) (hlt : val zs < val ys) :
    Calls Tryz.prog 125 #[.slice a n c, .slice b m d] w fun e w' => e = .returned (.tuple #[.slice none 0 0, .bool false]) ∧ w = w' := by
  have C := ref_cmp _ _ _ _ _ _ _ _ w h hz g gz (by omega) (by omega)
  rw [sgn_lt (by omega)] at C
  clear h g hz gz hlt
  go_enter Tryz.func125, Tryz.ntmps125
  go_wp2_with (first
    | (go_at_call 124; with_reducible refine Calls.mono C ?_; rintro e w1 ⟨rfl, rfl⟩))
  go_ret2
  exact ⟨rfl, rfl⟩
set_option maxHeartbeats 2000000 in
theorem ref_nsub (a : Option Addr) (n c : Nat) (zs : List Int) (b : Option Addr) (m d : Nat) (ys : List Int) (w : World) (h : IsWords w (.slice a n c) zs) (hz : Wd zs) (g : IsWords w (.slice b m d) ys) (gz : Wd ys)
    (hn : n ≤ 1000000000) (hm : m ≤ 1000000000) (hge : val ys ≤ val zs) :
    Calls Tryz.prog 125 #[.slice a n c, .slice b m d] w (AnsOk w (val zs - val ys)) := by
  have C := ref_cmp _ _ _ _ _ _ _ _ w h hz g gz (by omega) (by omega)
  have l1 : Hid (zs.length = n) := h.len
  have hs : 0 ≤ sgn (val zs) (val ys) := by
    rcases Nat.lt_or_ge (val ys) (val zs) with h | h
    · rw [sgn_gt (by omega)]; omega
    · rw [sgn_eq (by omega)]; omega
  generalize sgn (val zs) (val ys) = sg at C hs
  have HG : Hid (val ys ≤ val zs) := hge
  clear hge
  go_enter Tryz.func125, Tryz.ntmps125
  go_wp2_with (first
    | (go_at_call 124; with_reducible refine Calls.mono C ?_; rintro e w1 ⟨rfl, rfl⟩))
  clear C
  go_loopw [6, 7, 8] (fun s cr i v => ∃ (k : Nat) (cy : Int) (oa : Option Addr) (oc : Nat) (ss : List Int), k ≤ n ∧ i = .int .i64 k ∧ cr = .int .u64 cy ∧ 0 ≤ cy ∧ cy ≤ 1 ∧ s = .slice oa k oc ∧ Own w v (.slice oa k oc) k ss ∧ Wd ss ∧ val ss + val (ys.take k) = val (zs.take k) + cy.toNat * 4294967296 ^ k) (fun _ _ i _ => n - (intOf i).toNat)
  case atStart => exact ⟨0, 0, none, 0, [], by omega, rfl, rfl, by omega, by omega, rfl, Own.nil (Below.refl _ _), wd_nil, by simp [val]⟩
  case round =>
    obtain ⟨k, cy, oa, oc, ss, hk, rfl, rfl, hc0, hc1, rfl, o, wS, hI⟩ := hrel
    have HI : Hid (val ss + val (ys.take k) = val (zs.take k) + cy.toNat * 4294967296 ^ k) := hI
    clear hI
    by_cases hlt : k < n
    · have B1 := ref_at a n c zs wr (h.below o.below) k (by omega) _ rfl (wd_getD hz k).1 (wd_getD hz k).2
      have B2 := ref_at b m d ys wr (g.below o.below) k (by omega) _ rfl (wd_getD gz k).1 (wd_getD gz k).2
      obtain ⟨x0, x1⟩ := wd_getD hz k
      obtain ⟨y0, y1⟩ := wd_getD gz k
      have T1 : Hid (val (zs.take (k + 1)) = val (zs.take k) + (zs.getD k 0).toNat * 4294967296 ^ k) := val_take_succ zs k
      have T2 : Hid (val (ys.take (k + 1)) = val (ys.take k) + (ys.getD k 0).toNat * 4294967296 ^ k) := val_take_succ ys k
      have HL : Hid (ss.length = k) := o.length
      generalize zs.getD k 0 = x at B1 T1 x0 x1
      generalize ys.getD k 0 = y at B2 T2 y0 y1
      have HN : Hid (val (ss ++ [(4294967296 + x - y - cy) % 4294967296]) + val (ys.take (k + 1)) = val (zs.take (k + 1)) + (1 - (4294967296 + x - y - cy) / 4294967296).toNat * 4294967296 ^ (k + 1)) := by
        show _ = _
        rw [T1.out, T2.out, val_snoc, HL.out, Nat.pow_succ]
        exact ref_sub_step HI.out (by omega)
      have WN : Wd (ss ++ [(4294967296 + x - y - cy) % 4294967296]) := wd_append wS (wd_one (by omega) (by omega))
      clear T1 T2 HL HI h g hz gz l1 wS
      go_wp2_with (first
        | (go_at_call 143; with_reducible refine Calls.mono B1 ?_; rintro e w1 ⟨rfl, rfl⟩)
        | (go_at_call 143; with_reducible refine Calls.mono B2 ?_; rintro e w1 ⟨rfl, rfl⟩)
        | (at_builtin; refine wpl_append_words (.tmp 30) (.tmp 34) rfl rfl w _ _ _ k 1 ss [(4294967296 + x - y - cy) % 4294967296] rfl rfl (o.alloc _) (lit_words _ [(4294967296 + x - y - cy) % 4294967296] 1 rfl (by decide)) rfl (k + 1) rfl (by omega) ?_; intro a1 c1 w1 o1 g1))
      go_roundw
      case rel => exact ⟨k + 1, 1 - (4294967296 + x - y - cy) / 4294967296, a1, c1, _, by omega, by go_num, rfl, by omega, by omega, rfl, o1, WN, HN.out⟩
      case measure => simp [intOf]; omega
    · obtain rfl : k = n := by omega
      have e1 := l1.out
      have HI' := HI.out
      rw [← e1] at HI'
      have HS := ref_sub_last wS hz (by rw [o.length, e1]) HG.out HI'
      have R := ref_trim oa k oc ss wr o.words wS (by omega)
      rw [HS] at R
      have ob := o.below
      clear HS HI HI' e1 h g hz gz l1 wS o
      go_wp2_with (first
        | (go_at_call 99; (with_reducible refine Calls.mono R ?_); rintro e w1 ⟨a1, c1, rfl, o1⟩))
      go_ret2
      exact ⟨_, _, rfl, o1.outer ob⟩
-- <<END>>
end Go.Proofs.YtbcfplaalepnbaaGreatDoor
namespace Go.Proofs.YtbcfplaalepnbaaGreatDoor
open Go.RowKit
theorem times_right0 (a : Option Addr) (n c : Nat) (zs : List Int) (w : World) (h : IsWords w (.slice a n c) zs) (L : Nat) (hL : lowN zs n = L) :
    Calls Tryz.prog 191 #[.slice a n c] w fun e w' => e = .returned (.slice a L c) ∧ w = w' := by
  have hle : L ≤ n := by rw [← hL]; exact lowN_le _ _
  have hcap := h.cap
  have C := limb_low_words a n c zs w h
  rw [hL] at C
  have h1 : (0 : Int) ≤ L := by omega
  have h2 : (L : Int) ≤ c := by omega
  have hs : a = none → L = 0 ∧ c = 0 := by
    rintro rfl
    rcases h with ⟨e, rfl⟩ | ⟨x, cap, e, -⟩
    · simp only [Value.slice.injEq] at e; omega
    · simp at e
  clear h hL
  rcases a with _ | x
  · obtain ⟨rfl, rfl⟩ := hs rfl
    go_enter Tryz.func191, Tryz.ntmps191
    go_wp2_with (go_at_call 165; with_reducible refine Calls.mono C ?_; rintro e w1 ⟨rfl, rfl⟩)
    go_ret
    exact ⟨rfl, rfl⟩
  · clear hs
    go_enter Tryz.func191, Tryz.ntmps191
    go_wp2_with (go_at_call 165; with_reducible refine Calls.mono C ?_; rintro e w1 ⟨rfl, rfl⟩)
    go_ret
    exact ⟨rfl, rfl⟩
theorem times_right (a : Option Addr) (n c : Nat) (zs : List Int) (w : World) (h : IsWords w (.slice a n c) zs) (hz : Wd zs) :
    Calls Tryz.prog 191 #[.slice a n c] w fun e w' => e = .returned (.slice a (nl (val zs)) c) ∧ w = w' :=
  times_right0 a n c zs w h _ (h.low hz).1
theorem ret_slice {a : Option Addr} {n m : Nat} (h : n = m) : Ending.returned (.slice a n n) = .returned (.slice a m m) := by rw [h]
theorem times_cut (g M t n : Nat) (w : World) (h : t + n + 1 ≤ M) (hM : M ≤ 35184372088832) :
    Calls Tryz.prog 193 #[.slice (some ⟨g, 0, none⟩) M M, .int .i64 t, .int .i64 n] w fun e w' => e = .returned (.slice (some ⟨g, t, none⟩) (n + 1) (n + 1)) ∧ w = w' := by
  have e1 : (t : Int) + n + 1 - t = (n + 1 : Nat) := by omega
  have e2 : ((t : Int) + n + 1 - t).toNat = n + 1 := by omega
  go_enter Tryz.func193, Tryz.ntmps193
  go_wp2
  go_ret
  exact ⟨ret_slice (by omega), rfl⟩
theorem line_step {p q r S S' V A x z s y c c' : Nat} (hp : p = q * r) (hs : S' + s * p = S + y * p) (hi : S + c * p = V + A * x * q) (hy : y + 4294967296 * c' = z * x + s + c) :
    S' + c' * (p * 4294967296) = V + (A + z * r) * x * q := by
  have e : (y + 4294967296 * c') * p = (z * x + s + c) * p := by rw [hy]
  rw [Nat.add_mul, Nat.add_mul, Nat.add_mul] at e
  have e2 : c' * (p * 4294967296) = 4294967296 * c' * p := by rw [Nat.mul_comm p, ← Nat.mul_assoc, Nat.mul_comm c']
  have e3 : (A + z * r) * x * q = A * x * q + z * x * p := by
    rw [Nat.add_mul, Nat.add_mul, hp, Nat.mul_right_comm z r x, Nat.mul_assoc (z * x) r q, Nat.mul_comm r q]
  rw [e2, e3]; omega
theorem line_last {ss : List Int} {k c : Nat} (hk : k < ss.length) (h : val ss + c * 4294967296 ^ k < 4294967296 ^ (k + 1)) : (ss.getD k 0).toNat + c < 4294967296 := by
  have h1 := val_set ss k 0 hk
  have h2 : ((ss.getD k 0).toNat + c) * 4294967296 ^ k < 4294967296 * 4294967296 ^ k := by
    rw [Nat.add_mul, Nat.mul_comm 4294967296, ← Nat.pow_succ]
    simp only [Int.toNat_zero, Nat.zero_mul, Nat.add_zero] at h1
    omega
  exact Nat.lt_of_mul_lt_mul_right h2
set_option maxHeartbeats 2000000 in
theorem times_line (W : World) (g M t n c : Nat) (ss : List Int) (a : Option Addr) (zs : List Int) (x : Int) (w : World) (o : Own W w (.slice (some ⟨g, 0, none⟩) M M) M ss) (wS : Wd ss)
    (h : IsWords W (.slice a n c) zs) (hz : Wd zs) (x0 : 0 ≤ x) (x1 : x < 4294967296) (hM : t + n + 1 ≤ M) (hM2 : M ≤ 35184372088832) (hv : val ss + val zs * x.toNat * 4294967296 ^ t < 4294967296 ^ (t + n + 1)) :
    Calls Tryz.prog 192 #[.slice (some ⟨g, t, none⟩) (n + 1) (n + 1), .slice a n c, .int .u32 x] w fun e w' => e = .returned (.tuple #[]) ∧
      ∃ ss', Own W w' (.slice (some ⟨g, 0, none⟩) M M) M ss' ∧ Wd ss' ∧ val ss' = val ss + val zs * x.toNat * 4294967296 ^ t := by
  have hl : Hid (zs.length = n) := h.len
  have HV : Hid (val ss + val zs * x.toNat * 4294967296 ^ t < 4294967296 ^ (t + n + 1)) := hv
  clear hv
  go_enter Tryz.func192, Tryz.ntmps192
  go_wp2
  go_loopw [6, 11] (fun cr i v => ∃ (k : Nat) (cy : Int) (rs : List Int), k ≤ n ∧ i = .int .i64 k ∧ cr = .int .u32 cy ∧ 0 ≤ cy ∧ cy < 4294967296 ∧ Own W v (.slice (some ⟨g, 0, none⟩) M M) M rs ∧ Wd rs ∧ val rs + cy.toNat * 4294967296 ^ (t + k) = val ss + val (zs.take k) * x.toNat * 4294967296 ^ t) (fun _ i _ => n - (intOf i).toNat)
  case atStart => exact ⟨0, 0, ss, by omega, rfl, rfl, by omega, by omega, o, wS, by simp [val]⟩
  case round =>
    obtain ⟨k, cy, rs, hk, rfl, rfl, c0, c1, o, wR, hI⟩ := hrel
    have HI : Hid (val rs + cy.toNat * 4294967296 ^ (t + k) = val ss + val (zs.take k) * x.toNat * 4294967296 ^ t) := hI
    clear hI
    have hrl := o.length
    by_cases hlt : k < n
    · have EQ : Hid (val (zs.take (k + 1)) = val (zs.take k) + (zs.getD k 0).toNat * 4294967296 ^ k) := val_take_succ zs k
      obtain ⟨z0, z1⟩ := wd_getD hz k
      rcases (h.below o.below).reads.1.2 with h0 | ⟨b, off, rfl, hcz⟩
      · omega
      have hck := hcz k hlt
      obtain ⟨hc, hf, hg1, hg2⟩ := o.cell (t + k) (by omega)
      have ES := fun y => val_set rs (t + k) y (by omega)
      obtain ⟨y0, y1⟩ := wd_getD wR (t + k)
      generalize zs.getD k 0 = z at hck EQ z0 z1
      generalize rs.getD (t + k) 0 = s at hc ES y0 y1
      have AC := limb_mul z x s cy wr z0 z1 x0 x1 y0 y1 c0 c1
      have m0 : 0 ≤ z * x := Int.mul_nonneg z0 x0
      have m1 : z * x ≤ 4294967295 * 4294967295 := Int.mul_le_mul (by omega) (by omega) x0 (by omega)
      have m2 : (z * x).toNat = z.toNat * x.toNat := Int.toNat_mul z0 x0
      have HY : Hid (((z * x + s + cy) % 4294967296).toNat + 4294967296 * ((z * x + s + cy) / 4294967296).toNat = z.toNat * x.toNat + s.toNat + cy.toNat ∧ 0 ≤ (z * x + s + cy) / 4294967296 ∧ (z * x + s + cy) / 4294967296 < 4294967296 ∧ 0 ≤ (z * x + s + cy) % 4294967296 ∧ (z * x + s + cy) % 4294967296 < 4294967296) := by
        show _ ∧ _
        rw [← m2]
        generalize z * x = p at m0 m1
        exact ⟨by omega, by omega, by omega, by omega, by omega⟩
      generalize (z * x + s + cy) % 4294967296 = y at AC HY
      generalize (z * x + s + cy) / 4294967296 = cq at AC HY
      have HN : Hid (val (rs.set (t + k) y) + cq.toNat * 4294967296 ^ (t + (k + 1)) = val ss + val (zs.take (k + 1)) * x.toNat * 4294967296 ^ t) := by
        show _ = _
        rw [EQ.out, ← Nat.add_assoc, Nat.pow_succ]
        exact line_step (Nat.pow_add _ _ _) (ES y) HI.out HY.out.1
      have WN : Wd (rs.set (t + k) y) := wd_set wR (t + k) HY.out.2.2.2.1 HY.out.2.2.2.2
      clear EQ HI ES wR hz hcz m0 m1 m2 HV hl h hrl wS
      go_wp2_with (first
        | (go_at_call 214; with_reducible refine Calls.mono AC ?_; rintro e w3 ⟨rfl, b3⟩; have o3 := o.more b3; obtain ⟨hc3, hf3, -, -⟩ := o3.cell (t + k) (by omega)))
      go_roundw
      case rel => exact ⟨k + 1, cq, rs.set (t + k) y, by omega, by go_num, rfl, HY.out.2.1, HY.out.2.2.1, o3.set (t + k) y, WN, HN.out⟩
      case measure => simp [intOf]; omega
    · obtain ⟨y0, y1⟩ := wd_getD wR (t + n)
      obtain ⟨hc, hf, hg1, hg2⟩ := o.cell (t + n) (by omega)
      have HI' : Hid (val rs + cy.toNat * 4294967296 ^ (t + n) = val ss + val zs * x.toNat * 4294967296 ^ t) := by
        have h1 := HI.out
        have h2 := hl.out
        rw [show k = n by omega, List.take_of_length_le (by omega)] at h1
        exact h1
      have HL := line_last (ss := rs) (k := t + n) (c := cy.toNat) (by omega) (by rw [HI'.out]; exact HV.out)
      have ES := fun y => val_set rs (t + n) y (by omega)
      generalize rs.getD (t + n) 0 = s at hc ES y0 y1 HL
      have HN : Hid (val (rs.set (t + n) (s + cy)) = val ss + val zs * x.toNat * 4294967296 ^ t) := by
        show _ = _
        have h1 := ES (s + cy)
        rw [show (s + cy).toNat = s.toNat + cy.toNat by omega, Nat.add_mul] at h1
        have h2 := HI'.out
        omega
      have WN : Wd (rs.set (t + n) (s + cy)) := wd_set wR (t + n) (by omega) (by omega)
      clear HI HI' ES wR hz HV hl h hrl wS
      go_wp2
      go_end0
      exact ⟨rfl, _, o.set (t + n) _, WN, HN.out⟩
end Go.Proofs.YtbcfplaalepnbaaGreatDoor
namespace Go.Proofs.YtbcfplaalepnbaaGreatDoor
open Go.RowKit
theorem one_fits {A x c n : Nat} (hA : A < 4294967296 ^ n) (hx : x < 4294967296) (hc : c < 4294967296) : c + A * x < 4294967296 ^ (n + 1) := by
  have h1 : A * x ≤ A * 4294967295 := Nat.mul_le_mul_left _ (by omega)
  have h2 : A * 4294967295 ≤ (4294967296 ^ n - 1) * 4294967295 := Nat.mul_le_mul_right _ (by omega)
  rw [Nat.pow_succ]
  generalize 4294967296 ^ n = p at *
  omega
theorem val_zeros_set (M : Nat) (c : Int) (hM : 0 < M) : val ((List.replicate M 0).set 0 c) = c.toNat := by
  have h := val_set (List.replicate M 0) 0 c (by simpa using hM)
  rw [val_zeros] at h
  have e : (List.replicate M (0 : Int)).getD 0 0 = 0 := by simp [List.getD_eq_getElem?_getD, hM]
  rw [e] at h
  simpa using h
theorem natOf_len (A : Nat) : (natOf A).length = nl A := rfl
set_option maxHeartbeats 2000000 in
theorem times_one (a : Option Addr) (n c : Nat) (zs : List Int) (x y : Int) (w : World) (h : IsWords w (.slice a n c) zs) (hz : Wd zs) (hn : n ≤ 1000000000000) (x0 : 0 ≤ x) (x1 : x < 4294967296) (y0 : 0 ≤ y) (y1 : y < 4294967296) :
    Calls Tryz.prog 175 #[.slice a n c, .int .u32 x, .int .u32 y] w (Ans w (val zs * x.toNat + y.toNat)) := by
  have R1 := times_right a n c zs w h hz
  have S1 := h.right hz
  have b1 := (h.low hz).2.2
  have hv := lt_nl (val zs)
  have wP := wd_natOf (val zs)
  have EV : Hid (val (natOf (val zs)) = val zs) := val_natOf (val zs)
  clear h hz
  generalize val zs = A at *
  generalize nl A = L at R1 S1 b1 hv
  generalize natOf A = ps at S1 wP EV
  have HV : Hid (A < 4294967296 ^ L) := hv
  clear hv
  obtain ⟨M, hM1, hM2⟩ : ∃ M, M ≤ L + 1 ∧ L + 1 ≤ M := ⟨_, Nat.le_refl _, Nat.le_refl _⟩
  have W0 : Wd ((List.replicate M 0).set 0 y) := wd_set (wd_zeros M) 0 y0 y1
  have V0 : Hid (val ((List.replicate M 0).set 0 y) = y.toNat) := val_zeros_set M y (by omega)
  have K := fun g v (o : Own w v (.slice (some ⟨g, 0, none⟩) M M) M ((List.replicate M 0).set 0 y)) => times_line w g M 0 L c _ a ps x v o W0 S1 wP x0 x1 (by omega) (by omega) (by rw [V0.out, EV.out]; simpa using one_fits HV.out (x := x.toNat) (c := y.toNat) (by omega) (by omega))
  have CT := fun g v => times_cut g M 0 L v (by omega) (by omega)
  have RR := fun g v (rs : List Int) (o : Own w v (.slice (some ⟨g, 0, none⟩) M M) M rs) (hr : Wd rs) => times_right _ _ _ rs v o.words hr
  clear S1 W0
  go_enter Tryz.func175, Tryz.ntmps175
  go_wp2_with (first
    | (go_at_call 191; with_reducible refine Calls.mono R1 ?_; rintro e w1 ⟨rfl, rfl⟩)
    | (at_make; refine wpl_make_words (.tmp 12) rfl rfl w w M _ rfl (by omega) (by omega) (Below.refl _ _) ?_; intro g w1 hg o1; obtain ⟨hc1, hf1, -, -⟩ := o1.cell 0 (by omega); have o2 := o1.set 0 y)
    | (go_at_call 193; with_reducible refine Calls.mono (CT _ _) ?_; rintro e w3 ⟨rfl, rfl⟩)
    | (go_at_call 192; (with_reducible refine Calls.mono (K _ _ o2) ?_); rintro e w4 ⟨rfl, rs, o4, h4, E4⟩; have E5 : Hid (val rs = A * x.toNat + y.toNat) := (by show _ = _; rw [E4, V0.out, EV.out]; simp; omega); clear E4)
    | (go_at_call 191; (with_reducible refine Calls.mono (RR _ _ _ o4 h4) ?_); rintro e w5 ⟨rfl, rfl⟩))
  go_ret
  have o6 := o4.right h4
  rw [E5.out] at o6 ⊢
  exact ⟨_, _, rfl, o6⟩
end Go.Proofs.YtbcfplaalepnbaaGreatDoor
namespace Go.Proofs.YtbcfplaalepnbaaGreatDoor
open Go.RowKit
def But (g : Nat) (w w' : World) : Prop := w.heap.size ≤ w'.heap.size ∧ ∀ k, k < w.heap.size → k ≠ g → w'.heap[k]? = w.heap[k]?
theorem But.refl (g : Nat) (w : World) : But g w w := ⟨Nat.le_refl _, fun _ _ _ => rfl⟩
theorem But.trans {g : Nat} {a b c : World} (h : But g a b) (k : But g b c) : But g a c :=
  ⟨Nat.le_trans h.1 k.1, fun i hi hg => (k.2 i (Nat.lt_of_lt_of_le hi h.1) hg).trans (h.2 i hi hg)⟩
theorem But.more {g : Nat} {a b c : World} (h : But g a b) (k : Below b.heap.size b c) : But g a c :=
  h.trans ⟨k.size, fun i hi _ => k.block i hi⟩
theorem But.set {g : Nat} {a b : World} (h : But g a b) (k : Nat) (u : Value) : But g a (b.setCell ⟨g, k, none⟩ u) :=
  h.trans ⟨by simp [World.setCell], fun i _ hg => Below.heap_setCell _ _ _ _ hg⟩
def Apart (g : Nat) (a : Option Addr) : Prop := ∀ x, a = some x → x.block ≠ g
theorem add_block (a : Addr) (n : Nat) : (a.add n).block = a.block := by unfold Addr.add; split <;> rfl
theorem IsWords.but {w w' : World} {a : Option Addr} {n c : Nat} {zs : List Int} {g : Nat} (h : IsWords w (.slice a n c) zs) (ha : Apart g a) (hb : But g w w') : IsWords w' (.slice a n c) zs := by
  rcases h with h | ⟨x, cap, e, h1, h2, hc⟩
  · exact .inl h
  · refine .inr ⟨x, cap, e, h1, h2, fun i hi => ?_⟩
    have hci := hc i hi
    simp only [Value.slice.injEq] at e
    rw [World.cell?_of_block (w := w) (hb.2 _ (World.block_lt_of_cell? w _ hci) (by rw [add_block]; exact ha x e.1))]
    exact hci
theorem Own.but {W w w' : World} {a : Option Addr} {n c : Nat} {xs : List Int} {g : Nat} (h : Own W w (.slice a n c) n xs) (ha : Apart g a) (hb : But g w w') (hB : Below W.heap.size W w') : Own W w' (.slice a n c) n xs := by
  refine ⟨⟨h.1.1, ?_⟩, hB⟩
  rcases h.1.2 with h0 | ⟨g', cap, cur, e, h1, hg', h2⟩
  · exact .inl h0
  · refine .inr ⟨g', cap, cur, e, h1, ?_, h2⟩
    simp only [Value.slice.injEq] at e
    rw [hb.2 g' (Array.getElem?_eq_some_iff.1 hg').1 (ha _ e.1)]
    exact hg'
theorem split_right0 (a : Option Addr) (n c : Nat) (zs : List Int) (w : World) (h : IsWords w (.slice a n c) zs) (L : Nat) (hL : lowN zs n = L) :
    Calls Tryz.prog 220 #[.slice a n c] w fun e w' => e = .returned (.slice a L c) ∧ w = w' := by
  have hle : L ≤ n := by rw [← hL]; exact lowN_le _ _
  have hcap := h.cap
  have C := limb_low_words a n c zs w h
  rw [hL] at C
  have h1 : (0 : Int) ≤ L := by omega
  have h2 : (L : Int) ≤ c := by omega
  have hs : a = none → L = 0 ∧ c = 0 := by
    rintro rfl
    rcases h with ⟨e, rfl⟩ | ⟨x, cap, e, -⟩
    · simp only [Value.slice.injEq] at e; omega
    · simp at e
  clear h hL
  rcases a with _ | x
  · obtain ⟨rfl, rfl⟩ := hs rfl
    go_enter Tryz.func220, Tryz.ntmps220
    go_wp2_with (go_at_call 165; with_reducible refine Calls.mono C ?_; rintro e w1 ⟨rfl, rfl⟩)
    go_ret
    exact ⟨rfl, rfl⟩
  · clear hs
    go_enter Tryz.func220, Tryz.ntmps220
    go_wp2_with (go_at_call 165; with_reducible refine Calls.mono C ?_; rintro e w1 ⟨rfl, rfl⟩)
    go_ret
    exact ⟨rfl, rfl⟩
theorem split_right (a : Option Addr) (n c : Nat) (zs : List Int) (w : World) (h : IsWords w (.slice a n c) zs) (hz : Wd zs) :
    Calls Tryz.prog 220 #[.slice a n c] w fun e w' => e = .returned (.slice a (nl (val zs)) c) ∧ w = w' :=
  split_right0 a n c zs w h _ (h.low hz).1
theorem shift_mul {p c : Nat} : c * (p * 4294967296) = 4294967296 * c * p := by rw [Nat.mul_comm p, ← Nat.mul_assoc, Nat.mul_comm c]
theorem take_step {p q r S S' V A x z s s' b b' c c' : Nat} (hp : p = q * r) (hs : S' + s * p = S + s' * p) (hi : S + A * x * q = V + (c + b) * p) (hy : s' + z * x + c + b = s + 4294967296 * (c' + b')) :
    S' + (A + z * r) * x * q = V + (c' + b') * (p * 4294967296) := by
  have e : (s' + z * x + c + b) * p = (s + 4294967296 * (c' + b')) * p := by rw [hy]
  have e3 : (A + z * r) * x * q = A * x * q + z * x * p := by
    rw [Nat.add_mul, Nat.add_mul, hp, Nat.mul_right_comm z r x, Nat.mul_assoc (z * x) r q, Nat.mul_comm r q]
  rw [shift_mul, e3]
  rw [Nat.add_mul, Nat.add_mul, Nat.add_mul, Nat.add_mul] at e
  rw [Nat.add_mul] at hi
  omega
theorem take_last {p S S' V P s s' b b' c : Nat} (hs : S' + s * p = S + s' * p) (hi : S + P = V + (c + b) * p) (hy : s' + c + b = s + 4294967296 * b') : S' + P = V + b' * (p * 4294967296) := by
  have e : (s' + c + b) * p = (s + 4294967296 * b') * p := by rw [hy]
  rw [shift_mul]
  rw [Nat.add_mul, Nat.add_mul, Nat.add_mul] at e
  rw [Nat.add_mul] at hi
  omega
theorem back_step {p q r S S' V A z s s' c c' : Nat} (hp : p = q * r) (hs : S' + s * p = S + s' * p) (hi : S + c * p = V + A * q) (hy : s' + 4294967296 * c' = s + z + c) :
    S' + c' * (p * 4294967296) = V + (A + z * r) * q := by
  have e : (s' + 4294967296 * c') * p = (s + z + c) * p := by rw [hy]
  have e3 : (A + z * r) * q = A * q + z * p := by
    rw [Nat.add_mul, hp, Nat.mul_assoc z r q, Nat.mul_comm r q]
  rw [shift_mul, e3]
  rw [Nat.add_mul, Nat.add_mul, Nat.add_mul] at e
  omega
theorem back_last {p S S' V P s s' c c' : Nat} (hs : S' + s * p = S + s' * p) (hi : S + c * p = V + P) (hy : s' + 4294967296 * c' = s + c) : S' + c' * (p * 4294967296) = V + P := by
  have e : (s' + 4294967296 * c') * p = (s + c) * p := by rw [hy]
  rw [shift_mul]
  rw [Nat.add_mul, Nat.add_mul] at e
  omega
theorem drop_set {rs : List Int} {k T : Nat} (y : Int) (h : k < T) : (rs.set k y).drop T = rs.drop T := by
  rw [List.drop_set, if_pos h]
theorem val_lt_of_drop {rs ss : List Int} {T : Nat} (hr : Wd rs) (hd : rs.drop T = ss.drop T) (h : val ss < 4294967296 ^ T) : val rs < 4294967296 ^ T := by
  have h1 := val_split ss T
  have h2 := val_split rs T
  have h3 : val (ss.drop T) = 0 := by
    rcases Nat.eq_zero_or_pos (val (ss.drop T)) with h0 | h0
    · exact h0
    · have : 4294967296 ^ T * 1 ≤ 4294967296 ^ T * val (ss.drop T) := Nat.mul_le_mul_left _ h0
      omega
  rw [hd, h3] at h2
  rw [h2]
  simpa using val_take_lt rs hr T
set_option maxHeartbeats 2000000 in
/-- take: what is left of the number, and whether it went below. -/
theorem split_take (W : World) (g M t n c C : Nat) (ss : List Int) (a : Option Addr) (ys : List Int) (x : Int) (w : World) (o : Own W w (.slice (some ⟨g, 0, none⟩) M M) M ss) (wS : Wd ss)
    (h : IsWords w (.slice a n c) ys) (hz : Wd ys) (ha : Apart g a) (x0 : 0 ≤ x) (x1 : x < 4294967296) (hM : t + n + 1 ≤ M) (hM2 : M ≤ 35184372088832) (hv : val ss < 4294967296 ^ (t + n + 1)) :
    Calls Tryz.prog 243 #[.slice (some ⟨g, t, none⟩) (n + 1) C, .slice a n c, .int .u32 x] w fun e w' => ∃ (b : Nat) (ss' : List Int), b ≤ 1 ∧ e = .returned (.bool (decide (b = 1))) ∧
      Own W w' (.slice (some ⟨g, 0, none⟩) M M) M ss' ∧ Wd ss' ∧ But g w w' ∧ val ss' < 4294967296 ^ (t + n + 1) ∧ val ss' + val ys * x.toNat * 4294967296 ^ t = val ss + b * 4294967296 ^ (t + n + 1) := by
  have hl : Hid (ys.length = n) := h.len
  have HV : Hid (val ss < 4294967296 ^ (t + n + 1)) := hv
  clear hv
  go_enter Tryz.func243, Tryz.ntmps243
  go_wp2
  go_loopw [7, 9, 15] (fun cr br i v => ∃ (k : Nat) (cy bo : Int) (rs : List Int), k ≤ n ∧ i = .int .i64 k ∧ cr = .int .u32 cy ∧ br = .int .u32 bo ∧ 0 ≤ cy ∧ cy < 4294967296 ∧ 0 ≤ bo ∧ bo ≤ 1 ∧ Own W v (.slice (some ⟨g, 0, none⟩) M M) M rs ∧ Wd rs ∧ But g w v ∧ rs.drop (t + n + 1) = ss.drop (t + n + 1) ∧ val rs + val (ys.take k) * x.toNat * 4294967296 ^ t = val ss + (cy.toNat + bo.toNat) * 4294967296 ^ (t + k)) (fun _ _ i _ => n - (intOf i).toNat)
  case atStart => exact ⟨0, 0, 0, ss, by omega, rfl, rfl, rfl, by omega, by omega, by omega, by omega, o, wS, But.refl _ _, rfl, by simp [val]⟩
  case round =>
    obtain ⟨k, cy, bo, rs, hk, rfl, rfl, rfl, c0, c1, b0, b1, o, wR, hB, hD, hI⟩ := hrel
    have HI : Hid (val rs + val (ys.take k) * x.toNat * 4294967296 ^ t = val ss + (cy.toNat + bo.toNat) * 4294967296 ^ (t + k)) := hI
    have HD : Hid (rs.drop (t + n + 1) = ss.drop (t + n + 1)) := hD
    clear hI hD
    have hrl := o.length
    by_cases hlt : k < n
    · have EQ : Hid (val (ys.take (k + 1)) = val (ys.take k) + (ys.getD k 0).toNat * 4294967296 ^ k) := val_take_succ ys k
      obtain ⟨z0, z1⟩ := wd_getD hz k
      rcases (h.but ha hB).reads.1.2 with h0 | ⟨b, off, rfl, hcz⟩
      · omega
      have hck := hcz k hlt
      have ES := fun y => val_set rs (t + k) y (by omega)
      have DS := fun y => drop_set (rs := rs) (k := t + k) (T := t + n + 1) y (by omega)
      obtain ⟨y0, y1⟩ := wd_getD wR (t + k)
      generalize ys.getD k 0 = z at hck EQ z0 z1
      have oc := fun v (ov : Own W v (.slice (some ⟨g, 0, none⟩) M M) M rs) => ov.cell (t + k) (by omega)
      generalize rs.getD (t + k) 0 = s at oc ES y0 y1
      have AC := limb_mul z x cy 0 wr z0 z1 x0 x1 c0 c1 (by omega) (by omega)
      have m0 : 0 ≤ z * x := Int.mul_nonneg z0 x0
      have m1 : z * x ≤ 4294967295 * 4294967295 := Int.mul_le_mul (by omega) (by omega) x0 (by omega)
      have m2 : (z * x).toNat = z.toNat * x.toNat := Int.toNat_mul z0 x0
      have HY : Hid (((z * x + cy + 0) % 4294967296).toNat + 4294967296 * ((z * x + cy + 0) / 4294967296).toNat = z.toNat * x.toNat + cy.toNat ∧ 0 ≤ (z * x + cy + 0) / 4294967296 ∧ (z * x + cy + 0) / 4294967296 < 4294967296 ∧ 0 ≤ (z * x + cy + 0) % 4294967296 ∧ (z * x + cy + 0) % 4294967296 < 4294967296) := by
        show _ ∧ _
        rw [← m2]
        generalize z * x = p at m0 m1
        exact ⟨by omega, by omega, by omega, by omega, by omega⟩
      generalize (z * x + cy + 0) % 4294967296 = lo at AC HY
      generalize (z * x + cy + 0) / 4294967296 = cq at AC HY
      have BC := fun v => limb_sub s lo bo v y0 y1 HY.out.2.2.2.1 HY.out.2.2.2.2 b0 (by omega)
      have HZ : Hid (((s - lo - bo) % 4294967296).toNat + lo.toNat + bo.toNat = s.toNat + 4294967296 * (-((s - lo - bo) / 4294967296)).toNat ∧ 0 ≤ -((s - lo - bo) / 4294967296) ∧ -((s - lo - bo) / 4294967296) ≤ 1 ∧ 0 ≤ (s - lo - bo) % 4294967296 ∧ (s - lo - bo) % 4294967296 < 4294967296) := by
        have h1 := HY.out.2.2.2
        exact ⟨by omega, by omega, by omega, by omega, by omega⟩
      generalize (s - lo - bo) % 4294967296 = s2 at BC HZ
      generalize -((s - lo - bo) / 4294967296) = b2 at BC HZ
      have HN : Hid (val (rs.set (t + k) s2) + val (ys.take (k + 1)) * x.toNat * 4294967296 ^ t = val ss + (cq.toNat + b2.toNat) * 4294967296 ^ (t + (k + 1))) := by
        show _ = _
        rw [EQ.out, ← Nat.add_assoc, Nat.pow_succ]
        refine take_step (Nat.pow_add _ _ _) (ES s2) HI.out ?_
        have h1 := HY.out.1
        have h2 := HZ.out.1
        omega
      have WN : Wd (rs.set (t + k) s2) := wd_set wR (t + k) HZ.out.2.2.2.1 HZ.out.2.2.2.2
      have DN : Hid ((rs.set (t + k) s2).drop (t + n + 1) = ss.drop (t + n + 1)) := (DS s2).trans HD.out
      obtain ⟨hc0, hf0, -, -⟩ := oc _ o
      clear EQ HI ES DS wR hz hcz m0 m1 m2 HV hl h hrl wS HD
      go_wp2_with (first
        | (go_at_call 214; with_reducible refine Calls.mono AC ?_; rintro e w3 ⟨rfl, b3⟩; have o3 := o.more b3; obtain ⟨hc3, hf3, -, -⟩ := oc _ o3)
        | (go_at_call 250; with_reducible refine Calls.mono (BC _) ?_; rintro e w4 ⟨rfl, b4⟩; have o4 := o3.more b4; obtain ⟨hc4, hf4, -, -⟩ := oc _ o4))
      go_roundw
      case rel => exact ⟨k + 1, cq, b2, rs.set (t + k) s2, by omega, by go_num, rfl, rfl, HY.out.2.1, HY.out.2.2.1, HZ.out.2.1, HZ.out.2.2.1, o4.set (t + k) s2, WN, ((hB.more b3).more b4).set _ _, DN.out, HN.out⟩
      case measure => simp [intOf]; omega
    · obtain ⟨y0, y1⟩ := wd_getD wR (t + n)
      have HI' : Hid (val rs + val ys * x.toNat * 4294967296 ^ t = val ss + (cy.toNat + bo.toNat) * 4294967296 ^ (t + n)) := by
        have h1 := HI.out
        have h2 := hl.out
        rw [show k = n by omega, List.take_of_length_le (by omega)] at h1
        exact h1
      have ES := fun y => val_set rs (t + n) y (by omega)
      have DS := fun y => drop_set (rs := rs) (k := t + n) (T := t + n + 1) y (by omega)
      have oc := fun v (ov : Own W v (.slice (some ⟨g, 0, none⟩) M M) M rs) => ov.cell (t + n) (by omega)
      generalize rs.getD (t + n) 0 = s at oc ES y0 y1
      have BC := fun v => limb_sub s cy bo v y0 y1 c0 c1 b0 (by omega)
      have HZ : Hid (((s - cy - bo) % 4294967296).toNat + cy.toNat + bo.toNat = s.toNat + 4294967296 * (-((s - cy - bo) / 4294967296)).toNat ∧ 0 ≤ -((s - cy - bo) / 4294967296) ∧ -((s - cy - bo) / 4294967296) ≤ 1 ∧ 0 ≤ (s - cy - bo) % 4294967296 ∧ (s - cy - bo) % 4294967296 < 4294967296) :=
        ⟨by omega, by omega, by omega, by omega, by omega⟩
      generalize (s - cy - bo) % 4294967296 = s2 at BC HZ
      generalize -((s - cy - bo) / 4294967296) = b2 at BC HZ
      have HN : Hid (val (rs.set (t + n) s2) + val ys * x.toNat * 4294967296 ^ t = val ss + b2.toNat * 4294967296 ^ (t + n + 1)) := by
        show _ = _
        rw [Nat.pow_succ]
        exact take_last (ES s2) HI'.out HZ.out.1
      have WN : Wd (rs.set (t + n) s2) := wd_set wR (t + n) HZ.out.2.2.2.1 HZ.out.2.2.2.2
      have LN : Hid (val (rs.set (t + n) s2) < 4294967296 ^ (t + n + 1)) := val_lt_of_drop WN ((DS s2).trans HD.out) HV.out
      obtain ⟨hc0, hf0, -, -⟩ := oc _ o
      obtain ⟨p0, p1⟩ : 0 ≤ b2 ∧ b2 ≤ 1 := ⟨HZ.out.2.1, HZ.out.2.2.1⟩
      clear HI HI' ES DS wR hz HV hl h hrl wS HD HZ
      rcases (by omega : b2 = 0 ∨ b2 = 1) with rfl | rfl
      all_goals
        go_wp2_with (first
          | (go_at_call 250; with_reducible refine Calls.mono (BC _) ?_; rintro e w4 ⟨rfl, b4⟩; have o4 := o.more b4; obtain ⟨hc4, hf4, -, -⟩ := oc _ o4))
        go_ret
        exact ⟨_, _, by decide, rfl, o4.set (t + n) s2, WN, (hB.more b4).set _ _, LN.out, HN.out⟩
set_option maxHeartbeats 2000000 in
/-- putBack: what the number becomes, and whether it came up. -/
theorem split_back (W : World) (g M t n c C : Nat) (ss : List Int) (a : Option Addr) (ys : List Int) (w : World) (o : Own W w (.slice (some ⟨g, 0, none⟩) M M) M ss) (wS : Wd ss)
    (h : IsWords w (.slice a n c) ys) (hz : Wd ys) (ha : Apart g a) (hM : t + n + 1 ≤ M) (hM2 : M ≤ 35184372088832) (hv : val ss < 4294967296 ^ (t + n + 1)) :
    Calls Tryz.prog 244 #[.slice (some ⟨g, t, none⟩) (n + 1) C, .slice a n c] w fun e w' => ∃ (b : Nat) (ss' : List Int), b ≤ 1 ∧ e = .returned (.bool (decide (b = 1))) ∧
      Own W w' (.slice (some ⟨g, 0, none⟩) M M) M ss' ∧ Wd ss' ∧ But g w w' ∧ val ss' < 4294967296 ^ (t + n + 1) ∧ val ss' + b * 4294967296 ^ (t + n + 1) = val ss + val ys * 4294967296 ^ t := by
  have hl : Hid (ys.length = n) := h.len
  have HV : Hid (val ss < 4294967296 ^ (t + n + 1)) := hv
  clear hv
  go_enter Tryz.func244, Tryz.ntmps244
  go_wp2
  go_loopw [5, 11] (fun cr i v => ∃ (k : Nat) (cy : Int) (rs : List Int), k ≤ n ∧ i = .int .i64 k ∧ cr = .int .u32 cy ∧ 0 ≤ cy ∧ cy ≤ 1 ∧ Own W v (.slice (some ⟨g, 0, none⟩) M M) M rs ∧ Wd rs ∧ But g w v ∧ rs.drop (t + n + 1) = ss.drop (t + n + 1) ∧ val rs + cy.toNat * 4294967296 ^ (t + k) = val ss + val (ys.take k) * 4294967296 ^ t) (fun _ i _ => n - (intOf i).toNat)
  case atStart => exact ⟨0, 0, ss, by omega, rfl, rfl, by omega, by omega, o, wS, But.refl _ _, rfl, by simp [val]⟩
  case round =>
    obtain ⟨k, cy, rs, hk, rfl, rfl, c0, c1, o, wR, hB, hD, hI⟩ := hrel
    have HI : Hid (val rs + cy.toNat * 4294967296 ^ (t + k) = val ss + val (ys.take k) * 4294967296 ^ t) := hI
    have HD : Hid (rs.drop (t + n + 1) = ss.drop (t + n + 1)) := hD
    clear hI hD
    have hrl := o.length
    by_cases hlt : k < n
    · have EQ : Hid (val (ys.take (k + 1)) = val (ys.take k) + (ys.getD k 0).toNat * 4294967296 ^ k) := val_take_succ ys k
      obtain ⟨z0, z1⟩ := wd_getD hz k
      rcases (h.but ha hB).reads.1.2 with h0 | ⟨b, off, rfl, hcz⟩
      · omega
      have hck := hcz k hlt
      have ES := fun y => val_set rs (t + k) y (by omega)
      have DS := fun y => drop_set (rs := rs) (k := t + k) (T := t + n + 1) y (by omega)
      obtain ⟨y0, y1⟩ := wd_getD wR (t + k)
      generalize ys.getD k 0 = z at hck EQ z0 z1
      have oc := fun v (ov : Own W v (.slice (some ⟨g, 0, none⟩) M M) M rs) => ov.cell (t + k) (by omega)
      generalize rs.getD (t + k) 0 = s at oc ES y0 y1
      have AC := fun v => limb_add s z cy v y0 y1 z0 z1 c0 (by omega)
      have HZ : Hid (((s + z + cy) % 4294967296).toNat + 4294967296 * ((s + z + cy) / 4294967296).toNat = s.toNat + z.toNat + cy.toNat ∧ 0 ≤ (s + z + cy) / 4294967296 ∧ (s + z + cy) / 4294967296 ≤ 1 ∧ 0 ≤ (s + z + cy) % 4294967296 ∧ (s + z + cy) % 4294967296 < 4294967296) :=
        ⟨by omega, by omega, by omega, by omega, by omega⟩
      generalize (s + z + cy) % 4294967296 = s2 at AC HZ
      generalize (s + z + cy) / 4294967296 = cq at AC HZ
      have HN : Hid (val (rs.set (t + k) s2) + cq.toNat * 4294967296 ^ (t + (k + 1)) = val ss + val (ys.take (k + 1)) * 4294967296 ^ t) := by
        show _ = _
        rw [EQ.out, ← Nat.add_assoc, Nat.pow_succ]
        exact back_step (Nat.pow_add _ _ _) (ES s2) HI.out HZ.out.1
      have WN : Wd (rs.set (t + k) s2) := wd_set wR (t + k) HZ.out.2.2.2.1 HZ.out.2.2.2.2
      have DN : Hid ((rs.set (t + k) s2).drop (t + n + 1) = ss.drop (t + n + 1)) := (DS s2).trans HD.out
      obtain ⟨hc0, hf0, -, -⟩ := oc _ o
      clear EQ HI ES DS wR hz hcz HV hl h hrl wS HD
      go_wp2_with (first
        | (go_at_call 252; with_reducible refine Calls.mono (AC _) ?_; rintro e w4 ⟨rfl, b4⟩; have o4 := o.more b4; obtain ⟨hc4, hf4, -, -⟩ := oc _ o4))
      go_roundw
      case rel => exact ⟨k + 1, cq, rs.set (t + k) s2, by omega, by go_num, rfl, HZ.out.2.1, HZ.out.2.2.1, o4.set (t + k) s2, WN, (hB.more b4).set _ _, DN.out, HN.out⟩
      case measure => simp [intOf]; omega
    · obtain ⟨y0, y1⟩ := wd_getD wR (t + n)
      have HI' : Hid (val rs + cy.toNat * 4294967296 ^ (t + n) = val ss + val ys * 4294967296 ^ t) := by
        have h1 := HI.out
        have h2 := hl.out
        rw [show k = n by omega, List.take_of_length_le (by omega)] at h1
        exact h1
      have ES := fun y => val_set rs (t + n) y (by omega)
      have DS := fun y => drop_set (rs := rs) (k := t + n) (T := t + n + 1) y (by omega)
      have oc := fun v (ov : Own W v (.slice (some ⟨g, 0, none⟩) M M) M rs) => ov.cell (t + n) (by omega)
      generalize rs.getD (t + n) 0 = s at oc ES y0 y1
      have AC := fun v => limb_add s 0 cy v y0 y1 (by omega) (by omega) c0 (by omega)
      have HZ : Hid (((s + 0 + cy) % 4294967296).toNat + 4294967296 * ((s + 0 + cy) / 4294967296).toNat = s.toNat + cy.toNat ∧ 0 ≤ (s + 0 + cy) / 4294967296 ∧ (s + 0 + cy) / 4294967296 ≤ 1 ∧ 0 ≤ (s + 0 + cy) % 4294967296 ∧ (s + 0 + cy) % 4294967296 < 4294967296) :=
        ⟨by omega, by omega, by omega, by omega, by omega⟩
      generalize (s + 0 + cy) % 4294967296 = s2 at AC HZ
      generalize (s + 0 + cy) / 4294967296 = b2 at AC HZ
      have HN : Hid (val (rs.set (t + n) s2) + b2.toNat * 4294967296 ^ (t + n + 1) = val ss + val ys * 4294967296 ^ t) := by
        show _ = _
        rw [Nat.pow_succ]
        exact back_last (ES s2) HI'.out HZ.out.1
      have WN : Wd (rs.set (t + n) s2) := wd_set wR (t + n) HZ.out.2.2.2.1 HZ.out.2.2.2.2
      have LN : Hid (val (rs.set (t + n) s2) < 4294967296 ^ (t + n + 1)) := val_lt_of_drop WN ((DS s2).trans HD.out) HV.out
      obtain ⟨hc0, hf0, -, -⟩ := oc _ o
      obtain ⟨p0, p1⟩ : 0 ≤ b2 ∧ b2 ≤ 1 := ⟨HZ.out.2.1, HZ.out.2.2.1⟩
      clear HI HI' ES DS wR hz HV hl h hrl wS HD HZ
      rcases (by omega : b2 = 0 ∨ b2 = 1) with rfl | rfl
      all_goals
        go_wp2_with (first
          | (go_at_call 252; with_reducible refine Calls.mono (AC _) ?_; rintro e w4 ⟨rfl, b4⟩; have o4 := o.more b4; obtain ⟨hc4, hf4, -, -⟩ := oc _ o4))
        go_ret
        exact ⟨_, _, by decide, rfl, o4.set (t + n) s2, WN, (hB.more b4).set _ _, LN.out, HN.out⟩
end Go.Proofs.YtbcfplaalepnbaaGreatDoor
namespace Go.Proofs.YtbcfplaalepnbaaGreatDoor
open Go.RowKit
def AnsSmall (W : World) (Q : Nat) (R : Int) (e : Ending) (w' : World) : Prop := ∃ a c, e = .returned (.tuple #[.slice a (nl Q) c, .int .u32 R, .bool true]) ∧ Own W w' (.slice a (nl Q) c) (nl Q) (natOf Q)
theorem small_step {p Q Q' D R R' z q V : Nat} (hs : Q' + 0 * p = Q + q * p) (hi : Q * D + R * (p * 4294967296) = V) (hy : q * D + R' = R * 4294967296 + z) : Q' * D + R' * p = V + z * p := by
  have e : (q * D + R') * p = (R * 4294967296 + z) * p := by rw [hy]
  have e1 : R * (p * 4294967296) = R * 4294967296 * p := by rw [Nat.mul_comm p, Nat.mul_assoc]
  rw [show Q' = Q + q * p by omega, Nat.add_mul, Nat.mul_right_comm q p D, ← hi, e1]
  rw [Nat.add_mul, Nat.add_mul] at e
  omega
def Low0 (k : Nat) (qs : List Int) : Prop := ∀ j, j < k → qs.getD j 0 = 0
theorem low0_zeros (k L : Nat) : Low0 k (List.replicate L 0) := fun j _ => by
  rw [List.getD_eq_getElem?_getD, List.getElem?_replicate]; split <;> rfl
theorem ret_small {a : Option Addr} {n c : Nat} {R R' : Int} {r : Bool} (h : R = R') : Ending.returned (.tuple #[.slice a n c, .int .u32 R, .bool r]) = .returned (.tuple #[.slice a n c, .int .u32 R', .bool r]) := by rw [h]
set_option maxHeartbeats 2000000 in
theorem split_small (a : Option Addr) (n c : Nat) (zs : List Int) (d : Int) (w : World) (h : IsWords w (.slice a n c) zs) (hz : Wd zs) (hn : n ≤ 35184372088832) (d0 : 0 < d) (d1 : d < 4294967296) :
    Calls Tryz.prog 198 #[.slice a n c, .int .u32 d] w (AnsSmall w (val zs / d.toNat) ((val zs % d.toNat : Nat) : Int)) := by
  have R1 := split_right a n c zs w h hz
  have S1 := h.right hz
  have b1 := (h.low hz).2.2
  have wP := wd_natOf (val zs)
  have EV : Hid (val (natOf (val zs)) = val zs) := val_natOf (val zs)
  have hl : Hid ((natOf (val zs)).length = nl (val zs)) := rfl
  clear h hz
  generalize val zs = A at *
  generalize nl A = L at R1 S1 b1 hl
  generalize natOf A = ps at S1 wP EV hl
  have dne : d ≠ 0 := by omega
  go_enter Tryz.func198, Tryz.ntmps198
  go_wp2_with (first
    | (go_at_call 220; with_reducible refine Calls.mono R1 ?_; rintro e w1 ⟨rfl, rfl⟩)
    | (at_make; refine wpl_make_words (.tmp 13) rfl rfl w w L _ rfl (by omega) (by omega) (Below.refl _ _) ?_; intro g w1 hg o1))
  clear R1
  go_loopw [5, 7] (fun rr i v => ∃ (k : Nat) (R : Int) (qs : List Int), k ≤ L ∧ i = .int .i64 ((k : Int) - 1) ∧ rr = .int .u32 R ∧ 0 ≤ R ∧ R < d ∧ Own w v (.slice (some ⟨g, 0, none⟩) L L) L qs ∧ Wd qs ∧ Low0 k qs ∧ val qs * d.toNat + R.toNat * 4294967296 ^ k = 4294967296 ^ k * val (ps.drop k)) (fun _ i _ => (intOf i + 1).toNat)
  case atStart => exact ⟨L, 0, _, by omega, rfl, rfl, by omega, d0, o1, wd_zeros L, low0_zeros L L, by rw [val_zeros, List.drop_of_length_le (by rw [hl.out]; omega)]; simp [val]⟩
  case round =>
    obtain ⟨k, R, qs, hk, rfl, rfl, r0, r1, o, wQ, hL0, hI⟩ := hrel
    have HI : Hid (val qs * d.toNat + R.toNat * 4294967296 ^ k = 4294967296 ^ k * val (ps.drop k)) := hI
    have HL : Hid (Low0 k qs) := hL0
    clear hI hL0 o1
    have hql := o.length
    rcases Nat.eq_zero_or_pos k with hk0 | hk0
    · subst hk0
      rw [show ((0 : Nat) : Int) - 1 = -1 from rfl]
      have HS : val qs * d.toNat + R.toNat = A := by
        have h1 := HI.out
        rw [Nat.pow_zero, List.drop_zero, EV.out] at h1
        omega
      have hdt : (0 : Nat) < d.toNat := by omega
      have hRt : R.toNat < d.toNat := by omega
      have HQ : val qs = A / d.toNat := by
        rw [← HS, Nat.mul_comm, Nat.mul_add_div hdt, Nat.div_eq_of_lt hRt, Nat.add_zero]
      have HR : Hid (R = ((A % d.toNat : Nat) : Int)) := by
        show _ = _
        have : A % d.toNat = R.toNat := by rw [← HS, Nat.mul_comm, Nat.mul_add_mod, Nat.mod_eq_of_lt hRt]
        omega
      have R3 := split_right _ _ _ qs wr o.words wQ
      have OR := o.right wQ
      rw [HQ] at R3 OR
      clear HI HL o wQ hql HS HQ S1 EV hl wP
      go_wp2_with (first
        | (go_at_call 220; with_reducible refine Calls.mono R3 ?_; rintro e w1 ⟨rfl, rfl⟩))
      go_ret3
      exact ⟨_, _, ret_small HR.out, OR⟩
    · obtain ⟨t, rfl⟩ : ∃ t, k = t + 1 := ⟨k - 1, by omega⟩
      rw [show ((t + 1 : Nat) : Int) - 1 = t by omega]
      obtain ⟨z0, z1⟩ := wd_getD wP t
      rcases (S1.below o.below).reads.1.2 with h0 | ⟨b, off, rfl, hcz⟩
      · omega
      have hck := hcz t (by omega)
      have DV : Hid (val (ps.drop t) = (ps.getD t 0).toNat + 4294967296 * val (ps.drop (t + 1))) := val_drop ps t
      generalize ps.getD t 0 = z at hck DV z0 z1
      have AC := limb_div R z d wr r0 r1 z0 z1 d1
      have HY : Hid ((((R * 4294967296 + z) / d).toNat * d.toNat + ((R * 4294967296 + z) % d).toNat = R.toNat * 4294967296 + z.toNat) ∧ 0 ≤ (R * 4294967296 + z) / d ∧ (R * 4294967296 + z) / d < 4294967296 ∧ 0 ≤ (R * 4294967296 + z) % d ∧ (R * 4294967296 + z) % d < d) := by
        have q0 : 0 ≤ (R * 4294967296 + z) / d := Int.ediv_nonneg (by omega) (by omega)
        have q1 : (R * 4294967296 + z) / d < 4294967296 := Int.ediv_lt_of_lt_mul (by omega) (by omega)
        have r0' : 0 ≤ (R * 4294967296 + z) % d := Int.emod_nonneg _ (by omega)
        have r1' : (R * 4294967296 + z) % d < d := Int.emod_lt_of_pos _ (by omega)
        refine ⟨?_, q0, q1, r0', r1'⟩
        have h1 := Int.ediv_mul_add_emod (R * 4294967296 + z) d
        have h2 : ((R * 4294967296 + z) / d * d).toNat = ((R * 4294967296 + z) / d).toNat * d.toNat := Int.toNat_mul q0 (by omega)
        have h3 : 0 ≤ (R * 4294967296 + z) / d * d := Int.mul_nonneg q0 (by omega)
        rw [← h2]
        omega
      generalize (R * 4294967296 + z) / d = y at AC HY
      generalize (R * 4294967296 + z) % d = R2 at AC HY
      have ES := val_set qs t y (by omega)
      rw [HL.out t (by omega)] at ES
      have HN : Hid (val (qs.set t y) * d.toNat + R2.toNat * 4294967296 ^ t = 4294967296 ^ t * val (ps.drop t)) := by
        show _ = _
        have h1 := HI.out
        rw [Nat.pow_succ] at h1
        have h2 := small_step (p := 4294967296 ^ t) ES h1 HY.out.1
        rw [h2, DV.out, Nat.mul_add, Nat.mul_comm z.toNat, Nat.mul_assoc, Nat.add_comm]
      have WN : Wd (qs.set t y) := wd_set wQ t HY.out.2.1 HY.out.2.2.1
      have LN : Low0 t (qs.set t y) := fun j hj => by
        rw [List.getD_eq_getElem?_getD, List.getElem?_set_ne (by omega), ← List.getD_eq_getElem?_getD]
        exact HL.out j (by omega)
      have H2 : 0 ≤ R2 ∧ R2 < d := HY.out.2.2.2
      have HH : Hid (Low0 t (qs.set t y)) := LN
      obtain ⟨hc0, hf0, -, -⟩ := o.cell t (by omega)
      clear DV HI ES wQ hcz hql HY LN HL EV hl S1 wP
      go_wp2_with (first
        | (go_at_call 221; with_reducible refine Calls.mono AC ?_; rintro e w4 ⟨rfl, b4⟩; have o4 := o.more b4; obtain ⟨hc4, hf4, -, -⟩ := o4.cell t (by omega)))
      go_roundw
      case rel => exact ⟨t, R2, qs.set t y, by omega, rfl, rfl, H2.1, H2.2, o4.set t y, WN, HH.out, HN.out⟩
      case measure => simp [intOf]
end Go.Proofs.YtbcfplaalepnbaaGreatDoor
namespace Go.Proofs.YtbcfplaalepnbaaGreatDoor
open Go.RowKit
theorem guess_le {ss ys : List Int} {t n : Nat} {h1 h0 b1 : Int} (hs : Wd ss) (hb : 0 < b1) (e1 : ss.getD (t + n + 1) 0 = h1) (e0 : ss.getD (t + n) 0 = h0) (eb : ys.getD n 0 = b1) (hl : ys.length = n + 1) (hv : val ss < 4294967296 ^ (t + (n + 1) + 1))
    (q : Nat) (hq : q * val ys * 4294967296 ^ t ≤ val ss) : (q : Int) ≤ (h1 * 4294967296 + h0) / b1 := by
  have w1 := wd_getD hs (t + n + 1)
  have w0 := wd_getD hs (t + n)
  rw [e1] at w1
  rw [e0] at w0
  have s1 : val ss = val (ss.take (t + n)) + (h0.toNat + 4294967296 * h1.toNat) * 4294967296 ^ (t + n) := by
    have a1 := val_take_all ss (t + n + 1 + 1) (by rw [show t + n + 1 + 1 = t + (n + 1) + 1 by omega]; exact hv)
    rw [val_take_succ, val_take_succ, e1, e0, Nat.pow_succ] at a1
    rw [← a1, Nat.add_mul, Nat.mul_comm (4294967296 ^ (t + n)), ← Nat.mul_assoc, Nat.mul_comm h1.toNat]
    omega
  have s2 := val_take_lt ss hs (t + n)
  have s3 : b1.toNat * 4294967296 ^ n ≤ val ys := by
    have a1 : ys.take (n + 1) = ys := List.take_of_length_le (by omega)
    have a2 := val_take_succ ys n
    rw [a1, eb] at a2
    omega
  have s4 : q * b1.toNat * 4294967296 ^ (t + n) ≤ val ss := by
    refine Nat.le_trans ?_ hq
    rw [Nat.pow_add, Nat.mul_comm (4294967296 ^ t), ← Nat.mul_assoc, Nat.mul_assoc q]
    exact Nat.mul_le_mul_right _ (Nat.mul_le_mul_left _ s3)
  have s5 : q * b1.toNat * 4294967296 ^ (t + n) < (h0.toNat + 4294967296 * h1.toNat + 1) * 4294967296 ^ (t + n) := by
    rw [Nat.add_mul (h0.toNat + 4294967296 * h1.toNat) 1]
    omega
  have s6 := Nat.lt_of_mul_lt_mul_right s5
  rw [Int.le_ediv_iff_mul_le hb]
  have s7 : (q : Int) * b1 = ((q * b1.toNat : Nat) : Int) := by
    rw [Int.natCast_mul, Int.toNat_of_nonneg (by omega)]
  rw [s7]
  omega
section
attribute [local go_sem ↓] Go.wp_at_zero Go.wp_at_succ
set_option maxHeartbeats 2000000 in
theorem split_guess (W : World) (g M t n N c C : Nat) (ss : List Int) (a : Option Addr) (ys : List Int) (w : World) (o : Own W w (.slice (some ⟨g, 0, none⟩) M M) M ss) (wS : Wd ss)
    (h : IsWords w (.slice a N c) ys) (hz : Wd ys) (hN : N = n + 1) (hM : t + N + 1 ≤ M) (hM2 : M ≤ 35184372088832) (hv : val ss < 4294967296 ^ (t + N + 1)) (htop : ys.getD n 0 ≠ 0) :
    Calls Tryz.prog 242 #[.slice (some ⟨g, t, none⟩) (N + 1) C, .slice a N c] w fun e w' => ∃ G : Int, e = .returned (.int .u32 G) ∧ 0 ≤ G ∧ G < 4294967296 ∧ Below w.heap.size w w' ∧
      ∀ q : Nat, q < 4294967296 → q * val ys * 4294967296 ^ t ≤ val ss → (q : Int) ≤ G := by
  obtain ⟨z0, z1⟩ := wd_getD hz n
  have hG := fun h1 h0 b1 hb e1 e0 eb => guess_le (ss := ss) (ys := ys) (t := t) (n := n) (h1 := h1) (h0 := h0) (b1 := b1) wS hb e1 e0 eb (by rw [h.len, hN]) (by rw [← hN]; exact hv)
  have hc1 := (o.cell (t + N) (by omega)).1
  have hc0 := (o.cell (t + n) (by omega)).1
  obtain ⟨x0, x1⟩ := wd_getD wS (t + N)
  obtain ⟨y0, y1⟩ := wd_getD wS (t + n)
  rcases h.reads.1.2 with h0 | ⟨b, off, rfl, hcz⟩
  · omega
  have hcb := hcz n (by omega)
  clear hcz h hz hv wS o
  generalize ys.getD n 0 = bt at hcb hG z0 z1 htop
  have eN : t + n + 1 = t + N := by omega
  rw [eN] at hG
  generalize ss.getD (t + N) 0 = h1 at hc1 hG x0 x1
  generalize ss.getD (t + n) 0 = h0 at hc0 hG y0 y1
  have HG := hG _ _ _ (by omega) rfl rfl rfl
  clear hG
  have e1 : (N : Int) - 1 = n := by omega
  have n1 : n < N := by omega
  have n2 : N < N + 1 := by omega
  have n3 : n < N + 1 := by omega
  have n4 : n ≤ N := by omega
  have n5 : (n : Int) < (N : Int) + 1 := by omega
  have n7 : IntKind.i64.wrap (n : Int) = n := by rw [IntKind.wrap_i64]; omega
  clear hN eN
  have D1 : w.drew.cell? ⟨g, t + N, none⟩ = some (.int .u32 h1) := hc1
  have D0 : w.drew.cell? ⟨g, t + n, none⟩ = some (.int .u32 h0) := hc0
  have DB : w.drew.cell? ⟨b, off + n, none⟩ = some (.int .u32 bt) := hcb
  have AC : Calls Tryz.prog 221 #[.int .u32 h1, .int .u32 h0, .int .u32 bt] w.drew fun e w' => ∃ (G R : Int) (ok : Bool), e = .returned (.tuple #[.int .u32 G, .int .u32 R, .bool ok]) ∧ Below w.heap.size w w' ∧
      (ok = false ∨ ok = true ∧ 0 ≤ G ∧ G < 4294967296 ∧ Hid (∀ q : Nat, q * val ys * 4294967296 ^ t ≤ val ss → (q : Int) ≤ G)) := by
    by_cases hlt : h1 < bt
    · have q0 : 0 ≤ (h1 * 4294967296 + h0) / bt := Int.ediv_nonneg (by omega) (by omega)
      have q1 : (h1 * 4294967296 + h0) / bt < 4294967296 := Int.ediv_lt_of_lt_mul (by omega) (by omega)
      refine (limb_div h1 h0 bt w.drew x0 hlt y0 y1 z1).mono ?_
      rintro e w3 ⟨rfl, b3⟩
      exact ⟨_, _, _, rfl, (Below.refl _ w).drew.trans b3, .inr ⟨rfl, q0, q1, HG⟩⟩
    · refine (limb_div_no h1 h0 bt w.drew (by omega)).mono ?_
      rintro e w3 ⟨rfl, b3⟩
      exact ⟨_, _, _, rfl, (Below.refl _ w).drew.trans b3, .inl rfl⟩
  clear HG hc0 hc1 hcb
  go_enter Tryz.func242, Tryz.ntmps242
  go_wp2
  go_region_with (first
    | (go_at_call 221; with_reducible refine Calls.mono AC ?_; rintro e w3 ⟨G, R, ok, rfl, b3, hok⟩))
  all_goals
    rcases hok with rfl | ⟨rfl, q0, q1, HH⟩
    · go_wp2
      go_ret
      exact ⟨4294967295, rfl, by omega, by omega, b3, fun q hq _ => by omega⟩
    · go_wp2
      go_ret
      exact ⟨G, rfl, q0, q1, b3, fun q _ hq => HH.out q hq⟩
end
end Go.Proofs.YtbcfplaalepnbaaGreatDoor
namespace Go.Proofs.YtbcfplaalepnbaaGreatDoor
open Go.RowKit
theorem take_first {S S1 d e b P Y q V : Nat} (hS : S = d * (Y * q) + V) (hV : V < Y * q) (h1 : S1 < P) (hb : b ≤ 1) (h : S1 + Y * (d + e) * q = S + b * P) :
    e = 0 ∧ b = 0 ∧ S1 = V ∨ 0 < e ∧ b = 1 ∧ S1 + e * (Y * q) = V + P := by
  have e1 : Y * (d + e) * q = d * (Y * q) + e * (Y * q) := by rw [Nat.mul_comm Y, Nat.mul_assoc, Nat.add_mul]
  rw [e1, hS] at h
  rcases Nat.eq_zero_or_pos e with rfl | he
  · rcases (by omega : b = 0 ∨ b = 1) with rfl | rfl
    · exact .inl ⟨rfl, rfl, by omega⟩
    · omega
  · have h2 : 1 * (Y * q) ≤ e * (Y * q) := Nat.mul_le_mul_right _ he
    rcases (by omega : b = 0 ∨ b = 1) with rfl | rfl
    · omega
    · exact .inr ⟨he, rfl, by omega⟩
theorem back_first {S1 S2 e b P p V : Nat} (hV : V < p) (h1 : S1 + (e + 1) * p = V + P) (h2 : S2 + b * P = S1 + p) (hb : b ≤ 1) (h3 : S2 < P) :
    e = 0 ∧ b = 1 ∧ S2 = V ∨ 0 < e ∧ b = 0 ∧ S2 + e * p = V + P := by
  rw [Nat.add_mul, Nat.one_mul] at h1
  rcases Nat.eq_zero_or_pos e with rfl | he
  · rcases (by omega : b = 0 ∨ b = 1) with rfl | rfl
    · omega
    · exact .inl ⟨rfl, rfl, by omega⟩
  · have h2 : 1 * p ≤ e * p := Nat.mul_le_mul_right _ he
    rcases (by omega : b = 0 ∨ b = 1) with rfl | rfl
    · exact .inr ⟨he, rfl, by omega⟩
    · omega
theorem digits_end {A S Y Q R : Nat} (h : A * Y + S = Q * Y + R) (hS : S < Y) (hR : R < Y) : A = Q ∧ S = R := by
  have h1 : (Y * A + S) / Y = (Y * Q + R) / Y := by rw [Nat.mul_comm Y A, Nat.mul_comm Y Q, h]
  rw [Nat.mul_add_div (by omega), Nat.mul_add_div (by omega), Nat.div_eq_of_lt hS, Nat.div_eq_of_lt hR] at h1
  have h2 : A = Q := by omega
  subst h2
  exact ⟨rfl, by omega⟩
theorem getD_top (Y n : Nat) (h : nl Y = n + 1) : (natOf Y).getD n 0 ≠ 0 := by
  have h1 := right_nat Y
  have h2 := lowN_top (natOf Y) (nl Y)
  rw [h1] at h2
  rcases h2 with h2 | h2
  · omega
  · rw [h] at h2; exact h2
theorem IsWords.block {w : World} {a : Option Addr} {n c : Nat} {zs : List Int} (h : IsWords w (.slice a n c) zs) (hn : 0 < n) (x : Addr) (hx : a = some x) : x.block < w.heap.size := by
  rcases h with ⟨e, -⟩ | ⟨y, cap, e, -, -, hc⟩
  · simp only [Value.slice.injEq] at e; omega
  · simp only [Value.slice.injEq] at e
    have h0 := World.block_lt_of_cell? w _ (hc 0 (by omega))
    rw [add_block] at h0
    have : y = x := by have := e.1; rw [hx] at this; simpa using this.symm
    rw [← this]; exact h0
set_option maxHeartbeats 4000000 in
theorem split_digits (W : World) (g M n N L c : Nat) (ss : List Int) (a : Option Addr) (ys : List Int) (Q R : Nat) (w : World) (o : Own W w (.slice (some ⟨g, 0, none⟩) M M) M ss) (wS : Wd ss)
    (h : IsWords w (.slice a N c) ys) (hz : Wd ys) (ha : Apart g a) (hn : N = n + 1) (htop : ys.getD n 0 ≠ 0) (hM : M = L + N) (hL : 0 < L) (hM2 : M ≤ 35184372088832) (hv : val ss = Q * val ys + R) (hR : R < val ys) (hQ : Q < 4294967296 ^ L) :
    Calls Tryz.prog 231 #[.slice (some ⟨g, 0, none⟩) M M, .slice a N c] w fun e w' => ∃ (a1 : Option Addr) (c1 : Nat) (ss' : List Int), e = .returned (.slice a1 (nl Q) c1) ∧ Own W w' (.slice a1 (nl Q) c1) (nl Q) (natOf Q) ∧
      Own W w' (.slice (some ⟨g, 0, none⟩) M M) M ss' ∧ Wd ss' ∧ val ss' = R := by
  have hgl : g < w.heap.size := (o.cell 0 (by omega)).2.2.2
  have hgW : W.heap.size ≤ g := (o.cell 0 (by omega)).2.2.1
  have hbl := h.block (by omega)
  have hYB : val ys < 4294967296 ^ N := by have := val_lt ys hz; rw [h.len] at this; exact this
  have HN : Hid (N = n + 1) := hn
  have n1 : 1 ≤ N := by omega
  have m1 : L + N ≤ M := by omega
  have m2 : M ≤ L + N := by omega
  have HV : Hid (val ss = Q * val ys + R) := hv
  have HR : Hid (R < val ys) := hR
  have HS : Hid (val ss < val ys * 4294967296 ^ L) := by
    show _ < _
    have h1 : (Q + 1) * val ys ≤ 4294967296 ^ L * val ys := Nat.mul_le_mul_right _ hQ
    rw [Nat.add_mul, Nat.one_mul, Nat.mul_comm (4294967296 ^ L)] at h1
    omega
  have HTOP : Hid (ys.getD n 0 ≠ 0) := htop
  have HYB : Hid (val ys < 4294967296 ^ N) := hYB
  clear hn hv hR hM htop hYB hQ
  have eL : (M : Int) - N = L := by omega
  go_enter Tryz.func231, Tryz.ntmps231
  go_wp2
  go_step3
  go_wp2_with (first
    | (at_make; refine wpl_make_words (.tmp 14) rfl rfl w w L _ rfl (by omega) (by omega) (Below.refl _ _) ?_; intro gq w1 hgq o1))
  clear eL
  have hne : g ≠ gq := by omega
  have hAq : Apart gq a := fun x hx => by have := hbl x hx; omega
  have hBq : Apart g (some ⟨gq, 0, none⟩) := fun x hx => by simp only [Option.some.injEq] at hx; rw [← hx]; exact fun e => hne e.symm
  have hCq : Apart gq (some ⟨g, 0, none⟩) := fun x hx => by simp only [Option.some.injEq] at hx; rw [← hx]; exact hne
  have hgq2 : W.heap.size ≤ gq := by have := o.below.size; omega
  have p1 := o.more o1.below
  have q1 := o1.outer o.below
  have h1 := h.below o1.below
  clear o h hbl hgl
  go_step3
  go_wp2
  clear o1
  go_loopg [6] L (fun k i v => ∃ (rs qs : List Int), k ≤ L ∧ i = .int .i64 ((k : Int) - 1) ∧ Own W v (.slice (some ⟨g, 0, none⟩) M M) M rs ∧ Wd rs ∧ Own W v (.slice (some ⟨gq, 0, none⟩) L L) L qs ∧ Wd qs ∧ IsWords v (.slice a N c) ys ∧ Low0 k qs ∧ val rs < val ys * 4294967296 ^ k ∧ val qs * val ys + val rs = Q * val ys + R)
  case atStart => exact ⟨ss, _, by omega, rfl, p1, wS, q1, wd_zeros L, h1, low0_zeros L L, HS.out, by rw [val_zeros, Nat.zero_mul, Nat.zero_add]; exact HV.out⟩
  case round =>
    obtain ⟨rs, qs, hk, rfl, oR, wR, oQ, wQ, hY, hL0, hlt, hI⟩ := hrel
    have HI : Hid (val qs * val ys + val rs = Q * val ys + R) := hI
    have HL : Hid (Low0 gk qs) := hL0
    have HLT : Hid (val rs < val ys * 4294967296 ^ gk) := hlt
    clear hI hL0 hlt p1 q1 h1
    have hql := oQ.length
    cases gk with
    | zero =>
      rw [show ((0 : Nat) : Int) - 1 = -1 from rfl]
      have HE : val qs = Q ∧ val rs = R := digits_end HI.out (by have := HLT.out; simpa using this) HR.out
      have R3 := split_right _ _ _ qs wr oQ.words wQ
      have OR := oQ.right wQ
      rw [HE.1] at R3 OR
      have HE2 : Hid (val rs = R) := HE.2
      clear HE HI HL HLT HV HS HR HTOP HYB
      go_wp2_with (first
        | (go_at_call 220; with_reducible refine Calls.mono R3 ?_; rintro e w2 ⟨rfl, rfl⟩))
      try rw [Exit.noGoto_ret]
      go_ret
      exact ⟨_, _, rs, rfl, OR, oR, wR, HE2.out⟩
    | succ t =>
      rw [show ((t + 1 : Nat) : Int) - 1 = t by omega]
      have hYpos : 0 < val ys := by have := HR.out; omega
      have hp : 0 < val ys * 4294967296 ^ t := Nat.mul_pos hYpos (Nat.pow_pos (by omega))
      obtain ⟨d, V, HD, HVd, hd⟩ : ∃ d V : Nat, Hid (val rs = d * (val ys * 4294967296 ^ t) + V) ∧ Hid (V < val ys * 4294967296 ^ t) ∧ Hid (d < 4294967296) := by
        refine ⟨val rs / (val ys * 4294967296 ^ t), val rs % (val ys * 4294967296 ^ t), ?_, Nat.mod_lt _ hp, ?_⟩
        · show _ = _
          rw [Nat.mul_comm]; exact (Nat.div_add_mod _ _).symm
        · show _ < _
          rw [Nat.div_lt_iff_lt_mul hp]
          have := HLT.out
          rw [Nat.pow_succ] at this
          rw [Nat.mul_comm 4294967296, Nat.mul_assoc]; exact this
      have HF : Hid (val rs < 4294967296 ^ (t + N + 1)) := by
        show _ < _
        have h1 := HLT.out
        have h2 : val ys * 4294967296 ^ (t + 1) ≤ 4294967296 ^ N * 4294967296 ^ (t + 1) := Nat.mul_le_mul_right _ (Nat.le_of_lt HYB.out)
        rw [show t + N + 1 = N + (t + 1) by omega, Nat.pow_add]
        omega
      have GS := fun v C (oo : Own W v (.slice (some ⟨g, 0, none⟩) M M) M rs) (hy : IsWords v (.slice a N c) ys) => split_guess W g M t n N c C rs a ys v oo wR hy hz HN.out (by omega) hM2 HF.out HTOP.out
      have TK := fun v C (G : Int) (g0 : 0 ≤ G) (g1 : G < 4294967296) (oo : Own W v (.slice (some ⟨g, 0, none⟩) M M) M rs) (hy : IsWords v (.slice a N c) ys) => split_take W g M t N c C rs a ys G v oo wR hy hz ha g0 g1 (by omega) hM2 HF.out
      have BK := fun v C rs' (wR' : Wd rs') (hf : val rs' < 4294967296 ^ (t + N + 1)) (oo : Own W v (.slice (some ⟨g, 0, none⟩) M M) M rs') (hy : IsWords v (.slice a N c) ys) => split_back W g M t N c C rs' a ys v oo wR' hy hz ha (by omega) hM2 hf
      have e3 : t + N + 1 - t = N + 1 := by omega
      have htL : t < L := by omega
      have htM : t + N + 1 ≤ M := by omega
      have HDG : Hid (d * val ys * 4294967296 ^ t ≤ val rs) := by
        show _ ≤ _
        rw [HD.out, Nat.mul_assoc]; omega
      clear HLT HF HTOP HYB HS hYpos hp
      go_wp2_with (first
        | (go_at_call 242; (with_reducible refine Calls.mono (GS _ _ oR hY) ?_); rintro e w3 ⟨G, rfl, g0, g1, b3, hG⟩; have oR3 := oR.more b3; have oQ3 := oQ.more b3; have hY3 := hY.below b3; have HG : Hid ((d : Int) ≤ G) := hG d hd.out HDG.out; clear hG GS)
        | (go_at_call 243; (with_reducible refine Calls.mono (TK _ _ G g0 g1 oR3 hY3) ?_); rintro e w4 ⟨b, rs4, hb, rfl, oR4, wR4, bt4, l4, E4⟩; have oQ4 := oQ3.but hBq bt4 oR4.below; have hY4 := hY3.but ha bt4; clear TK))
      clear e3
      obtain ⟨e, HE⟩ : ∃ e : Nat, Hid (G.toNat = d + e) := ⟨G.toNat - d, by show _ = _; have := HG.out; omega⟩
      have HT := take_first (e := e) HD.out HVd.out l4 hb (by have := E4; rw [HE.out] at this; exact this)
      clear E4 oR oQ hY oR3 oQ3 hY3 HG
      go_loopg [8, 9] e (fun k s8 s9 v => ∃ (G2 : Int) (x : Bool) (rs5 : List Int), s8 = .int .u32 G2 ∧ s9 = .bool x ∧ 0 ≤ G2 ∧ G2 < 4294967296 ∧ G2.toNat = d + k ∧ Own W v (.slice (some ⟨g, 0, none⟩) M M) M rs5 ∧ Wd rs5 ∧ Own W v (.slice (some ⟨gq, 0, none⟩) L L) L qs ∧ IsWords v (.slice a N c) ys ∧ val rs5 < 4294967296 ^ (t + N + 1) ∧ (k = 0 ∧ x = false ∧ val rs5 = V ∨ 0 < k ∧ x = true ∧ val rs5 + k * (val ys * 4294967296 ^ t) = V + 4294967296 ^ (t + N + 1)))
      case atStart =>
        refine ⟨G, _, rs4, rfl, rfl, g0, g1, HE.out, oR4, wR4, oQ4, hY4, l4, ?_⟩
        rcases HT with ⟨h1, rfl, h3⟩ | ⟨h1, rfl, h3⟩
        · exact .inl ⟨h1, rfl, h3⟩
        · exact .inr ⟨h1, rfl, h3⟩
      case round =>
        obtain ⟨G2, x, rs5, rfl, rfl, p0, p1, hGk, oR5, wR5, oQ5, hY5, l5, hx⟩ := hrel
        have HGK : Hid (G2.toNat = d + gk) := hGk
        have HL5 : Hid (val rs5 < 4294967296 ^ (t + N + 1)) := l5
        clear hGk l5 HT oR4 oQ4 hY4 l4
        cases gk with
        | zero =>
          obtain ⟨rfl, HX⟩ : x = false ∧ Hid (val rs5 = V) := by
            rcases hx with ⟨-, h1, h2⟩ | ⟨h1, -⟩
            · exact ⟨h1, h2⟩
            · omega
          clear hx BK
          obtain ⟨hc, hf, -, -⟩ := oQ5.cell t htL
          have ES := val_set qs t G2 (by omega)
          rw [HL.out t (by omega)] at ES
          have HN2 : Hid (val (qs.set t G2) * val ys + val rs5 = Q * val ys + R) := by
            show _ = _
            have h1 := HI.out
            have h2 := HGK.out
            rw [HD.out] at h1
            rw [← h1, HX.out, show val (qs.set t G2) = val qs + d * 4294967296 ^ t by rw [h2] at ES; simpa using ES, Nat.add_mul, Nat.mul_assoc d, Nat.mul_comm (4294967296 ^ t)]
            omega
          have WN : Wd (qs.set t G2) := wd_set wQ t p0 p1
          have LN : Hid (Low0 t (qs.set t G2)) := fun j hj => by
            rw [List.getD_eq_getElem?_getD, List.getElem?_set_ne (by omega), ← List.getD_eq_getElem?_getD]
            exact HL.out j (by omega)
          have HLN : Hid (val rs5 < val ys * 4294967296 ^ t) := by show _ < _; rw [HX.out]; exact HVd.out
          have bq := (But.refl gq wr).set t (.int .u32 G2)
          have oQ6 := oQ5.set t G2
          have oR6 := oR5.but hCq bq oQ6.below
          have hY6 := hY5.but hAq bq
          clear ES HI HL HX HD HGK wQ
          go_wp2
          go_roundg t
          case measure => omega
          case rel => exact ⟨rs5, _, by omega, by go_num, oR6, wR5, oQ6, WN, hY6, LN.out, HLN.out, HN2.out⟩
        | succ k =>
          obtain ⟨rfl, HX⟩ : x = true ∧ Hid (val rs5 + (k + 1) * (val ys * 4294967296 ^ t) = V + 4294967296 ^ (t + N + 1)) := by
            rcases hx with ⟨h1, -⟩ | ⟨-, h1, h2⟩
            · omega
            · exact ⟨h1, h2⟩
          have BK5 := fun C => BK _ C rs5 wR5 HL5.out oR5 hY5
          have HG1 : 1 ≤ G2 := by have := HGK.out; omega
          clear hx BK
          go_wp2_with (first
            | (go_at_call 244; (with_reducible refine Calls.mono (BK5 _) ?_); rintro e w6 ⟨b6, rs6, hb6, rfl, oR6, wR6, bt6, l6, E6⟩; have oQ6 := oQ5.but hBq bt6 oR6.below; have hY6 := hY5.but ha bt6; clear BK5))
          go_roundg k
          case measure => omega
          case rel =>
            have HB := back_first HVd.out HX.out E6 hb6 l6
            refine ⟨G2 - 1, _, rs6, by go_num, rfl, by omega, by omega, by have := HGK.out; omega, oR6, wR6, oQ6, hY6, l6, ?_⟩
            rcases HB with ⟨h1, rfl, h3⟩ | ⟨h1, rfl, h3⟩
            · exact .inl ⟨h1, rfl, h3⟩
            · exact .inr ⟨h1, rfl, h3⟩
end Go.Proofs.YtbcfplaalepnbaaGreatDoor
namespace Go.Proofs.YtbcfplaalepnbaaGreatDoor
open Go.RowKit
attribute [local go_sem ↓] Go.wp_at_zero Go.wp_at_succ
theorem times_cut' (g M t n : Nat) (T : Int) (w : World) (hT : T = t) (h : t + n + 1 ≤ M) (hM : M ≤ 35184372088832) :
    Calls Tryz.prog 193 #[.slice (some ⟨g, 0, none⟩) M M, .int .i64 T, .int .i64 n] w fun e w' => e = .returned (.slice (some ⟨g, t, none⟩) (n + 1) (n + 1)) ∧ w = w' := by
  subst hT; exact times_cut g M t n w h hM
set_option maxHeartbeats 2000000 in
/-- N is the number of bits that counts. -/
theorem times_shift (a : Option Addr) (n c : Nat) (zs : List Int) (s : Int) (w : World) (h : IsWords w (.slice a n c) zs) (hz : Wd zs) (hn : n ≤ 1000000000000) (N : Int) (hN : s ≤ 0 ∧ N = 0 ∨ 0 ≤ s ∧ s ≤ 100000 ∧ N = s ∨ 100000 ≤ s ∧ N = 100000) :
    Calls Tryz.prog 230 #[.slice a n c, .int .i64 s] w (Ans w (val zs * 2 ^ N.toNat)) := by
  have R1 := times_right a n c zs w h hz
  have S1 := h.right hz
  have b1 := (h.low hz).2.2
  have hv := lt_nl (val zs)
  have wP := wd_natOf (val zs)
  have EV : Hid (val (natOf (val zs)) = val zs) := val_natOf (val zs)
  clear h hz
  generalize val zs = A at *
  generalize nl A = L at R1 S1 b1 hv
  generalize natOf A = ps at S1 wP EV
  have HV : Hid (A < 4294967296 ^ L) := hv
  clear hv
  obtain ⟨p, hp1, hp2⟩ : ∃ p : Nat, (p : Int) ≤ N / 32 ∧ N / 32 ≤ p := ⟨(N / 32).toNat, by omega, by omega⟩
  obtain ⟨r, hr1, hr2⟩ : ∃ r : Nat, (r : Int) ≤ N % 32 ∧ N % 32 ≤ r := ⟨(N % 32).toNat, by omega, by omega⟩
  obtain ⟨M, hM1, hM2⟩ : ∃ M : Nat, M ≤ p + L + 1 ∧ p + L + 1 ≤ M := ⟨_, Nat.le_refl _, Nat.le_refl _⟩
  have r32 : r < 32 := by omega
  have X1 : 2 ^ r < 4294967296 := Nat.pow_lt_pow_right (n := 32) (a := 2) (by omega) r32
  have HE : Hid (A * 2 ^ r * 4294967296 ^ p = A * 2 ^ N.toNat) := by
    show _ = _
    rw [pow_word, Nat.mul_assoc, ← Nat.pow_add]
    congr 2; omega
  have HF : Hid (A * 2 ^ r * 4294967296 ^ p < 4294967296 ^ (p + L + 1)) := by
    have h1 := one_fits (n := L) HV.out X1 (c := 0) (by omega)
    rw [Nat.zero_add] at h1
    rw [show p + L + 1 = (L + 1) + p by omega, Nat.pow_add _ (L + 1) p]
    exact Nat.mul_lt_mul_of_pos_right h1 (Nat.pow_pos (by omega))
  have CT := fun (T : Int) (hT : T = p) g v => times_cut' g M p L T v hT (by omega) (by omega)
  have K := fun g v (X : Int) (hX : X = (2 ^ r : Nat)) (o : Own w v (.slice (some ⟨g, 0, none⟩) M M) M (List.replicate M 0)) => times_line w g M p L c _ a ps X v o (wd_zeros M) S1 wP (by rw [hX]; exact Int.natCast_nonneg _) (by rw [hX]; exact Int.ofNat_lt.2 X1) (by omega) (by omega) (by rw [val_zeros, EV.out, hX, Int.toNat_natCast, Nat.zero_add]; exact HF.out)
  have RR := fun g v (rs : List Int) (o : Own w v (.slice (some ⟨g, 0, none⟩) M M) M rs) (hr : Wd rs) => times_right _ _ _ rs v o.words hr
  rcases (by omega : s < 0 ∧ N = 0 ∨ 0 ≤ s ∧ s ≤ 100000 ∧ N = s ∨ 100000 < s ∧ N = 100000) with ⟨hs, hN⟩ | ⟨hs0, hs1, hN⟩ | ⟨hs, hN⟩
  case' inl => have XW : Hid (IntKind.u32.wrap 1 = (2 ^ r : Nat)) := by show _ = _; rw [show r = 0 by omega]; rfl
  case' inr.inl =>
    have ht : s.tmod 32 = r := by rw [Int.tmod_eq_emod_of_nonneg hs0]; omega
    have XW : Hid (IntKind.u32.wrap (2 ^ r) = (2 ^ r : Nat)) := by
      show _ = _
      have e : ((2 ^ r : Nat) : Int) = 2 ^ r := by simp
      rw [← e, IntKind.wrap_u32]
      generalize 2 ^ r = x at X1 ⊢
      omega
  case' inr.inr => have XW : Hid (IntKind.u32.wrap 1 = (2 ^ r : Nat)) := by show _ = _; rw [show r = 0 by omega]; rfl
  all_goals
    have hN1 : s < 0 ∧ N ≤ 0 ∨ 0 ≤ s ∧ s ≤ 100000 ∧ N ≤ s ∧ s ≤ N ∨ 100000 < s ∧ 100000 ≤ N := by omega
    clear hN
    go_enter Tryz.func230, Tryz.ntmps230
    go_wp2_with (first
      | (go_at_call 191; with_reducible refine Calls.mono R1 ?_; rintro e w1 ⟨rfl, rfl⟩)
      | (at_make; refine wpl_make_words (.tmp 18) rfl rfl w w M _ rfl (by omega) (by omega) (Below.refl _ _) ?_; intro g w1 hg o1))
    go_region_with (first
      | (go_at_call 193; (with_reducible refine Calls.mono (CT _ (by omega) _ _) ?_); rintro e w3 ⟨rfl, rfl⟩)
      | (go_at_call 192; (with_reducible refine Calls.mono (K _ _ _ XW.out o1.drew) ?_); rintro e w4 ⟨rfl, rs, o4, h4, E4⟩; have E5 : Hid (val rs = A * 2 ^ N.toNat) := (by show _ = _; rw [E4, val_zeros, EV.out, XW.out, Int.toNat_natCast, Nat.zero_add]; exact HE.out); clear E4))
    all_goals
      go_wp2_with (first
        | (go_at_call 191; (with_reducible refine Calls.mono (RR _ _ _ o4 h4) ?_); rintro e w5 ⟨rfl, rfl⟩))
      go_ret
      have o6 := o4.right h4
      rw [E5.out] at o6 ⊢
      exact ⟨_, _, rfl, o6⟩
end Go.Proofs.YtbcfplaalepnbaaGreatDoor
namespace Go.Proofs.YtbcfplaalepnbaaGreatDoor
open Go.RowKit
def AnsDiv (W : World) (Q R : Nat) (e : Ending) (w' : World) : Prop := ∃ a1 c1 a2 c2, e = .returned (.tuple #[.slice a1 (nl Q) c1, .slice a2 (nl R) c2, .bool true]) ∧ Own W w' (.slice a1 (nl Q) c1) (nl Q) (natOf Q) ∧ Own W w' (.slice a2 (nl R) c2) (nl R) (natOf R)
theorem pow_le_nl {D n : Nat} (h : nl D = n + 1) : 4294967296 ^ n ≤ D := by
  rcases Nat.lt_or_ge D (4294967296 ^ n) with h1 | h1
  · have := nl_le n D h1; omega
  · exact h1
theorem nl_eq_zero {n : Nat} (h : nl n = 0) : n = 0 := by
  have := lt_nl n
  rw [h] at this
  simpa using this
theorem quot_lt {A D L n : Nat} (hA : A < 4294967296 ^ L) (hD : nl D = n + 1) (k : Nat) (hk : L ≤ k + n) : A / D < 4294967296 ^ k := by
  have h1 := pow_le_nl hD
  rw [Nat.div_lt_iff_lt_mul (by have : 0 < 4294967296 ^ n := Nat.pow_pos (by omega); omega)]
  have h2 : 4294967296 ^ k * 4294967296 ^ n ≤ 4294967296 ^ k * D := Nat.mul_le_mul_left _ h1
  rw [← Nat.pow_add] at h2
  have h3 : 4294967296 ^ L ≤ 4294967296 ^ (k + n) := Nat.pow_le_pow_right (by omega) hk
  omega
theorem up_fits {D n : Nat} (hD : nl D = n + 1) : ∃ u v : Nat, 1 ≤ v ∧ v ≤ 32 ∧ u + v = 32 ∧ nbits ((natOf D).getD n 0).toNat = v ∧ nl (D * 2 ^ u) = n + 1 := by
  have h0 := getD_top D n hD
  obtain ⟨z0, z1⟩ := wd_getD (wd_natOf D) n
  have h1 : nbits ((natOf D).getD n 0).toNat ≤ 32 := nbits_le 32 _ (by omega)
  have h2 : 1 ≤ nbits ((natOf D).getD n 0).toNat := by rw [nbits_pos (by omega)]; omega
  have h3 := nbits_top (natOf D) (wd_natOf D) n (by have := right_nat D; rw [show (natOf D).length = nl D from rfl, this, hD])
  rw [val_natOf] at h3
  refine ⟨32 - nbits ((natOf D).getD n 0).toNat, nbits ((natOf D).getD n 0).toNat, h2, h1, by omega, rfl, ?_⟩
  generalize nbits ((natOf D).getD n 0).toNat = v at *
  have h4 : nl D ≤ nl (D * 2 ^ (32 - v)) := nl_mono (Nat.le_mul_of_pos_right _ (Nat.pow_pos (by omega)))
  have h5 : nl (D * 2 ^ (32 - v)) ≤ n + 1 := by
    refine nl_le _ _ ?_
    have h6 := lt_nbits D
    rw [h3] at h6
    have h7 : D * 2 ^ (32 - v) < 2 ^ (32 * n + v) * 2 ^ (32 - v) := Nat.mul_lt_mul_of_pos_right h6 (Nat.pow_pos (by omega))
    rw [← Nat.pow_add] at h7
    rw [pow_word, show 32 * (n + 1) = 32 * n + v + (32 - v) by omega]
    exact h7
  omega
theorem own_apart {V w w' : World} {g n c : Nat} {xs : List Int} {a : Option Addr} {m d : Nat} {ys : List Int} (h : Own V w (.slice (some ⟨g, 0, none⟩) n c) n xs) (k : Own w w' (.slice a m d) m ys) (hn : 0 < n) (hm : 0 < m) : Apart g a := by
  obtain ⟨g', rfl⟩ := k.at0 hm
  have h1 := (h.cell 0 hn).2.2.2
  have h2 := (k.cell 0 hm).2.2.1
  intro x hx
  simp only [Option.some.injEq] at hx
  rw [← hx]
  show g' ≠ g
  omega
theorem div_up (A D k : Nat) (hk : 0 < k) : A * k = A / D * (D * k) + A % D * k ∧ (0 < D → A % D * k < D * k) ∧ A % D * k / k = A % D := by
  refine ⟨?_, fun hD => Nat.mul_lt_mul_of_pos_right (Nat.mod_lt _ hD) hk, Nat.mul_div_cancel _ hk⟩
  rw [← Nat.mul_assoc, ← Nat.add_mul, Nat.mul_comm (A / D), Nat.div_add_mod]
theorem split_div_no (a : Option Addr) (n c : Nat) (zs : List Int) (b : Option Addr) (m d : Nat) (ys : List Int) (w : World) (h : IsWords w (.slice a n c) zs) (hz : Wd zs) (g : IsWords w (.slice b m d) ys) (gz : Wd ys) (h0 : val ys = 0) :
    Calls Tryz.prog 213 #[.slice a n c, .slice b m d] w fun e w' => e = .returned (.tuple #[.slice none 0 0, .slice none 0 0, .bool false]) ∧ w = w' := by
  have R1 := split_right a n c zs w h hz
  have R2 := split_right b m d ys w g gz
  rw [h0, nl_zero] at R2
  clear h0 h g hz gz
  go_enter Tryz.func213, Tryz.ntmps213
  go_wp2_with (first
    | (go_at_call 220; with_reducible refine Calls.mono R1 ?_; rintro e w1 ⟨rfl, rfl⟩)
    | (go_at_call 220; with_reducible refine Calls.mono R2 ?_; rintro e w1 ⟨rfl, rfl⟩))
  go_ret3
  exact ⟨rfl, rfl⟩
theorem split_div_less (a : Option Addr) (n c : Nat) (zs : List Int) (b : Option Addr) (m d : Nat) (ys : List Int) (w : World) (h : IsWords w (.slice a n c) zs) (hz : Wd zs) (g : IsWords w (.slice b m d) ys) (gz : Wd ys) (hn : n ≤ 1000000000000) (hlt : val zs < val ys) :
    Calls Tryz.prog 213 #[.slice a n c, .slice b m d] w (AnsDiv w 0 (val zs)) := by
  have R1 := split_right a n c zs w h hz
  have R2 := split_right b m d ys w g gz
  have S1 := h.right hz
  have b1 := (h.low hz).2.2
  have C := nat_cmp' S1 (wd_natOf _) (g.right gz) (wd_natOf _) (-1) (by rw [val_natOf, val_natOf]; exact sgn_lt (by omega))
  have T := fun v (q : IsWords v (.slice a (nl (val zs)) c) (natOf (val zs))) => nat_trim _ _ _ _ v q (wd_natOf _) (by omega)
  rw [val_natOf] at T
  have hp : nl (val ys) ≠ 0 := fun e => by have := nl_eq_zero e; omega
  clear h g hz gz hlt
  generalize nl (val zs) = L at *
  generalize nl (val ys) = N at *
  go_enter Tryz.func213, Tryz.ntmps213
  go_wp2_with (first
    | (go_at_call 220; with_reducible refine Calls.mono R1 ?_; rintro e w1 ⟨rfl, rfl⟩)
    | (go_at_call 220; with_reducible refine Calls.mono R2 ?_; rintro e w1 ⟨rfl, rfl⟩)
    | (go_at_call 166; (with_reducible refine Calls.mono C ?_); rintro e w1 ⟨rfl, b3⟩; have S3 := S1.below b3)
    | (go_at_call 206; (with_reducible refine Calls.mono (T _ S3) ?_); rintro e w2 ⟨a2, c2, rfl, o2⟩))
  go_ret3
  refine ⟨none, 0, a2, c2, by rw [nl_zero]; rfl, ?_, o2.outer b3⟩
  rw [nl_zero, natOf_zero]
  exact Own.nil (o2.outer b3).below
set_option maxHeartbeats 4000000 in
theorem split_div_more (a : Option Addr) (n c : Nat) (zs : List Int) (b : Option Addr) (m d : Nat) (ys : List Int) (w : World) (h : IsWords w (.slice a n c) zs) (hz : Wd zs) (g : IsWords w (.slice b m d) ys) (gz : Wd ys) (hn : n ≤ 1000000000000) (hle : val ys ≤ val zs) (hpos : 0 < val ys) :
    Calls Tryz.prog 213 #[.slice a n c, .slice b m d] w (AnsDiv w (val zs / val ys) (val zs % val ys)) := by
  have R1 := split_right a n c zs w h hz
  have R2 := split_right b m d ys w g gz
  have S1 := h.right hz
  have S2 := g.right gz
  have b1 := (h.low hz).2.2
  obtain ⟨cs, C, hcs⟩ : ∃ cs : Int, Calls Tryz.prog 166 #[.slice a (nl (val zs)) c, .slice b (nl (val ys)) d] w (fun e w' => e = .returned (.int .i64 cs) ∧ Below w.heap.size w w') ∧ 0 ≤ cs := by
    refine ⟨_, nat_cmp' S1 (wd_natOf _) S2 (wd_natOf _) _ rfl, ?_⟩
    rw [val_natOf, val_natOf]
    rcases Nat.lt_or_ge (val ys) (val zs) with h | h
    · rw [sgn_gt (by omega)]; omega
    · rw [sgn_eq (by omega)]; omega
  clear h g hz gz
  generalize val zs = A at *
  generalize val ys = D at *
  have hne : nl D ≠ 0 := fun e => by have := nl_eq_zero e; omega
  obtain ⟨k, hk⟩ : ∃ k, nl D = k + 1 := ⟨nl D - 1, by omega⟩
  obtain ⟨u, v, v1, v2, huv, hnb, hnl⟩ := up_fits hk
  have hmono := nl_mono hle
  have hAL := lt_nl A
  obtain ⟨L, hL⟩ : ∃ L, nl A = L := ⟨_, rfl⟩
  obtain ⟨N, hN⟩ : ∃ N, nl D = N := ⟨_, rfl⟩
  obtain ⟨M, hM⟩ : ∃ M, M = L + 1 := ⟨_, rfl⟩
  obtain ⟨P, hP⟩ : ∃ P : Nat, P = 2 ^ u := ⟨_, rfl⟩
  have hPpos : 0 < P := by rw [hP]; exact Nat.pow_pos (by omega)
  have hP32 : P < 4294967296 := by rw [hP]; exact Nat.pow_lt_pow_right (n := 32) (a := 2) (by omega) (by omega)
  obtain ⟨U1, U2, U3⟩ := div_up A D P hPpos
  have U2 := U2 hpos
  have hQ : A / D < 4294967296 ^ (M - N) := quot_lt (L := L) (by rw [← hL]; exact hAL) hk _ (by omega)
  have hAP : nl (A * P) ≤ M := by
    refine nl_le _ _ ?_
    rw [hM, Nat.pow_succ]
    rw [hL] at hAL
    exact Nat.lt_of_lt_of_le (Nat.mul_lt_mul_of_pos_right hAL hPpos) (Nat.mul_le_mul_left _ (by omega))
  have T1 := fun w' (q : IsWords w' (.slice a L c) (natOf A)) => times_shift a L c (natOf A) u w' q (wd_natOf _) (by omega) u (by omega)
  have T2 := fun w' (q : IsWords w' (.slice b N d) (natOf D)) => times_shift b N d (natOf D) u w' q (wd_natOf _) (by omega) u (by omega)
  rw [val_natOf, Int.toNat_natCast, ← hP] at T1 T2
  rw [← hP] at hnl
  have T3 : ∀ w', IsWords w' (.slice b N d) (natOf D) → Calls Tryz.prog 230 #[.slice b N d, .int .i64 u] w' fun e w2 => ∃ a' c', e = .returned (.slice a' N c') ∧ Own w' w2 (.slice a' N c') N (natOf (D * P)) := fun w' q => by
    have := T2 w' q
    unfold Ans at this
    rw [hnl, ← hk, hN] at this
    exact this
  have WZ : Wd (natOf (A * P) ++ (List.replicate M 0).drop (nl (A * P))) := wd_append (wd_natOf _) (wd_drop (wd_zeros _) _)
  have VZ : Hid (val (natOf (A * P) ++ (List.replicate M 0).drop (nl (A * P))) = A * P) := by
    show _ = _
    rw [List.drop_replicate, val_append_zeros, val_natOf]
  have DG := fun g' w' ss a' c' (o : Own w w' (.slice (some ⟨g', 0, none⟩) M M) M ss) (wS : Wd ss) (q : IsWords w' (.slice a' N c') (natOf (D * P))) (ha : Apart g' a') (hv : val ss = A * P) =>
    split_digits w g' M k N (M - N) c' ss a' (natOf (D * P)) (A / D) (A % D * P) w' o wS q (wd_natOf _) ha (by omega) (getD_top _ _ hnl) (by omega) (by omega) (by omega) (by rw [hv, val_natOf]; exact U1) (by rw [val_natOf]; exact U2) hQ
  have SM := fun g' w' ss (q : IsWords w' (.slice (some ⟨g', 0, none⟩) M M) ss) (wS : Wd ss) (hv : val ss = A % D * P) (X : Int) (hX : X = P) => split_small _ _ _ ss X w' q wS (by omega) (by omega) (by omega)
  have SV : ∀ (X : Int) (S : Nat), X = P → S = A % D * P → S / X.toNat = A % D := fun X S hX hS => by rw [hX, hS, Int.toNat_natCast]; exact U3
  obtain ⟨z0, z1⟩ := wd_getD (wd_natOf D) k
  rcases S2.reads.1.2 with h0 | ⟨bb, off, rfl, hcz⟩
  · omega
  have hck := hcz k (by omega)
  have BT := fun w' => limb_bits _ w' z0 z1
  rw [nbits_bitLen _ (by omega), hnb] at BT
  generalize (natOf D).getD k 0 = top at hck BT z0 z1
  rw [hL] at R1 S1 C b1 hmono
  rw [hN] at R2 S2 C hk hmono hne
  have HSV : Hid (∀ (X : Int) (S : Nat), X = P → S = A % D * P → S / X.toNat = A % D) := SV
  have eN : (N : Int) - 1 = k := by omega
  have eU : (32 : Int) - v = u := by omega
  have HM : Hid (M = L + 1) := hM
  have XW : Hid ((2 : Int) ^ u % 4294967296 = (P : Int)) := by
    show _ = _
    have e : ((2 ^ u : Nat) : Int) = 2 ^ u := by simp
    rw [← e, ← hP]
    omega
  have HAP : Hid (nl (A * P) ≤ M) := hAP
  have k1 : k < N := by omega
  have u1 : u < 32 := by omega
  have m1 : M ≤ L + 1 := by omega
  have m2 : L + 1 ≤ M := by omega
  have m3 : N ≤ L := by omega
  have nz : 0 < N := by omega
  clear SV U1 U2 U3 hQ hAP hM hP hk hL hN hnl hnb hcz hAL hle hpos hmono huv v1 v2 hPpos hP32
  go_enter Tryz.func213, Tryz.ntmps213
  go_wp2_with (first
    | (go_at_call 220; with_reducible refine Calls.mono R1 ?_; rintro e w1 ⟨rfl, rfl⟩)
    | (go_at_call 220; with_reducible refine Calls.mono R2 ?_; rintro e w1 ⟨rfl, rfl⟩)
    | (go_at_call 166; (with_reducible refine Calls.mono C ?_); rintro e w1 ⟨rfl, b3⟩; have S3 := S1.below b3; have S4 := S2.below b3; have hck1 : w1.cell? ⟨bb, off + k, none⟩ = some (.int .u32 top) := (b3.cell (p := ⟨bb, off + k, none⟩) (World.block_lt_of_cell? w _ hck)).trans hck)
    | (go_at_call 189; (with_reducible refine Calls.mono (BT _) ?_); rintro e w2 ⟨rfl, rfl⟩)
    | (at_make; refine wpl_make_words (.tmp 32) rfl rfl w w1 M _ rfl (by omega) (by omega) b3 ?_; intro g' w2 hg o2)
    | (go_at_call 230; (with_reducible refine Calls.mono (T1 _ (S1.below o2.below)) ?_); rintro e w3 ⟨a3, c3, rfl, o3⟩; have p3 := o2.more o3.below)
    | (with_reducible show wpList _ _ _ (Oper.mk _ (Op.call { callee := Callee.builtin Builtin.copy, args := _, argTypes := _ }) _ _ _ _ :: _) _ _; refine wpl_copy_words (.tmp 34) (.tmp 37) rfl rfl w w3 g' M M (nl (A * P)) _ (List.replicate M 0) (natOf (A * P)) p3 o3.words rfl rfl rfl HAP.out ?_; intro w4 o4)
    | (go_at_call 230; (with_reducible refine Calls.mono (T3 _ (S2.below o4.below)) ?_); rintro e w5 ⟨a5, c5, rfl, o5⟩; have p5 := o4.more o5.below; have ap5 := own_apart o4 o5 (by omega) (by omega))
    | (go_at_call 231; (with_reducible refine Calls.mono (DG _ _ _ _ _ p5 WZ o5.words ap5 VZ.out) ?_); rintro e w6 ⟨a6, c6, ss6, rfl, oQ6, oR6, wS6, E6⟩; have HE6 : Hid (val ss6 = A % D * P) := E6; clear E6)
    | (go_at_call 198; (with_reducible refine Calls.mono (SM _ _ _ oR6.words wS6 HE6.out _ XW.out) ?_); rintro e w7 ⟨a7, c7, rfl, o7⟩))
  go_ret3
  have e8 := HSV.out _ _ XW.out HE6.out
  rw [e8] at o7 ⊢
  exact ⟨_, _, _, _, rfl, oQ6.more o7.below, o7.outer oQ6.below⟩
theorem split_div {a : Option Addr} {n c : Nat} {zs : List Int} {b : Option Addr} {m d : Nat} {ys : List Int} {w : World} (h : IsWords w (.slice a n c) zs) (hz : Wd zs) (g : IsWords w (.slice b m d) ys) (gz : Wd ys) (hn : n ≤ 1000000000000) (A D : Nat) (hA : val zs = A) (hD : val ys = D) (hpos : 0 < D) :
    Calls Tryz.prog 213 #[.slice a n c, .slice b m d] w (AnsDiv w (A / D) (A % D)) := by
  subst hA hD
  rcases Nat.lt_or_ge (val zs) (val ys) with hlt | hge
  · rw [Nat.div_eq_of_lt hlt, Nat.mod_eq_of_lt hlt]
    exact split_div_less a n c zs b m d ys w h hz g gz hn hlt
  · exact split_div_more a n c zs b m d ys w h hz g gz hn hge hpos
end Go.Proofs.YtbcfplaalepnbaaGreatDoor
namespace Go.Proofs.YtbcfplaalepnbaaGreatDoor
open Go.RowKit
theorem ref_one_step {p S V A x z y c c' : Nat} (hi : S + c * p = A * x + V) (hy : y + 4294967296 * c' = z * x + c) : (S + y * p) + c' * (p * 4294967296) = (A + z * p) * x + V := by
  have e : (y + 4294967296 * c') * p = (z * x + c) * p := by rw [hy]
  rw [Nat.add_mul, Nat.add_mul] at e
  have e2 : c' * (p * 4294967296) = 4294967296 * c' * p := by rw [Nat.mul_comm p, ← Nat.mul_assoc, Nat.mul_comm c']
  have e3 : (A + z * p) * x = A * x + z * x * p := by rw [Nat.add_mul, Nat.mul_right_comm]
  rw [e2, e3]; omega
set_option maxHeartbeats 2000000 in
theorem ref_one (a : Option Addr) (n c : Nat) (zs : List Int) (x y : Int) (w : World) (h : IsWords w (.slice a n c) zs) (hz : Wd zs) (hn : n ≤ 1000000000) (x0 : 0 ≤ x) (x1 : x < 4294967296) (y0 : 0 ≤ y) (y1 : y < 4294967296) :
    Calls Tryz.prog 127 #[.slice a n c, .int .u32 x, .int .u32 y] w (Ans w (val zs * x.toNat + y.toNat)) := by
  have l1 : Hid (zs.length = n) := h.len
  go_enter Tryz.func127, Tryz.ntmps127
  go_wp2
  go_loopw [7, 8, 9] (fun s cr i v => ∃ (k : Nat) (cy : Int) (oa : Option Addr) (oc : Nat) (ss : List Int), k ≤ n ∧ i = .int .i64 k ∧ cr = .int .u64 cy ∧ 0 ≤ cy ∧ cy < 4294967296 ∧ s = .slice oa k oc ∧ Own w v (.slice oa k oc) k ss ∧ Wd ss ∧ val ss + cy.toNat * 4294967296 ^ k = val (zs.take k) * x.toNat + y.toNat) (fun _ _ i _ => n - (intOf i).toNat)
  case atStart => exact ⟨0, y, none, 0, [], by omega, rfl, rfl, y0, y1, rfl, Own.nil (Below.refl _ _), wd_nil, by simp [val]⟩
  case round =>
    obtain ⟨k, cy, oa, oc, ss, hk, rfl, rfl, c0, c1, rfl, o, wS, hI⟩ := hrel
    have HI : Hid (val ss + cy.toNat * 4294967296 ^ k = val (zs.take k) * x.toNat + y.toNat) := hI
    clear hI
    have HL : Hid (ss.length = k) := o.length
    by_cases hlt : k < n
    · obtain ⟨z0, z1⟩ := wd_getD hz k
      rcases (h.below o.below).reads.1.2 with h0 | ⟨b, off, rfl, hcz⟩
      · omega
      have hck := hcz k hlt
      have T1 : Hid (val (zs.take (k + 1)) = val (zs.take k) + (zs.getD k 0).toNat * 4294967296 ^ k) := val_take_succ zs k
      generalize zs.getD k 0 = z at hck T1 z0 z1
      have m0 : 0 ≤ z * x := Int.mul_nonneg z0 x0
      have m1 : z * x ≤ 4294967295 * 4294967295 := Int.mul_le_mul (by omega) (by omega) x0 (by omega)
      have m2 : (z * x).toNat = z.toNat * x.toNat := Int.toNat_mul z0 x0
      have HN : Hid (val (ss ++ [(z * x + cy) % 4294967296]) + ((z * x + cy) / 4294967296).toNat * 4294967296 ^ (k + 1) = val (zs.take (k + 1)) * x.toNat + y.toNat) := by
        show _ = _
        rw [T1.out, val_snoc, HL.out, Nat.pow_succ]
        refine ref_one_step HI.out ?_
        rw [← m2]
        generalize z * x = p at m0 m1
        omega
      have HC : 0 ≤ (z * x + cy) / 4294967296 ∧ (z * x + cy) / 4294967296 < 4294967296 := by
        generalize z * x = p at m0 m1
        omega
      have WN : Wd (ss ++ [(z * x + cy) % 4294967296]) := wd_append wS (wd_one (by omega) (by omega))
      clear T1 HL HI h hz l1 wS hcz m2
      go_wp2_with (first
        | (at_builtin; refine wpl_append_words (.tmp 29) (.tmp 33) rfl rfl w _ _ _ k 1 ss [(z * x + cy) % 4294967296] rfl rfl (o.alloc _) (lit_words _ [(z * x + cy) % 4294967296] 1 rfl (by decide)) rfl (k + 1) rfl (by omega) ?_; intro a1 c1' w1 o1 g1))
      go_roundw
      case rel => exact ⟨k + 1, (z * x + cy) / 4294967296, a1, c1', _, by omega, by go_num, rfl, HC.1, HC.2, rfl, o1, WN, HN.out⟩
      case measure => simp [intOf]; omega
    · obtain rfl : k = n := by omega
      have HN : Hid (val (ss ++ [cy]) = val zs * x.toNat + y.toNat) := by
        show _ = _
        have h1 := HI.out
        have h2 := l1.out
        rw [List.take_of_length_le (by omega)] at h1
        rw [val_snoc, HL.out, h1]
      have WN : Wd (ss ++ [cy]) := wd_append wS (wd_one c0 c1)
      have R := fun v a1 c1 (p : IsWords v (.slice a1 (k + 1) c1) (ss ++ [cy])) => ref_trim a1 (k + 1) c1 (ss ++ [cy]) v p WN (by omega)
      rw [HN.out] at R
      clear HN HI HL h hz l1 wS
      go_wp2_with (first
        | (at_builtin; refine wpl_append_words (.tmp 37) (.tmp 40) rfl rfl w _ _ _ k 1 ss [cy] rfl rfl (o.alloc _) (lit_words _ [cy] 1 rfl (by decide)) rfl (k + 1) rfl (by omega) ?_; intro a1 c1' w1 o1 g1)
        | (go_at_call 99; (with_reducible refine Calls.mono (R _ _ _ o1.words) ?_); rintro e w2 ⟨a2, c2, rfl, o2⟩))
      go_ret
      exact ⟨_, _, rfl, o2.outer o1.below⟩
end Go.Proofs.YtbcfplaalepnbaaGreatDoor
namespace Go.Proofs.YtbcfplaalepnbaaGreatDoor
open Go.RowKit
theorem and_one_w (x : Nat) (h : x < 4294967296) : bits BinOp.and IntKind.u32 (x : Int) 1 = ((x % 2 : Nat) : Int) := by
  have h1 : (BitVec.ofInt 32 (x : Int)).toNat = x := by
    rw [BitVec.ofInt_natCast, BitVec.toNat_ofNat]; exact Nat.mod_eq_of_lt h
  have h2 : (BitVec.ofInt 32 (1 : Int)).toNat = 1 := by decide
  show IntKind.u32.wrap ((BitVec.ofInt 32 (x : Int) &&& BitVec.ofInt 32 (1 : Int)).toNat : Int) = _
  rw [BitVec.toNat_and, h1, h2, IntKind.wrap_u32, Nat.and_one_is_mod]
  omega
theorem bit_val (zs : List Int) (hz : Wd zs) (j r : Nat) (hr : r < 32) : val zs / 2 ^ (32 * j + r) % 2 = (zs.getD j 0).toNat / 2 ^ r % 2 := by
  have h1 := val_split zs j
  have h2 := val_take_lt zs hz j
  have h3 := val_drop zs j
  have e1 : val zs / 4294967296 ^ j = val (zs.drop j) := by
    rw [h1, Nat.add_comm, Nat.mul_add_div (Nat.pow_pos (by omega)), Nat.div_eq_of_lt h2, Nat.add_zero]
  have e2 : 4294967296 = 2 ^ r * 2 ^ (32 - r) := by rw [← Nat.pow_add, show r + (32 - r) = 32 by omega]
  have e3 : 2 ^ (32 - r) = 2 * 2 ^ (31 - r) := by rw [show 32 - r = (31 - r) + 1 by omega, Nat.pow_succ, Nat.mul_comm]
  rw [Nat.pow_add, ← pow_word, ← Nat.div_div_eq_div_mul, e1, h3]
  generalize (zs.getD j 0).toNat = z
  generalize val (zs.drop (j + 1)) = t
  rw [e2, e3, Nat.add_comm, Nat.mul_assoc, Nat.mul_add_div (Nat.pow_pos (by omega)), Nat.mul_assoc]
  omega
theorem ref_bit (a : Option Addr) (n c : Nat) (zs : List Int) (w : World) (h : IsWords w (.slice a n c) zs) (hz : Wd zs) (hn : n ≤ 1000000000) (i : Nat) (hi : i < 32 * n) (B : Int) (hB : B = ((val zs / 2 ^ i % 2 : Nat) : Int)) :
    Calls Tryz.prog 128 #[.slice a n c, .int .i64 i] w fun e w' => e = .returned (.int .u32 B) ∧ w = w' := by
  obtain ⟨j, hj⟩ : ∃ j, i / 32 = j := ⟨_, rfl⟩
  obtain ⟨r, hr⟩ : ∃ r, i % 32 = r := ⟨_, rfl⟩
  have q1 : (i : Int).tdiv 32 = j := by rw [Int.tdiv_eq_ediv_of_nonneg (by omega)]; omega
  have q2 : (i : Int) / 32 = j := by omega
  have r1 : (i : Int).tmod 32 = r := by rw [Int.tmod_eq_emod_of_nonneg (by omega)]; omega
  have r2 : (i : Int) % 32 = r := by omega
  have j1 : j < n := by omega
  have r3 : r < 32 := by omega
  obtain ⟨z0, z1⟩ := wd_getD hz j
  have BV := bit_val zs hz j r r3
  rw [show 32 * j + r = i by omega] at BV
  rw [BV] at hB
  rcases h.reads.1.2 with h0 | ⟨b, off, rfl, hcz⟩
  · omega
  have hck := hcz j j1
  generalize zs.getD j 0 = z at hck z0 z1 hB
  have HB : Hid (bits BinOp.and IntKind.u32 (z / 2 ^ r) 1 = B) := by
    show _ = _
    have e : z / 2 ^ r = ((z.toNat / 2 ^ r : Nat) : Int) := by
      rw [Int.natCast_ediv, Int.toNat_of_nonneg z0]; simp
    rw [e, and_one_w _ (Nat.lt_of_le_of_lt (Nat.div_le_self _ _) (by omega)), hB]
  clear hcz h hB BV hj hr
  go_enter Tryz.func128, Tryz.ntmps128
  go_wp2
  go_ret
  exact ⟨ret_int HB.out, rfl⟩
theorem ref_one' {a : Option Addr} {n c : Nat} {zs : List Int} {x y : Int} {w : World} (h : IsWords w (.slice a n c) zs) (hz : Wd zs) (hn : n ≤ 1000000000) (x0 : 0 ≤ x) (x1 : x < 4294967296) (y0 : 0 ≤ y) (y1 : y < 4294967296) (N : Nat) (hN : val zs * x.toNat + y.toNat = N) :
    Calls Tryz.prog 127 #[.slice a n c, .int .u32 x, .int .u32 y] w (Ans w N) := by
  subst hN; exact ref_one a n c zs x y w h hz hn x0 x1 y0 y1
theorem ref_div_no (a : Option Addr) (n c : Nat) (b : Option Addr) (m d : Nat) (ys : List Int) (w : World) (g : IsWords w (.slice b m d) ys) (gz : Wd ys) (hm : m ≤ 1000000000) (h0 : val ys = 0) :
    Calls Tryz.prog 107 #[.slice a n c, .slice b m d] w fun e w' => e = .returned (.tuple #[.slice none 0 0, .slice none 0 0, .bool false]) ∧ Below w.heap.size w w' := by
  have T := ref_trim b m d ys w g gz (by omega)
  unfold Ans at T
  rw [h0, nl_zero] at T
  clear g gz h0
  go_enter Tryz.func107, Tryz.ntmps107
  go_wp2_with (first
    | (go_at_call 99; (with_reducible refine Calls.mono T ?_); rintro e w1 ⟨a1, c1, rfl, o1⟩))
  go_ret3
  exact ⟨rfl, o1.below⟩
theorem nl_few2 {x A : Nat} (h : x ≤ 4 * A) : nl x ≤ nl A + 1 := by
  refine nl_le _ _ ?_
  have := lt_nl A
  rw [Nat.pow_succ]
  generalize 4294967296 ^ nl A = p at *
  omega
theorem bit_step (A k : Nat) : A / 2 ^ k = 2 * (A / 2 ^ (k + 1)) + A / 2 ^ k % 2 := by
  rw [Nat.pow_succ, ← Nat.div_div_eq_div_mul]; omega
set_option maxHeartbeats 4000000 in
theorem ref_div (a : Option Addr) (n c : Nat) (zs : List Int) (b : Option Addr) (m d : Nat) (ys : List Int) (w : World) (h : IsWords w (.slice a n c) zs) (hz : Wd zs) (g : IsWords w (.slice b m d) ys) (gz : Wd ys) (hn : n ≤ 100000000) (hm : m ≤ 100000000) (hpos : 0 < val ys) :
    Calls Tryz.prog 107 #[.slice a n c, .slice b m d] w (AnsDiv w (val zs / val ys) (val zs % val ys)) := by
  have T := ref_trim b m d ys w g gz (by omega)
  have b2 := (g.low gz).2.2
  have b1 := nl_val_le zs hz
  rw [h.len] at b1
  have hlt := val_lt zs hz
  rw [h.len, pow_word] at hlt
  have HLT : Hid (val zs < 2 ^ (32 * n)) := hlt
  have BI := fun w' (q : IsWords w' (.slice a n c) zs) i hi B hB => ref_bit a n c zs w' q hz (by omega) i hi B hB
  clear hlt hz g gz
  generalize val zs = A at *
  generalize val ys = D at *
  have hne : nl D ≠ 0 := fun e => by have := nl_eq_zero e; omega
  have HP : Hid (0 < D) := hpos
  clear hpos
  obtain ⟨N, hN⟩ : ∃ N, nl D = N := ⟨_, rfl⟩
  unfold Ans at T
  rw [hN] at T hne b2
  have HND : Hid (nl D = N) := hN
  have hN0 : ((N : Int) == 0) = false := by simp; omega
  clear hN
  go_enter Tryz.func107, Tryz.ntmps107
  go_wp2_with (first
    | (go_at_call 99; (with_reducible refine Calls.mono T ?_); rintro e w1 ⟨a1, c1, rfl, o1⟩))
  clear T
  go_loopg [8, 9, 10] (32 * n) (fun k q r i v => ∃ (qa : Option Addr) (qn qc : Nat) (ra : Option Addr) (rn rc : Nat) (Q R : Nat), k ≤ 32 * n ∧ i = .int .i64 ((k : Int) - 1) ∧ q = .slice qa qn qc ∧ r = .slice ra rn rc ∧ qn = nl Q ∧ rn = nl R ∧ Own w1 v (.slice qa qn qc) qn (natOf Q) ∧ Own w1 v (.slice ra rn rc) rn (natOf R) ∧ R < D ∧ A / 2 ^ k = Q * D + R)
  case atStart =>
    refine ⟨none, 0, 0, none, 0, 0, 0, 0, by omega, by go_num, rfl, rfl, nl_zero.symm, nl_zero.symm, ?_, ?_, HP.out, ?_⟩
    · rw [natOf_zero]; exact Own.nil (Below.refl _ _)
    · rw [natOf_zero]; exact Own.nil (Below.refl _ _)
    · rw [Nat.div_eq_of_lt HLT.out]; omega
  case round =>
    obtain ⟨k, rfl⟩ : ∃ k, k = gk := ⟨_, rfl⟩
    obtain ⟨qa, qn, qc, ra, rn, rc, Q, R, hk, rfl, rfl, rfl, hqn, hrn, oQ, oR, hR, hI⟩ := hrel
    have HI : Hid (A / 2 ^ k = Q * D + R) := hI
    have HQN : Hid (qn = nl Q) := hqn
    have HRN : Hid (rn = nl R) := hrn
    have HRD : Hid (R < D) := hR
    have hQA : Q ≤ A := by
      have h1 : A / 2 ^ k ≤ A := Nat.div_le_self _ _
      have h2 : Q * 1 ≤ Q * D := Nat.mul_le_mul_left _ HP.out
      omega
    have qn1 : qn ≤ n := by rw [hqn]; exact Nat.le_trans (nl_mono hQA) b1
    have rn1 : rn ≤ m := by rw [hrn]; exact Nat.le_trans (nl_mono (Nat.le_of_lt hR)) (by rw [HND.out]; exact b2)
    clear hI hqn hrn hR hQA
    rcases Nat.eq_zero_or_pos k with hk0 | hk0
    · subst hk0
      rw [show ((0 : Nat) : Int) - 1 = -1 from rfl]
      have HS : A = Q * D + R := by have := HI.out; simpa using this
      have e1 : Q = A / D := by
        rw [HS, Nat.mul_comm, Nat.mul_add_div HP.out, Nat.div_eq_of_lt HRD.out, Nat.add_zero]
      have e2 : R = A % D := by
        rw [HS, Nat.mul_comm, Nat.mul_add_mod, Nat.mod_eq_of_lt HRD.out]
      have p1 := oQ.outer o1.below
      have p2 := oR.outer o1.below
      rw [e1] at HQN p1
      rw [e2] at HRN p2
      clear HS e1 e2 HI HRD oQ oR h BI
      go_wp2
      go_ret3
      have e3 := HQN.out
      have e4 := HRN.out
      subst e3 e4
      exact ⟨_, _, _, _, rfl, p1, p2⟩
    · obtain ⟨t, rfl⟩ : ∃ t, k = t + 1 := ⟨k - 1, by omega⟩
      rw [show ((t + 1 : Nat) : Int) - 1 = t by omega]
      have BS := bit_step A t
      have hbit : A / 2 ^ t % 2 < 2 := Nat.mod_lt _ (by omega)
      obtain ⟨B, hB⟩ : ∃ B : Nat, B = A / 2 ^ t % 2 := ⟨_, rfl⟩
      have BI2 := fun w' q => BI w' q t (by omega) (B : Int) (by rw [hB])
      rw [← hB] at BS hbit
      rw [HI.out] at BS
      have HBS : Hid (A / 2 ^ t = 2 * (Q * D + R) + B) := BS
      clear BS hB BI HI
      have O1 := ref_one' oQ.words (wd_natOf _) (x := 2) (y := 0) (by omega) (by omega) (by omega) (by omega) (by omega) (2 * Q) (by rw [val_natOf, show (2 : Int).toNat = 2 from rfl, show (0 : Int).toNat = 0 from rfl]; omega)
      have O2 := fun w' (q : IsWords w' (.slice ra rn rc) (natOf R)) => ref_one' q (wd_natOf _) (x := 2) (y := B) (by omega) (by omega) (by omega) (by omega) (by omega) (2 * R + B) (by rw [val_natOf, show (2 : Int).toNat = 2 from rfl, Int.toNat_natCast]; omega)
      have hq2 : nl (2 * Q) ≤ qn + 1 := by
        have := nl_few2 (x := 2 * Q) (A := Q) (by omega)
        rw [HQN.out]; exact this
      have hr2 : nl (2 * R + B) ≤ m + 1 := by
        have h1 := HRD.out
        have := nl_few2 (x := 2 * R + B) (A := D) (by omega)
        rw [HND.out] at this
        omega
      have oD := fun v (bb : Below w1.heap.size w1 v) => o1.more bb
      have CM := fun w' a3 c3 (q1 : IsWords w' (.slice a3 (nl (2 * R + B)) c3) (natOf (2 * R + B))) (q2 : IsWords w' (.slice a1 N c1) (natOf D)) => ref_cmp a3 _ c3 _ a1 N c1 _ w' q1 (wd_natOf _) q2 (wd_natOf _) (by omega) (by omega)
      simp only [val_natOf] at CM
      clear HQN HRN
      rcases Nat.lt_or_ge (2 * R + B) D with hlt | hge
      · rw [sgn_lt (by omega)] at CM
        have HN1 : Hid (2 * R + B < D ∧ A / 2 ^ t = 2 * Q * D + (2 * R + B)) := ⟨hlt, by rw [HBS.out, Nat.mul_add, Nat.mul_assoc]; omega⟩
        clear hlt HBS
        go_wp2_with (first
          | (go_at_call 127; (with_reducible refine Calls.mono O1 ?_); rintro e w2 ⟨a2, c2, rfl, o2⟩; have p2 := oR.more o2.below; have q2 := o2.outer oQ.below)
          | (go_at_call 128; (with_reducible refine Calls.mono (BI2 _ ((h.below o1.below).below p2.below)) ?_); rintro e w3 ⟨rfl, rfl⟩)
          | (go_at_call 127; (with_reducible refine Calls.mono (O2 _ p2.words) ?_); rintro e w3 ⟨a3, c3, rfl, o3⟩; have q3 := q2.more o3.below; have p3 := o3.outer p2.below)
          | (go_at_call 124; (with_reducible refine Calls.mono (CM _ _ _ o3.words (oD _ p3.below).words) ?_); rintro e w4 ⟨rfl, rfl⟩))
        go_roundg t
        case rel => exact ⟨a2, _, c2, a3, _, c3, 2 * Q, 2 * R + B, by omega, rfl, rfl, rfl, rfl, rfl, q3, p3, HN1.out.1, HN1.out.2⟩
        case measure => omega
      · obtain ⟨cs, CM', hcs⟩ : ∃ cs : Int, (∀ w' a3 c3, IsWords w' (.slice a3 (nl (2 * R + B)) c3) (natOf (2 * R + B)) → IsWords w' (.slice a1 N c1) (natOf D) → Calls Tryz.prog 124 #[.slice a3 (nl (2 * R + B)) c3, .slice a1 N c1] w' (fun e w'' => e = .returned (.int .i64 cs) ∧ w' = w'')) ∧ 0 ≤ cs := by
          refine ⟨_, CM, ?_⟩
          rcases Nat.lt_or_ge D (2 * R + B) with h | h
          · rw [sgn_gt (by omega)]; omega
          · rw [sgn_eq (by omega)]; omega
        have HN1 : Hid (2 * R + B - D < D ∧ A / 2 ^ t = (2 * Q + 1) * D + (2 * R + B - D)) := ⟨by have := HRD.out; omega, by rw [HBS.out, Nat.mul_add, Nat.add_mul, Nat.mul_assoc]; omega⟩
        have SB := fun w' a3 c3 (q1 : IsWords w' (.slice a3 (nl (2 * R + B)) c3) (natOf (2 * R + B))) (q2 : IsWords w' (.slice a1 N c1) (natOf D)) => ref_nsub a3 _ c3 _ a1 N c1 _ w' q1 (wd_natOf _) q2 (wd_natOf _) (by omega) (by omega) (by rw [val_natOf, val_natOf]; exact hge)
        simp only [val_natOf] at SB
        have O3 := fun w' a3 c3 (q : IsWords w' (.slice a3 (nl (2 * Q)) c3) (natOf (2 * Q))) => ref_one' q (wd_natOf _) (x := 1) (y := 1) (by omega) (by omega) (by omega) (by omega) (by omega) (2 * Q + 1) (by rw [val_natOf, show (1 : Int).toNat = 1 from rfl]; omega)
        clear hge HBS CM
        go_wp2_with (first
          | (go_at_call 127; (with_reducible refine Calls.mono O1 ?_); rintro e w2 ⟨a2, c2, rfl, o2⟩; have p2 := oR.more o2.below; have q2 := o2.outer oQ.below)
          | (go_at_call 128; (with_reducible refine Calls.mono (BI2 _ ((h.below o1.below).below p2.below)) ?_); rintro e w3 ⟨rfl, rfl⟩)
          | (go_at_call 127; (with_reducible refine Calls.mono (O2 _ p2.words) ?_); rintro e w3 ⟨a3, c3, rfl, o3⟩; have q3 := q2.more o3.below; have p3 := o3.outer p2.below)
          | (go_at_call 124; (with_reducible refine Calls.mono (CM' _ _ _ o3.words (oD _ p3.below).words) ?_); rintro e w4 ⟨rfl, rfl⟩)
          | (go_at_call 125; (with_reducible refine Calls.mono (SB _ _ _ o3.words (oD _ p3.below).words) ?_); rintro e w5 ⟨a5, c5, rfl, o5⟩; have q5 := q3.more o5.below; have p5 := o5.outer p3.below)
          | (go_at_call 127; (with_reducible refine Calls.mono (O3 _ _ _ q5.words) ?_); rintro e w6 ⟨a6, c6, rfl, o6⟩; have p6 := p5.more o6.below; have q6 := o6.outer q5.below))
        go_roundg t
        case rel => exact ⟨a6, _, c6, a5, _, c5, 2 * Q + 1, 2 * R + B - D, by omega, rfl, rfl, rfl, rfl, rfl, q6, p6, HN1.out.1, HN1.out.2⟩
        case measure => omega
theorem natOf_word {x : Nat} (h0 : 0 < x) (h1 : x < 4294967296) : natOf x = [(x : Int)] := by
  rw [natOf_pos (by omega), Nat.mod_eq_of_lt h1, Nat.div_eq_of_lt h1, natOf_zero]
set_option maxHeartbeats 2000000 in
theorem ref_small4 (a : Option Addr) (n c : Nat) (zs : List Int) (d : Int) (w : World) (h : IsWords w (.slice a n c) zs) (hz : Wd zs) (hn : n ≤ 100000000) (d0 : 0 < d) (d1 : d < 4294967296) :
    Calls Tryz.prog 100 #[.slice a n c, .int .u32 d] w (AnsSmall w (val zs / d.toNat) ((val zs % d.toNat : Nat) : Int)) := by
  have hb0 : Below w.heap.size w (w.alloc (.cells #[.int .u32 d] 84)) := (Below.refl _ w).alloc (Nat.le_refl _) _
  have ev : val [d] = d.toNat := by simp [val]
  have L1 : IsWords (w.alloc (.cells #[.int .u32 d] 84)) (.slice (some ⟨w.heap.size, 0, none⟩) 1 1) [d] := lit_words w [d] 1 rfl (by decide)
  have T := ref_div a n c zs _ _ _ [d] _ (h.below hb0) hz L1 (wd_one (by omega) d1) hn (by omega) (by rw [ev]; omega)
  rw [ev] at T
  have hm : val zs % d.toNat < 4294967296 := Nat.lt_of_lt_of_le (Nat.mod_lt _ (by omega)) (by omega)
  have HB : Hid (Below w.heap.size w (w.alloc (.cells #[.int .u32 d] 84))) := hb0
  clear h hz ev hb0 L1
  generalize val zs / d.toNat = Q at *
  generalize val zs % d.toNat = R at *
  unfold AnsDiv at T
  rcases Nat.eq_zero_or_pos R with h0 | h0
  · subst h0
    rw [nl_zero] at T
    go_enter Tryz.func100, Tryz.ntmps100
    go_wp2_with (first
      | (go_at_call 107; (with_reducible refine Calls.mono T ?_); rintro e w1 ⟨a1, c1, a2, c2, rfl, o1, o2⟩))
    go_ret3
    exact ⟨_, _, rfl, o1.outer HB.out⟩
  · have e1 := natOf_word h0 hm
    have e2 : nl R = 1 := by unfold nl; rw [e1]; rfl
    rw [e1, e2] at T
    clear e1 e2
    go_enter Tryz.func100, Tryz.ntmps100
    go_wp2_with (first
      | (go_at_call 107; (with_reducible refine Calls.mono T ?_); rintro e w1 ⟨a1, c1, a2, c2, rfl, o1, o2⟩; obtain ⟨g2, rfl⟩ := o2.at0 (by omega); have hc2 := (o2.cell 0 (by omega)).1; rw [show ([(R : Int)]).getD 0 0 = (R : Int) from rfl] at hc2))
    go_quiet (fail)
    go_wp2
    go_ret3
    refine ⟨_, _, rfl, ?_⟩
    have o3 := o1.outer HB.out
    exact ⟨o3.1, below_drewN o3.2 _⟩
end Go.Proofs.YtbcfplaalepnbaaGreatDoor
namespace Go.Proofs.YtbcfplaalepnbaaGreatDoor
open Go.RowKit
theorem times_one' {a : Option Addr} {n c : Nat} {zs : List Int} {x y : Int} {w : World} (h : IsWords w (.slice a n c) zs) (hz : Wd zs) (hn : n ≤ 1000000000000) (x0 : 0 ≤ x) (x1 : x < 4294967296) (y0 : 0 ≤ y) (y1 : y < 4294967296) (N : Nat) (hN : val zs * x.toNat + y.toNat = N) :
    Calls Tryz.prog 175 #[.slice a n c, .int .u32 x, .int .u32 y] w (Ans w N) := by
  subst hN; exact times_one a n c zs x y w h hz hn x0 x1 y0 y1
theorem nat_bits' {a : Option Addr} {n c : Nat} {zs : List Int} {w : World} (h : IsWords w (.slice a n c) zs) (hz : Wd zs) (hn : n ≤ 35184372088832) (N : Int) (hN : (nbits (val zs) : Int) = N) :
    Calls Tryz.prog 171 #[.slice a n c] w fun e w' => e = .returned (.int .i64 N) ∧ w = w' := by
  rw [← hN]; exact nat_bits a n c zs w h hz hn
theorem nat_trim' {a : Option Addr} {n c : Nat} {zs : List Int} {w : World} (h : IsWords w (.slice a n c) zs) (hz : Wd zs) (hn : n ≤ 35184372088832) (N : Nat) (hN : val zs = N) :
    Calls Tryz.prog 206 #[.slice a n c] w (Ans w N) := by
  rw [← hN]; exact nat_trim a n c zs w h hz hn
end Go.Proofs.YtbcfplaalepnbaaGreatDoor
namespace Go.Proofs.YtbcfplaalepnbaaGreatDoor
open Go.RowKit
def AnsDivB (W : World) (Q R : Nat) (r : Bool) (e : Ending) (w' : World) : Prop := ∃ a1 c1 a2 c2, e = .returned (.tuple #[.slice a1 (nl Q) c1, .slice a2 (nl R) c2, .bool r]) ∧ Own W w' (.slice a1 (nl Q) c1) (nl Q) (natOf Q) ∧ Own W w' (.slice a2 (nl R) c2) (nl R) (natOf R)
def rest (A D : Nat) : Nat := if D = 0 then 0 else A % D
theorem nil_nl {W w : World} (h : Below W.heap.size W w) : Own W w (.slice none (nl 0) 0) (nl 0) (natOf 0) := by
  rw [nl_zero, natOf_zero]; exact Own.nil h
theorem split_div_any {a : Option Addr} {n c : Nat} {zs : List Int} {b : Option Addr} {m d : Nat} {ys : List Int} {w : World} (h : IsWords w (.slice a n c) zs) (hz : Wd zs) (g : IsWords w (.slice b m d) ys) (gz : Wd ys) (hn : n ≤ 1000000000000) (A D : Nat) (hA : val zs = A) (hD : val ys = D) :
    Calls Tryz.prog 213 #[.slice a n c, .slice b m d] w (AnsDivB w (A / D) (rest A D) (decide (0 < D))) := by
  rcases Nat.eq_zero_or_pos D with h0 | h0
  · subst h0
    refine (split_div_no a n c zs b m d ys w h hz g gz hD).mono ?_
    rintro e w1 ⟨rfl, rfl⟩
    rw [Nat.div_zero, show rest A 0 = 0 from rfl]
    exact ⟨none, 0, none, 0, by rw [nl_zero]; rfl, nil_nl (Below.refl _ _), nil_nl (Below.refl _ _)⟩
  · have e : rest A D = A % D := if_neg (by omega)
    rw [e, show decide (0 < D) = true from decide_eq_true h0]
    exact split_div h hz g gz hn A D hA hD h0
theorem ref_div_any {a : Option Addr} {n c : Nat} {zs : List Int} {b : Option Addr} {m d : Nat} {ys : List Int} {w : World} (h : IsWords w (.slice a n c) zs) (hz : Wd zs) (g : IsWords w (.slice b m d) ys) (gz : Wd ys) (hn : n ≤ 100000000) (hm : m ≤ 100000000) (A D : Nat) (hA : val zs = A) (hD : val ys = D) :
    Calls Tryz.prog 107 #[.slice a n c, .slice b m d] w (AnsDivB w (A / D) (rest A D) (decide (0 < D))) := by
  rcases Nat.eq_zero_or_pos D with h0 | h0
  · subst h0
    refine (ref_div_no a n c b m d ys w g gz (by omega) hD).mono ?_
    rintro e w1 ⟨rfl, b1⟩
    rw [Nat.div_zero, show rest A 0 = 0 from rfl]
    exact ⟨none, 0, none, 0, by rw [nl_zero]; rfl, nil_nl b1, nil_nl b1⟩
  · have e : rest A D = A % D := if_neg (by omega)
    rw [e, show decide (0 < D) = true from decide_eq_true h0]
    subst hA hD
    exact ref_div a n c zs b m d ys w h hz g gz hn hm h0
end Go.Proofs.YtbcfplaalepnbaaGreatDoor
namespace Go.Proofs.YtbcfplaalepnbaaGreatDoor
open Go.RowKit
def iv (s : Bool) (m : Nat) : Int := if s then -(m : Int) else m
def AnsI (W : World) (z : Int) (e : Ending) (w' : World) : Prop :=
  ∃ a c, e = .returned (.agg #[.bool (decide (z < 0)), .slice a (nl z.natAbs) c]) ∧ Own W w' (.slice a (nl z.natAbs) c) (nl z.natAbs) (natOf z.natAbs)
theorem iv_abs (s : Bool) (m : Nat) : (iv s m).natAbs = m := by unfold iv; split <;> simp
theorem iv_neg (s : Bool) (m : Nat) : decide (iv s m < 0) = (s && decide (0 < m)) := by
  unfold iv; cases s <;> simp <;> omega
end Go.Proofs.YtbcfplaalepnbaaGreatDoor
namespace Go.Proofs.YtbcfplaalepnbaaGreatDoor
open Go.RowKit
set_option maxHeartbeats 2000000 in
theorem ref_iof (n : Int) (w : World) (h0 : -9223372036854775808 ≤ n) (h1 : n < 9223372036854775808) :
    Calls Tryz.prog 50 #[.int .i64 n] w (AnsI w n) := by
  obtain ⟨b1, bV, hs⟩ := boxes1 w #[.bool false, .slice none 0 0] 82
  rcases Int.lt_or_le n 0 with h | h
  · have O := fun v => ref_of (-n) v (by omega) (by omega)
    have e1 : IntKind.u64.wrap n = n + 18446744073709551616 := by simp [IntKind.wrap, IntKind.bits, IntKind.signed]; omega
    have e2 : IntKind.u64.wrap (0 - (n + 18446744073709551616)) = -n := by simp [IntKind.wrap, IntKind.bits, IntKind.signed]; omega
    have e3 : IntKind.u64.wrap (-(n + 18446744073709551616)) = -n := by simp [IntKind.wrap, IntKind.bits, IntKind.signed]; omega
    rw [show (-n).toNat = n.natAbs by omega] at O
    unfold Ans at O
    unfold AnsI
    rw [decide_eq_true h]
    generalize n.natAbs = N at O ⊢
    go_enter Tryz.func50, Tryz.ntmps50
    go_wp2_with (go_at_call 74; (with_reducible refine Calls.mono (O _) ?_); rintro e w1 ⟨a1, c1, rfl, o1⟩; obtain ⟨y0, y1, g0, g1⟩ := (b1.more o1.below).cells2)
    have q := fun x y => ((o1.above bV).set (k := w.heap.size) (by omega) hs 0 x).set (k := w.heap.size) (by omega) hs 1 y
    exact bodyPost_ret (v := .agg #[.bool true, .slice a1 (nl N) c1]) (by simp [results, Tryz.results50, go_sem, y0, y1]) rfl ⟨a1, c1, rfl, (q _ _).own (by omega)⟩
  · have O := fun v => ref_of n v (by omega) (by omega)
    have e1 : IntKind.u64.wrap n = n := by simp [IntKind.wrap, IntKind.bits, IntKind.signed]; omega
    rw [show n.toNat = n.natAbs by omega] at O
    unfold Ans at O
    unfold AnsI
    rw [decide_eq_false (by omega)]
    generalize n.natAbs = N at O ⊢
    go_enter Tryz.func50, Tryz.ntmps50
    go_wp2_with (go_at_call 74; (with_reducible refine Calls.mono (O _) ?_); rintro e w1 ⟨a1, c1, rfl, o1⟩; obtain ⟨y0, y1, g0, g1⟩ := (b1.more o1.below).cells2)
    have q := fun x y => ((o1.above bV).set (k := w.heap.size) (by omega) hs 0 x).set (k := w.heap.size) (by omega) hs 1 y
    exact bodyPost_ret (v := .agg #[.bool false, .slice a1 (nl N) c1]) (by simp [results, Tryz.results50, go_sem, y0, y1]) rfl ⟨a1, c1, rfl, (q _ _).own (by omega)⟩
end Go.Proofs.YtbcfplaalepnbaaGreatDoor
namespace Go.Proofs.YtbcfplaalepnbaaGreatDoor
theorem snoc_ind {α : Type} {p : List α → Prop} (h0 : p []) (h1 : ∀ l a, p l → p (l ++ [a])) (l : List α) : p l := by
  rw [← List.reverse_reverse l]
  induction l.reverse with
  | nil => exact h0
  | cons a m ih => rw [List.reverse_cons]; exact h1 _ _ ih
def dg (n : Nat) : List UInt8 := if n = 0 then [] else dg (n / 10) ++ [UInt8.ofNat (48 + n % 10)]
def decOf (n : Nat) : List UInt8 := if n = 0 then [48] else dg n
def valD (l : List UInt8) : Nat := l.foldl (fun a c => 10 * a + (c.toNat - 48)) 0
abbrev DigS (l : List UInt8) : Prop := ∀ c ∈ l, 48 ≤ c.toNat ∧ c.toNat ≤ 57
abbrev Num (l : List UInt8) : Prop := l ≠ [] ∧ DigS l ∧ (l.head? = some 48 → l.length ≤ 1)
theorem dg_zero : dg 0 = [] := by unfold dg; simp
theorem dg_pos {n : Nat} (h : 0 < n) : dg n = dg (n / 10) ++ [UInt8.ofNat (48 + n % 10)] := by
  conv => lhs; unfold dg
  rw [if_neg (by omega)]
theorem decOf_zero : decOf 0 = [48] := rfl
theorem decOf_pos {n : Nat} (h : 0 < n) : decOf n = dg n := if_neg (by omega)
theorem digit_nat (n : Nat) : (UInt8.ofNat (48 + n % 10)).toNat = 48 + n % 10 := by
  simp; omega
theorem valD_nil : valD [] = 0 := rfl
theorem valD_snoc (l : List UInt8) (c : UInt8) : valD (l ++ [c]) = 10 * valD l + (c.toNat - 48) := by
  unfold valD; rw [List.foldl_append]; rfl
theorem valD_append (l m : List UInt8) : valD (l ++ m) = valD l * 10 ^ m.length + valD m := by
  refine snoc_ind (p := fun m => valD (l ++ m) = valD l * 10 ^ m.length + valD m) ?_ ?_ m
  · simp [valD_nil]
  · intro m c ih
    rw [← List.append_assoc, valD_snoc, ih, valD_snoc, List.length_append, List.length_singleton, Nat.pow_succ]; grind
theorem valD_one (c : UInt8) : valD [c] = c.toNat - 48 := by rw [← List.nil_append [c], valD_snoc, valD_nil]; omega
theorem valD_cons (c : UInt8) (l : List UInt8) : valD (c :: l) = (c.toNat - 48) * 10 ^ l.length + valD l := by
  rw [show c :: l = [c] ++ l from rfl, valD_append, valD_one]
theorem valD_dg (n : Nat) : valD (dg n) = n := by
  induction n using Nat.strongRecOn with
  | ind n ih =>
    rcases Nat.eq_zero_or_pos n with rfl | h
    · rw [dg_zero]; rfl
    · rw [dg_pos h, valD_snoc, ih _ (by omega), digit_nat]; omega
theorem valD_decOf (n : Nat) : valD (decOf n) = n := by
  rcases Nat.eq_zero_or_pos n with rfl | h
  · rfl
  · rw [decOf_pos h, valD_dg]
theorem digS_append {l m : List UInt8} : DigS (l ++ m) ↔ DigS l ∧ DigS m := by
  unfold DigS; simp only [List.mem_append]
  exact ⟨fun h => ⟨fun c hc => h c (.inl hc), fun c hc => h c (.inr hc)⟩, fun h c hc => hc.elim (h.1 c) (h.2 c)⟩
theorem digS_one {c : UInt8} : DigS [c] ↔ 48 ≤ c.toNat ∧ c.toNat ≤ 57 := by unfold DigS; simp
theorem digS_cons {c : UInt8} {l : List UInt8} : DigS (c :: l) ↔ (48 ≤ c.toNat ∧ c.toNat ≤ 57) ∧ DigS l := by
  rw [show c :: l = [c] ++ l from rfl, digS_append, digS_one]
theorem digS_dg (n : Nat) : DigS (dg n) := by
  induction n using Nat.strongRecOn with
  | ind n ih =>
    rcases Nat.eq_zero_or_pos n with rfl | h
    · rw [dg_zero]; intro c hc; cases hc
    · rw [dg_pos h, digS_append, digS_one, digit_nat]; exact ⟨ih _ (by omega), by omega⟩
theorem digS_decOf (n : Nat) : DigS (decOf n) := by
  rcases Nat.eq_zero_or_pos n with rfl | h
  · rw [decOf_zero, digS_one]; decide
  · rw [decOf_pos h]; exact digS_dg n
theorem dg_ne {n : Nat} (h : 0 < n) : dg n ≠ [] := by rw [dg_pos h]; simp
theorem decOf_ne (n : Nat) : decOf n ≠ [] := by
  rcases Nat.eq_zero_or_pos n with rfl | h
  · rw [decOf_zero]; simp
  · rw [decOf_pos h]; exact dg_ne h
theorem head_append {l m : List UInt8} (h : l ≠ []) : (l ++ m).head? = l.head? := by
  cases l with
  | nil => exact absurd rfl h
  | cons a l => rfl
theorem ofNat_digit {c : UInt8} (h : 48 ≤ c.toNat) : UInt8.ofNat (48 + (c.toNat - 48)) = c := by
  rw [show 48 + (c.toNat - 48) = c.toNat by omega]; simp
theorem dg_valD {l : List UInt8} (h : DigS l) (h0 : l.head? ≠ some 48) : dg (valD l) = l := by
  revert h h0
  refine snoc_ind (p := fun l => DigS l → l.head? ≠ some 48 → dg (valD l) = l) ?_ ?_ l
  · intro _ _; rw [valD_nil, dg_zero]
  · intro l c ih h h0
    obtain ⟨h1, h2⟩ := digS_append.1 h
    rw [digS_one] at h2
    rw [valD_snoc]
    have hp : 0 < 10 * valD l + (c.toNat - 48) := by
      rcases Nat.eq_zero_or_pos (10 * valD l + (c.toNat - 48)) with e | e
      · have e1 : valD l = 0 := by omega
        have e2 : c = 48 := by
          have : c.toNat = 48 := by omega
          exact UInt8.toNat_inj.1 this
        by_cases hl : l = []
        · rw [hl, e2] at h0; simp at h0
        · rw [head_append hl] at h0
          have := ih h1 h0
          rw [e1, dg_zero] at this
          exact absurd this.symm hl
      · exact e
    rw [dg_pos hp, show (10 * valD l + (c.toNat - 48)) / 10 = valD l by omega, show (10 * valD l + (c.toNat - 48)) % 10 = c.toNat - 48 by omega, ofNat_digit h2.1]
    by_cases hl : l = []
    · rw [hl, valD_nil, dg_zero]
    · rw [head_append hl] at h0; rw [ih h1 h0]
theorem decOf_valD {l : List UInt8} (h : Num l) : decOf (valD l) = l := by
  obtain ⟨h1, h2, h3⟩ := h
  by_cases h0 : l.head? = some 48
  · have hl := h3 h0
    match l, h1, h0, hl with
    | [c], _, h0, _ => simp at h0; subst h0; rfl
  · have e := dg_valD h2 h0
    rw [decOf_pos ?_]
    · exact e
    · rcases Nat.eq_zero_or_pos (valD l) with e2 | e2
      · rw [e2, dg_zero] at e; exact absurd e.symm h1
      · exact e2
theorem valD_lt {l : List UInt8} (h : DigS l) : valD l < 10 ^ l.length := by
  revert h
  refine snoc_ind (p := fun l => DigS l → valD l < 10 ^ l.length) ?_ ?_ l
  · intro _; simp [valD_nil]
  · intro l c ih h
    obtain ⟨h1, h2⟩ := digS_append.1 h
    rw [digS_one] at h2
    have := ih h1
    rw [valD_snoc, List.length_append, List.length_singleton, Nat.pow_succ]
    omega
theorem lt_decOf (n : Nat) : n < 10 ^ (decOf n).length := by
  have := valD_lt (digS_decOf n)
  rwa [valD_decOf] at this
theorem dg_len_le {n k : Nat} (h : n < 10 ^ k) : (dg n).length ≤ k := by
  induction k generalizing n with
  | zero => rw [Nat.pow_zero] at h; obtain rfl : n = 0 := by omega
            rw [dg_zero]; simp
  | succ k ih =>
    rcases Nat.eq_zero_or_pos n with rfl | h0
    · rw [dg_zero]; simp
    · rw [dg_pos h0, List.length_append, List.length_singleton]
      have := ih (n := n / 10) (by rw [Nat.pow_succ] at h; omega)
      omega
theorem decOf_len_le {n k : Nat} (h : n < 10 ^ k) (hk : 1 ≤ k) : (decOf n).length ≤ k := by
  rcases Nat.eq_zero_or_pos n with rfl | h0
  · simpa [decOf_zero] using hk
  · rw [decOf_pos h0]; exact dg_len_le h
theorem decOf_len_pos (n : Nat) : 1 ≤ (decOf n).length := by
  have := List.length_pos_iff.2 (decOf_ne n); omega
theorem decOf_len_mono {n m : Nat} (h : n ≤ m) : (decOf n).length ≤ (decOf m).length :=
  decOf_len_le (Nat.lt_of_le_of_lt h (lt_decOf m)) (decOf_len_pos m)
end Go.Proofs.YtbcfplaalepnbaaGreatDoor
