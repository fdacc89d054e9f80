/-
  Texts of mine in build order. No conditions of their own.
-/
import Derived.Test.YtaeladkcmpdkhaaGreatDoorPack13
set_option maxHeartbeats 4000000
namespace Go.Proofs.YtaeladkcmpdkhaaGreatDoor
section
open Go.RowKit Go.Lib
theorem take_byte (s : ByteArray) (k : Nat) (h : k < s.size) : s.data.toList.take (k + 1) = s.data.toList.take k ++ [s[k]] := by
 rw [List.take_succ_eq_append_getElem (by simpa using h)]; rfl
theorem below_iterAt' {w wr : World} (hb : Below w.heap.size w wr) (s : ByteArray) (pos : Nat) : Below w.heap.size w (wr.iterAt w.heap.size s pos) := below_iterAt hb (Nat.le_refl w.heap.size) s pos
theorem deci_ways (s : ByteArray) (h : DigS s.data.toList) :
  ((s.toList == [48]) = false ∧ s.toList.isEmpty = true ∧ (Num s.data.toList ↔ False)) ∨ ((s.toList == [48]) = true ∧ (Num s.data.toList ↔ True)) ∨
  ((s.toList == [48]) = false ∧ s.toList.isEmpty = false ∧ ∃ h : 0 < s.size, ((s[0]'h).toNat : Int) = 48 ∧ (Num s.data.toList ↔ False)) ∨
  ((s.toList == [48]) = false ∧ s.toList.isEmpty = false ∧ ∃ h : 0 < s.size, ((s[0]'h).toNat : Int) ≠ 48 ∧ (Num s.data.toList ↔ True)) := by
 have hl : s.data.toList.length = s.size := by simp
 by_cases h0 : 0 < s.size
 ·have hd := drop_byte s 0 h0
  rw [List.drop_zero] at hd
  have ht : s.toList = s[0] :: s.data.toList.drop (0 + 1) := by rw [ByteArray.toList_eq]; exact hd
  by_cases e : s.toList = [48]
  ·refine .inr (.inl ⟨by rw [e]; rfl, ?_⟩)
   rw [ByteArray.toList_eq] at e
   rw [e]
   exact ⟨fun _ => trivial, fun _ => by decide⟩
  ·have e1 : (s.toList == [48]) = false := by simpa using e
   have e2 : s.toList.isEmpty = false := by rw [ht]; rfl
   by_cases hc : ((s[0]'h0).toNat : Int) = 48
   ·refine .inr (.inr (.inl ⟨e1, e2, h0, hc, ?_⟩))
    have h48 : s[0] = 48 := UInt8.toNat_inj.1 (by show s[0].toNat = 48; omega)
    refine ⟨fun hn => e ?_, False.elim⟩
    have := hn.2.2 (by rw [hd, h48]; rfl)
    rw [ht, h48, List.eq_nil_of_length_eq_zero (l := s.data.toList.drop (0 + 1)) (by rw [List.length_drop]; omega)]
   ·refine .inr (.inr (.inr ⟨e1, e2, h0, hc, ?_⟩))
    refine ⟨fun _ => trivial, fun _ => ⟨by rw [hd]; simp, h, fun hh => ?_⟩⟩
    rw [hd] at hh
    have h48 : s[0] = 48 := Option.some.inj hh
    exact absurd (by rw [h48]; rfl) hc
 ·have e : s.data.toList = [] := List.eq_nil_of_length_eq_zero (by omega)
  have ht : s.toList = [] := by rw [ByteArray.toList_eq]; exact e
  exact .inl ⟨by rw [ht]; rfl, by rw [ht]; rfl, fun hn => hn.1 e, False.elim⟩
theorem deci_isNumber (s : ByteArray) (w : World) (hs : s.size ≤ 1000) (b : Bool) (hb : (b = true ↔ Num s.data.toList)) :
  Calls Tryz.prog 220 #[.string s] w fun e w' => e = .returned (.bool b) ∧ Below w.heap.size w w' := by
 have HB : Hid (b = true ↔ Num s.data.toList) := hb
 have HS : Hid (s.data.toList.length = s.size ∧ s.size ≤ 1000) := ⟨by simp, hs⟩
 clear hb hs
 go_enter Tryz.func220, Tryz.ntmps220
 go_wp2
 go_loopg [4] s.size (fun k s4 v => ∃ (pos : Nat), pos + k = s.size ∧ v.heap[w.heap.size]? = some (.stringIter s pos) ∧ Below w.heap.size w v ∧ DigS (s.data.toList.take pos))
 case atStart => exact ⟨0, by omega, iter_new w s, below_iter w s 0, by rw [List.take_zero]; intro c hc; cases hc⟩
 case round =>
  obtain ⟨pos, hk, hit, bw, hd⟩ := hrel
  have HD : Hid (DigS (s.data.toList.take pos)) := hd
  cases gk with
  | zero =>
   have e : s.data.toList.take pos = s.data.toList := List.take_of_length_le (by rw [HS.out.1]; omega)
   rw [e] at hd
   have hnx : ∀ ty, (Instr.next (.pointer (some ⟨w.heap.size, 0, none⟩)) true ty).run Tryz.prog wr = _ := fun ty => run_next_end_at wr w.heap.size s pos ty hit (by omega)
   have HD2 : Hid (DigS s.data.toList) := hd
   clear e hd HD hit hk
   rcases deci_ways s HD2.out with ⟨c1, c2, c3⟩ | ⟨c1, c3⟩ | ⟨c1, c2, c0, c4, c3⟩ | ⟨c1, c2, c0, c4, c3⟩
   all_goals
    have HC : Hid (b = true ↔ _) := HB.out.trans c3
    clear c3
    go_wp2
    go_ret
    exact ⟨ret_bool (by rw [Bool.eq_iff_iff, HC.out]; first | (simp; done) | simpa using c4), bw⟩
  | succ k =>
   have hp : pos < s.size := by omega
   by_cases hdig : 48 ≤ (s[pos].toNat : Int) ∧ (s[pos].toNat : Int) ≤ 57
   ·obtain ⟨c0, c1⟩ := hdig
    have hnx : ∀ ty, (Instr.next (.pointer (some ⟨w.heap.size, 0, none⟩)) true ty).run Tryz.prog wr = _ := fun ty => run_next_ascii_at wr w.heap.size s pos ty hit hp (by omega)
    have HD2 : Hid (DigS (s.data.toList.take (pos + 1))) := by
     show DigS _
     rw [take_byte s pos hp, digS_append, digS_one]; exact ⟨hd, by omega⟩
    have hi2 := iterAt_heap wr w.heap.size s pos (pos + 1) hit
    have hbl := below_iterAt' bw s (pos + 1)
    generalize wr.iterAt w.heap.size s (pos + 1) = wi at hnx hi2 hbl
    clear hd HD hit
    go_wp2
    go_roundg k
    case measure => omega
    case rel => exact ⟨pos + 1, by omega, hi2, hbl, HD2.out⟩
   ·have hn : ¬ Num s.data.toList := fun hN => hdig (by have := hN.2.1 s[pos] (by rw [← List.take_append_drop pos s.data.toList, drop_byte s pos hp]; simp); omega)
    have hbf : b = false := by
     cases b with
     | false => rfl
     | true => exact absurd (HB.out.1 rfl) hn
    have HQ : Hid (b = false) := hbf
    have hdec := decode_not hp (a := 48) (b := 57) (by omega) (by omega)
    have hnx : ∀ ty, (Instr.next (.pointer (some ⟨w.heap.size, 0, none⟩)) true ty).run Tryz.prog wr = _ := fun ty => run_next_any_at wr w.heap.size s pos ty hit hp
    have hbl := below_iterAt' bw s (pos + (Utf8.decode s pos).2)
    generalize wr.iterAt w.heap.size s (pos + (Utf8.decode s pos).2) = wi at hnx hbl
    generalize (Utf8.decode s pos).1 = r at hnx hdec
    clear hd HD hit hn hbf hdig
    rcases (by omega : (r : Int) < 48 ∨ (¬ (r : Int) < 48 ∧ 57 < (r : Int))) with d0 | ⟨d0, d1⟩
    all_goals
     clear hdec
     go_wp2
     go_ret
     exact ⟨by rw [HQ.out]; rfl, hbl⟩
theorem deci_parse : ParseOk := by
 intro s w hs
 unfold maxLen at hs
 have hsz : s.data.toList.length = s.size := by simp
 by_cases h1 : 1000 < s.size
 ·rw [pnum_long (by omega), perr_long (by omega)]
  clear hsz
  go_enter Tryz.func205, Tryz.ntmps205
  go_wp2
  go_ret2
  exact ansP_no (Below.refl _ _)
 have h1' : ¬ (1000 : Int) < (s.size : Int) := by omega
 by_cases hn : Num s.data.toList
 case neg =>
  rw [pnum_no hn, perr_no (by omega) hn]
  have N1 := fun v => deci_isNumber s v (by omega) false (by simpa using hn)
  clear hsz hs hn
  go_enter Tryz.func205, Tryz.ntmps205
  go_wp2_with (go_at_call 220; (with_reducible refine Calls.mono (N1 _) ?_); rintro e w1 ⟨rfl, b1⟩)
  go_ret2
  exact ansP_no b1
 case pos =>
  rw [pnum_ok (by omega) hn, perr_ok (by omega) hn]
  have N1 := fun v => deci_isNumber s v (by omega) true (by simpa using hn)
  have HN : Hid (DigS s.data.toList ∧ s.data.toList.length = s.size) := ⟨hn.2.1, hsz⟩
  clear hsz hs hn
  go_enter Tryz.func205, Tryz.ntmps205
  go_wp2_with (go_at_call 220; (with_reducible refine Calls.mono (N1 _) ?_); rintro e w1 ⟨rfl, b1⟩)
  clear N1
  go_loopg [4, 6] s.size (fun k s4 s6 v => ∃ (pos : Nat) (a4 : Option Addr) (n4 c4 : Nat), pos + k = s.size ∧ v.heap[w1.heap.size]? = some (.stringIter s pos) ∧ s4 = .slice a4 n4 c4 ∧ n4 = nl (valD (s.data.toList.take pos)) ∧ Own w v (.slice a4 n4 c4) n4 (natOf (valD (s.data.toList.take pos))))
  case atStart =>
   refine ⟨0, none, 0, 0, by omega, iter_new w1 s, rfl, ?_, ?_⟩
   ·rw [List.take_zero, valD_nil, nl_zero]
   ·rw [List.take_zero, valD_nil, natOf_zero]; exact Own.nil (below_more b1 (below_iter w1 s 0))
  case round =>
   obtain ⟨pos, a4, n4, c4, hk, hit, rfl, e4, o4⟩ := hrel
   cases gk with
   | zero =>
    have e : s.data.toList.take pos = s.data.toList := List.take_of_length_le (by rw [HN.out.2]; omega)
    rw [e] at e4 o4
    subst e4
    have hnx : ∀ ty, (Instr.next (.pointer (some ⟨w1.heap.size, 0, none⟩)) true ty).run Tryz.prog wr = _ := fun ty => run_next_end_at wr w1.heap.size s pos ty hit (by omega)
    clear e hit hk
    go_wp2
    go_ret2
    exact ⟨_, _, rfl, o4⟩
   | succ k =>
    have hp : pos < s.size := by omega
    have hsize : w.heap.size ≤ w1.heap.size := b1.size
    have hdig := HN.out.1 s[pos] (by rw [← List.take_append_drop pos s.data.toList, drop_byte s pos hp]; simp)
    have c0 : 48 ≤ (s[pos].toNat : Int) := by omega
    have c1 : (s[pos].toNat : Int) ≤ 57 := by omega
    have hd : DigS (s.data.toList.take pos) := fun c hc => HN.out.1 c (List.mem_of_mem_take hc)
    have hnx : ∀ ty, (Instr.next (.pointer (some ⟨w1.heap.size, 0, none⟩)) true ty).run Tryz.prog wr = _ := fun ty => run_next_ascii_at wr w1.heap.size s pos ty hit hp (by omega)
    have b4 := nl_digits hd
    have hlen := List.length_take_le pos s.data.toList
    have O1 := fun v (p : IsWords v (.slice a4 n4 c4) (natOf (valD (s.data.toList.take pos)))) => times_one' p (wd_natOf _) (x := 10) (y := (s[pos].toNat : Int) - 48) (by omega) (by omega) (by omega) (by omega) (by omega) (valD (s.data.toList.take (pos + 1))) (by rw [val_natOf, take_byte s pos hp, valD_snoc, show (10 : Int).toNat = 10 from rfl]; omega)
    unfold Ans at O1
    generalize valD (s.data.toList.take pos) = K1 at e4 o4 b4 O1
    generalize hK2 : valD (s.data.toList.take (pos + 1)) = K2 at O1
    have HK : Hid (valD (s.data.toList.take (pos + 1)) = K2) := hK2
    have oi := o4.iterAt hit hsize (pos + 1)
    have hi2 := iterAt_heap wr w1.heap.size s pos (pos + 1) hit
    generalize wr.iterAt w1.heap.size s (pos + 1) = wi at hnx oi hi2
    clear hK2 hd b4 e4 hit hlen hdig
    go_wp2_with (go_at_call 221; (with_reducible refine Calls.mono (O1 _ oi.words) ?_); rintro e w2 ⟨a6, c6, rfl, o6⟩)
    have k2 := HK.out
    go_roundg k
    case measure => omega
    case rel => exact ⟨pos + 1, _, _, _, by omega, iter_more hi2 o6.below, rfl, by rw [k2], by rw [k2]; exact o6.outer oi.below⟩
end
section
def pad : Nat → Nat → List UInt8
 | 0, _ => []
 | k + 1, g => pad k (g / 10) ++ [UInt8.ofNat (48 + g % 10)]
theorem pad_len (k g : Nat) : (pad k g).length = k := by
 induction k generalizing g with
 | zero => rfl
 | succ k ih => rw [pad, List.length_append, ih, List.length_singleton]
theorem digS_pad (k g : Nat) : DigS (pad k g) := by
 induction k generalizing g with
 | zero => intro c hc; cases hc
 | succ k ih => rw [pad, digS_append, digS_one, digit_nat]; exact ⟨ih _, by omega⟩
theorem valD_pad (k g : Nat) : valD (pad k g) = g % 10 ^ k := by
 induction k generalizing g with
 | zero => rw [Nat.pow_zero, Nat.mod_one]; rfl
 | succ k ih =>
  rw [pad, valD_snoc, ih, digit_nat, Nat.pow_succ, Nat.mul_comm (10 ^ k) 10, Nat.mod_mul]
  omega
theorem valD_group (l : List UInt8) {k g : Nat} (h : g < 10 ^ k) : valD (l ++ pad k g) = valD l * 10 ^ k + g := by
 rw [valD_append, pad_len, valD_pad, Nat.mod_eq_of_lt h]
theorem trim_dg {l : List UInt8} (h : DigS l) : l.dropWhile (· == 48) = dg (valD l) := by
 induction l with
 | nil => rw [valD_nil, dg_zero]; rfl
 | cons c l ih =>
  obtain ⟨hc, hl⟩ := digS_cons.1 h
  by_cases e : c = 48
  ·subst e
   rw [List.dropWhile_cons_of_pos (by decide), ih hl, valD_cons]
   congr 1
   simp
  ·rw [List.dropWhile_cons_of_neg (by simpa using e)]
   exact (dg_valD h (by simpa using e)).symm
theorem told_step (N B j : Nat) : N / B ^ (j + 1) * B + N / B ^ j % B = N / B ^ j := by
 rw [Nat.pow_succ, ← Nat.div_div_eq_div_mul]
 have := Nat.div_add_mod (N / B ^ j) B
 rw [Nat.mul_comm] at this
 exact this
end
section
open Go.RowKit
def Grps (N m : Nat) (zs : List Int) : Prop := zs.length = m ∧ ∀ i, i < m → zs.getD i 0 = ((N / 1000000000 ^ i % 1000000000 : Nat) : Int)
theorem grps_nil (N : Nat) : Grps N 0 [] := ⟨rfl, fun i h => absurd h (Nat.not_lt_zero i)⟩
theorem grps_more {N m : Nat} {zs : List Int} (h : Grps N m zs) : Grps N (m + 1) (zs ++ [((N / 1000000000 ^ m % 1000000000 : Nat) : Int)]) := by
 refine ⟨by rw [List.length_append, h.1, List.length_singleton], fun i hi => ?_⟩
 rcases Nat.lt_or_ge i m with h1 | h1
 ·rw [List.getD_eq_getElem?_getD, List.getElem?_append_left (by rw [h.1]; exact h1), ← List.getD_eq_getElem?_getD]; exact h.2 i h1
 ·obtain rfl : i = m := by omega
  rw [List.getD_eq_getElem?_getD, List.getElem?_append_right (by rw [h.1]; exact Nat.le_refl _), h.1, Nat.sub_self]; rfl
theorem grps_few {N m : Nat} (h : 0 < N / 1000000000 ^ m) : m < 2 * nl N := by
 have h1 : 1000000000 ^ m ≤ N := by
  rcases Nat.lt_or_ge N (1000000000 ^ m) with h2 | h2
  ·rw [Nat.div_eq_of_lt h2] at h; omega
  ·exact h2
 have h2 : 65536 ^ m ≤ 1000000000 ^ m := Nat.pow_le_pow_left (by omega) m
 have h3 := lt_nl N
 have h4 : 4294967296 ^ nl N = 65536 ^ (2 * nl N) := by rw [Nat.pow_mul]
 rw [h4] at h3
 exact (Nat.pow_lt_pow_iff_right (by omega : 1 < 65536)).1 (by omega)
theorem deci_groups {a : Option Addr} {n c : Nat} {zs : List Int} {w : World} (h : IsWords w (.slice a n c) zs) (hz : Wd zs) (hn : n ≤ 1000000) (N : Nat) (hN : val zs = N) :
  Calls Tryz.prog 118 #[.slice a n c] w fun e w' => ∃ (a' : Option Addr) (m c' : Nat) (ys : List Int), e = .returned (.slice a' m c') ∧ Own w w' (.slice a' m c') m ys ∧ Grps N m ys ∧ N < 1000000000 ^ m ∧ m ≤ 2000000 := by
 have lN : nl N ≤ 1000000 := by rw [← hN]; exact nl_small hz _ (by rw [h.len]; exact hn)
 have HL : Hid (nl N ≤ 1000000) := lN
 have HI : Hid (IsWords w (.slice a n c) zs ∧ Wd zs ∧ n ≤ 1000000 ∧ val zs = N) := ⟨h, hz, hn, hN⟩
 clear h hz hn hN lN
 go_enter Tryz.func118, Tryz.ntmps118
 go_wp2
 go_loopg [0, 3] N (fun X s0 s3 v => ∃ (a0 : Option Addr) (n0 c0 : Nat) (xs : List Int) (a3 : Option Addr) (m c3 : Nat) (ys : List Int), s0 = .slice a0 n0 c0 ∧ s3 = .slice a3 m c3 ∧ IsWords v (.slice a0 n0 c0) xs ∧ Wd xs ∧ n0 ≤ 1000000 ∧ val xs = X ∧ Own w v (.slice a3 m c3) m ys ∧ Grps N m ys ∧ X = N / 1000000000 ^ m ∧ m ≤ 2000000)
 case atStart =>
  obtain ⟨i1, i2, i3, i4⟩ := HI.out
  exact ⟨_, _, _, zs, none, 0, 0, [], rfl, rfl, i1, i2, i3, i4, Own.nil (Below.refl _ _), grps_nil N, by simp, by omega⟩
 case round =>
  obtain ⟨a0, n0, c0, xs, a3, m, c3, ys, rfl, rfl, i0, hw, hn0, hX, o3, hg, hX2, hm⟩ := hrel
  clear HI
  have B1 := fun (N1 : Int) (e : (nbits (val xs) : Int) = N1) => nat_bits' i0 hw (by omega) N1 e
  rw [hX] at B1
  rcases Nat.eq_zero_or_pos gk with h0 | h0
  ·subst h0
   have B2 := B1 0 (by rw [nbits_zero]; rfl)
   have HQ : Hid (N < 1000000000 ^ m) := by
    show N < _
    rcases Nat.lt_or_ge N (1000000000 ^ m) with h2 | h2
    ·exact h2
    ·have := Nat.div_pos h2 (Nat.pow_pos (by omega)); omega
   clear B1 hX2 hX i0 hw
   go_wp2_with (go_at_call 137; (with_reducible refine Calls.mono B2 ?_); rintro e w1 ⟨rfl, rfl⟩)
   go_ret
   exact ⟨_, _, _, ys, rfl, o3, hg, HQ.out, hm⟩
  ·obtain ⟨nb, hnb, nb0⟩ : ∃ nb : Int, (nbits gk : Int) = nb ∧ 0 < nb := ⟨_, rfl, by rw [nbits_pos (by omega)]; omega⟩
   have B2 := B1 nb hnb
   have S := split_small a0 n0 c0 xs 1000000000 wr i0 hw (by omega) (by omega) (by omega)
   rw [hX, show (1000000000 : Int).toNat = 1000000000 from rfl] at S
   unfold AnsSmall at S
   have hlt : m < 2 * nl N := grps_few (by rw [← hX2]; exact h0)
   obtain ⟨r, hr⟩ : ∃ r : Int, ((gk % 1000000000 : Nat) : Int) = r := ⟨_, rfl⟩
   have HG : Hid (Grps N (m + 1) (ys ++ [r])) := by
    show Grps N (m + 1) _
    rw [← hr, hX2]; exact grps_more hg
   have HX : Hid (gk / 1000000000 = N / 1000000000 ^ (m + 1)) := by
    show _ = _
    rw [hX2, Nat.pow_succ, Nat.div_div_eq_div_mul]
   have HM : Hid (m + 1 ≤ 2000000 ∧ nl (gk / 1000000000) ≤ 1000000 ∧ 0 < gk) := ⟨by have := HL.out; omega, Nat.le_trans (nl_mono (Nat.le_trans (Nat.div_le_self _ _) (by rw [hX2]; exact Nat.div_le_self _ _))) HL.out, h0⟩
   have hm1 : m + 1 ≤ 35184372088832 := by omega
   rw [hr] at S
   clear B1 hX2 hX i0 hw hg hr hnb hn0 h0 hlt hm
   go_wp2_with (first
    | (go_at_call 137; (with_reducible refine Calls.mono B2 ?_); rintro e w1 ⟨rfl, rfl⟩)
    | (go_at_call 146; (with_reducible refine Calls.mono S ?_); rintro e w2 ⟨a4, c4, rfl, o4⟩; have o5 := o3.more o4.below)
    | (at_builtin; refine wpl_append_words (.tmp 14) (.tmp 16) rfl rfl w _ _ _ m 1 ys [r] rfl rfl (o5.alloc _) (lit_words w2 [r] 1 rfl (by decide)) rfl (m + 1) rfl hm1 ?_; intro a6 c6 w6 o6 g6))
   obtain ⟨m1, m2, m3⟩ := HM.out
   go_roundg (gk / 1000000000)
   case measure => omega
   case rel =>
    have r4 : Row wr.heap.size w6 (.slice a4 (nl (gk / 1000000000)) c4) (nl (gk / 1000000000)) (natOf (gk / 1000000000)) := ((o4.alloc _).row (Nat.le_refl _)).grown g6 (fun k hk => o3.row_lt k hk)
    exact ⟨_, _, _, _, _, _, _, _, rfl, rfl, r4.words, wd_natOf _, m2, val_natOf _, o6, HG.out, HX.out, m1⟩
end
section
open Go.RowKit
theorem infoU8 : (Tryz.prog.info? 5).map (fun i => (i.zero, i.size, i.bytes)) = some (some (.int .u8 0), 1, 1) := by kernel_rfl
def RowB (n₀ : Nat) (w : World) (v : Value) (n : Nat) (bs : List UInt8) : Prop := w.ownsRow n₀ 5 1 v n (bs.map fun b => Value.int .u8 (b.toNat : Int))
theorem RowB.length {w : World} {v : Value} {n : Nat} {bs : List UInt8} {n₀ : Nat} (h : RowB n₀ w v n bs) : bs.length = n := by
 have := h.1; simpa using this
theorem RowB.nil (n₀ : Nat) (w : World) : RowB n₀ w (.slice none 0 0) 0 [] := World.ownsRow_nil _ _ _ _
theorem RowB.more {w w' : World} {v : Value} {n : Nat} {bs : List UInt8} {n₀ : Nat} (h : RowB n₀ w v n bs) (hb : Below w.heap.size w w') : RowB n₀ w' v n bs := by
 refine ⟨h.1, ?_⟩
 rcases h.2 with h0 | ⟨g, cap, cur, e, h1, hg, h2⟩
 ·exact .inl h0
 ·refine .inr ⟨g, cap, cur, e, h1, ?_, h2⟩
  rw [hb.block g (Array.getElem?_eq_some_iff.1 hg).1]; exact hg
theorem RowB.keep {w w' : World} {v : Value} {n : Nat} {bs : List UInt8} {n₀ : Nat} (h : RowB n₀ w v n bs) (hb : ∀ k, n₀ ≤ k → w'.heap[k]? = w.heap[k]?) : RowB n₀ w' v n bs := by
 refine ⟨h.1, ?_⟩
 rcases h.2 with h0 | ⟨g, cap, cur, e, h1, hg, h2⟩
 ·exact .inl h0
 ·exact .inr ⟨g, cap, cur, e, h1, (hb g h1).trans hg, h2⟩
theorem RowB.alloc {w : World} {v : Value} {n : Nat} {bs : List UInt8} {n₀ : Nat} (h : RowB n₀ w v n bs) (o : Obj) : RowB n₀ (w.alloc o) v n bs := World.ownsRow.alloc h o
theorem RowB.lit {w : World} {v : Value} {n : Nat} {bs : List UInt8} {n₀ : Nat} (h : RowB n₀ w v n bs) : ∃ a c, v = .slice a n c := by
 rcases h.2 with ⟨rfl, rfl⟩ | ⟨g, cap, cur, rfl, -⟩
 ·exact ⟨none, 0, rfl⟩
 ·exact ⟨_, _, rfl⟩
theorem RowB.cell {w : World} {a : Option Addr} {n c : Nat} {bs : List UInt8} {n₀ : Nat} (h : RowB n₀ w (.slice a n c) n bs) : (a = none ∧ bs = []) ∨ ∃ g, a = some ⟨g, 0, none⟩ ∧ ∀ j (hj : j < bs.length), w.cell? ((⟨g, 0, none⟩ : Addr).add j) = some (.int .u8 (bs[j].toNat : Int)) := by
 have hl := h.length
 rcases h.2 with ⟨e, h0⟩ | ⟨g, cap, cur, e, h1, h2⟩
 ·simp only [Value.slice.injEq] at e
  exact .inl ⟨e.1, List.eq_nil_of_length_eq_zero (by omega)⟩
 ·simp only [Value.slice.injEq] at e
  obtain ⟨rfl, -, -⟩ := e
  refine .inr ⟨g, rfl, fun j hj => ?_⟩
  refine World.ownsRow.cells h (g := g) rfl j _ ?_
  simp [hj]
theorem wpl_append_byte {ops : Array Oper} {rest : List Oper} {o : Oper} {a : Act} {Q : Exit → Act → World → Prop} (s x : Operand)
  (ho : o.op = .call { callee := .builtin .append, args := #[s, x], argTypes := #[89, 89] }) (hgd : Region.wanted o (yielded ops a.tmps) = true)
  (n₀ : Nat) (w : World) (v : Value) (n : Nat) (bs : List UInt8) (b : UInt8) (z : Int) (hz : (b.toNat : Int) = z) (hs : a.eval s = v) (hx : a.eval x = .slice (some ⟨w.heap.size, 0, none⟩) 1 1) (hrow : RowB n₀ w v n bs) (h0 : n₀ ≤ w.heap.size) (N : Nat) (hN : n + 1 = N) (hle : N ≤ 35184372088832)
  (h : ∀ a' c' w', RowB n₀ w' (.slice a' N c') N (bs ++ [b]) → Below n₀ w w' → wpList Tryz.prog ops Q rest (a.put o.dst (.slice a' N c')) w') : wpList Tryz.prog ops Q (o :: rest) a (w.alloc (.cells #[.int .u8 z] 5)) := by
 subst hN
 subst hz
 obtain ⟨i, hi, hz, hs1, hby⟩ := info_parts infoU8
 have hmax : n + 1 ≤ maxLen := by unfold maxLen; omega
 refine wpList_step fun K hK => ?_
 rw [if_pos hgd]
 refine wp_append_own (P := Tryz.prog) _ s x 89 ho n₀ 5 i (.int .u8 0) 1 1 Tryz.underlying89 hi hz hs1 hby rfl (by decide) v n _ hs (hrow.alloc _) ⟨w.heap.size, 0, none⟩ 1 1 [.int .u8 (b.toNat : Int)] hx rfl ?_ (by intro u hu; simp at hu; subst hu; rfl) (by omega) (by omega) (by simp; omega) ?_
 ·intro j u hj
  rw [Go.WideShapes.add_plain]
  have : j = 0 := by
   have := (List.getElem?_eq_some_iff.1 hj).1
   simp at this; exact this
  subst this
  simp at hj
  subst hj
  simp
 ·intro v' w' h1 h2 _
  have hb : Below n₀ w w' := by
   refine ((Below.refl n₀ w).alloc h0 _).grown h2 (by simp; omega) (fun k hk => ?_)
   exact (World.ownsRow.lt (hrow.alloc (.cells #[.int .u8 (b.toNat : Int)] 5)) k hk).1
  have hnew : RowB n₀ w' v' (n + 1) (bs ++ [b]) := by unfold RowB; rw [List.map_append]; exact h1
  obtain ⟨a', c', rfl⟩ := hnew.lit
  exact hK _ _ (h a' c' w' hnew hb)
end
section
open Go.RowKit
theorem pad_next (g t : Nat) (ht : t < 9) : pad (9 - t) (g / 10 ^ t) = pad (9 - (t + 1)) (g / 10 ^ (t + 1)) ++ [UInt8.ofNat (48 + g / 10 ^ t % 10)] := by
 rw [show 9 - t = (9 - (t + 1)) + 1 by omega, pad, Nat.pow_succ, Nat.div_div_eq_div_mul]
theorem deci_appendGroup (n₀ : Nat) (a : Option Addr) (n c : Nat) (bs : List UInt8) (g : Int) (w : World) (h : RowB n₀ w (.slice a n c) n bs) (h0 : n₀ ≤ w.heap.size) (hn : n ≤ 1000000000) (g0 : 0 ≤ g) (g1 : g < 4294967296) :
  Calls Tryz.prog 119 #[.slice a n c, .int .u32 g] w fun e w' => ∃ (a' : Option Addr) (c' : Nat), e = .returned (.slice a' (n + 9) c') ∧ RowB n₀ w' (.slice a' (n + 9) c') (n + 9) (bs ++ pad 9 g.toNat) ∧ Below n₀ w w' := by
 have HI : Hid (RowB n₀ w (.slice a n c) n bs ∧ n₀ ≤ w.heap.size ∧ n ≤ 1000000000) := ⟨h, h0, hn⟩
 clear h h0 hn
 go_enter Tryz.func119, Tryz.ntmps119
 go_wp2
 go_loopg [0, 5] 9 (fun k s0 s5 v => ∃ (a0 : Option Addr) (m c0 : Nat), k ≤ 9 ∧ s0 = .slice a0 m c0 ∧ s5 = .int .u32 ((10 ^ k / 10 : Nat) : Int) ∧ m + k = n + 9 ∧ RowB n₀ v (.slice a0 m c0) m (bs ++ pad (9 - k) (g.toNat / 10 ^ k)) ∧ Below n₀ w v)
 case atStart =>
  obtain ⟨i1, i2, i3⟩ := HI.out
  refine ⟨a, n, c, Nat.le_refl _, rfl, rfl, rfl, ?_, Below.refl _ _⟩
  rw [Nat.sub_self]
  simpa [pad] using i1
 case round =>
  obtain ⟨a0, m, c0, hk, rfl, rfl, hm, r0, b0⟩ := hrel
  cases gk with
  | zero =>
   obtain rfl : m = n + 9 := by omega
   rw [Nat.sub_zero, Nat.pow_zero, Nat.div_one] at r0
   rw [show ((10 ^ 0 / 10 : Nat) : Int) = 0 from rfl]
   clear hm hk
   go_wp2
   go_ret
   exact ⟨_, _, rfl, r0, b0⟩
  | succ t =>
   have hn2 := HI.out.2.2
   have hpt : 10 ^ (t + 1) / 10 = 10 ^ t := by rw [Nat.pow_succ]; omega
   have hp1 : 10 ^ t ≤ 10 ^ 8 := Nat.pow_le_pow_right (by omega) (by omega)
   have hp0 : 0 < 10 ^ t := Nat.pow_pos (by omega)
   have HP := pad_next g.toNat t (by omega)
   have HU : Hid (((10 ^ t / 10 : Nat) : Int) = ((10 ^ t : Nat) : Int) / 10) := by show _ = _; rw [Int.natCast_ediv]; rfl
   rw [hpt]
   have e1 : ((g.toNat / 10 ^ t % 10 : Nat) : Int) = g / ((10 ^ t : Nat) : Int) % 10 := by
    rw [Int.natCast_emod, Int.natCast_ediv, Int.toNat_of_nonneg g0]; rfl
   have hd : ((UInt8.ofNat (48 + g.toNat / 10 ^ t % 10)).toNat : Int) = 48 + g / ((10 ^ t : Nat) : Int) % 10 := by rw [digit_nat, ← e1]; omega
   generalize UInt8.ofNat (48 + g.toNat / 10 ^ t % 10) = b at HP hd
   have HP2 : Hid (pad (9 - t) (g.toNat / 10 ^ t) = pad (9 - (t + 1)) (g.toNat / 10 ^ (t + 1)) ++ [b]) := HP
   have u1 : ((10 ^ t : Nat) : Int) ≤ 100000000 := by
    have : (10 : Nat) ^ 8 = 100000000 := rfl
    omega
   have u0 : 0 < ((10 ^ t : Nat) : Int) := by omega
   generalize ((10 ^ t : Nat) : Int) = u at u0 u1 hd HU
   have hsz := Nat.le_trans HI.out.2.1 b0.size
   generalize hl : bs ++ pad (9 - (t + 1)) (g.toNat / 10 ^ (t + 1)) = l at r0
   have HL : Hid (bs ++ pad (9 - (t + 1)) (g.toNat / 10 ^ (t + 1)) = l) := hl
   have q0 : 0 ≤ g / u := Int.ediv_nonneg g0 (by omega)
   have q1 : g / u ≤ g := Int.ediv_le_self _ g0
   clear hpt hp1 hp0 HP e1 hl HI
   have hm1 : m + 1 ≤ 35184372088832 := by omega
   go_wp2_with (at_builtin; refine wpl_append_byte (.tmp 10) (.tmp 17) rfl rfl n₀ wr _ m l b (48 + g / u % 10) hd rfl rfl r0 hsz (m + 1) rfl hm1 ?_; intro a6 c6 w6 r6 b6)
   go_roundg t
   case measure => omega
   case rel => exact ⟨_, _, _, by omega, rfl, by rw [HU.out], by omega, by rw [HP2.out, ← List.append_assoc, HL.out]; exact r6, b0.trans b6⟩
end
section
open Go.RowKit
theorem extract_tl (t : ByteArray) (b : UInt8) (l : List UInt8) (h : t.data.toList = b :: l) : (t.extract 1 t.size).data.toList = l := by
 have hl := congrArg List.length h
 have : t.size = l.length + 1 := by simpa using hl
 rw [ByteArray.data_extract, Array.toList_extract, List.extract_eq_take_drop, h]
 simp [this]
theorem trim_byte (s : ByteArray) (w : World) (hs : s.size ≤ maxLen) :
  Calls Tryz.prog 147 #[.string s, .int .u8 48] w fun e w' => e = .returned (.string ⟨(s.data.toList.dropWhile (· == 48)).toArray⟩) ∧ w = w' := by
 obtain ⟨L, hL⟩ : ∃ L, s.data.toList.dropWhile (· == 48) = L := ⟨_, rfl⟩
 rw [hL]
 have HL : Hid (s.data.toList.dropWhile (· == 48) = L ∧ s.size ≤ maxLen) := ⟨hL, hs⟩
 clear hL hs
 go_enter Tryz.func147, Tryz.ntmps147
 go_wp2
 go_loopg [0] s.size (fun k s0 v => ∃ t : ByteArray, s0 = .string t ∧ t.size = k ∧ k ≤ maxLen ∧ t.data.toList.dropWhile (· == 48) = L ∧ w = v)
 case atStart => exact ⟨s, rfl, rfl, HL.out.2, HL.out.1, rfl⟩
 case round =>
  obtain ⟨t, rfl, hk, hm, ht, rfl⟩ := hrel
  have hsz : t.data.toList.length = t.size := by simp
  cases gk with
  | zero =>
   have HQ : Hid (L = t.data.toList) := by
    show _ = _
    rw [← ht, List.eq_nil_of_length_eq_zero (hsz.trans hk)]; rfl
   clear hsz ht HL
   go_wp2
   go_ret
   exact ⟨by rw [HQ.out, mk_data]; rfl, rfl⟩
  | succ k =>
   have h0 : 0 < t.size := by omega
   have hd := drop_byte t 0 h0
   rw [List.drop_zero] at hd
   unfold maxLen at hm
   by_cases hc : (t[0].toNat : Int) = 48
   ·have h48 : t[0] = 48 := UInt8.toNat_inj.1 (by show t[0].toNat = 48; omega)
    have e1 := extract_tl t _ _ hd
    have HQ : Hid ((t.extract 1 t.size).size = k ∧ k ≤ maxLen ∧ (t.extract 1 t.size).data.toList.dropWhile (· == 48) = L) := by
     refine ⟨?_, by unfold maxLen; omega, ?_⟩
     ·rw [ByteArray.size_extract]; omega
     ·rw [e1, ← ht, hd, h48]; rfl
    clear ht hd h48 hsz e1 HL
    rw [hk] at HQ
    go_wp2
    go_roundg k
    case measure => omega
    case rel => exact ⟨_, rfl, HQ.out.1, HQ.out.2.1, HQ.out.2.2, rfl⟩
   ·have h48 : t[0] ≠ 48 := fun e => hc (by rw [e]; rfl)
    have HQ : Hid (L = t.data.toList) := by
     show _ = _
     rw [← ht, hd, List.dropWhile_cons_of_neg (by simpa using h48)]
    clear ht hd h48 hsz HL
    go_wp2
    go_ret
    exact ⟨by rw [HQ.out, mk_data]; rfl, rfl⟩
set_option maxRecDepth 100000 in
theorem trim_left (s : ByteArray) (w : World) (hs : s.size ≤ maxLen) :
  Calls Tryz.prog 120 #[.string s, .string ⟨#[48]⟩] w fun e w' => e = .returned (.string ⟨(s.data.toList.dropWhile (· == 48)).toArray⟩) ∧ w = w' := by
 have T := trim_byte s w hs
 by_cases h0 : s.toList.isEmpty = true
 ·have e : s.data.toList = [] := by rw [← ByteArray.toList_eq]; simpa using h0
  have HE : Hid (s = ⟨([] : List UInt8).toArray⟩) := by show _ = _; rw [← e, mk_data]
  rw [e]
  clear e T hs
  go_enter Tryz.func120, Tryz.ntmps120
  go_wp2
  go_ret
  exact ⟨by rw [HE.out]; rfl, rfl⟩
 ·have h0' : s.toList.isEmpty = false := by simpa using h0
  clear h0 hs
  generalize s.data.toList.dropWhile (· == 48) = L at T
  go_enter Tryz.func120, Tryz.ntmps120
  go_wp2_with (go_at_call 147; (refine Calls.mono T ?_); rintro e w1 ⟨rfl, rfl⟩)
  go_ret
  exact ⟨rfl, rfl⟩
end
section
open Go.RowKit
theorem wpIn_range_made {x y : Nat → Value} {F : Fence} {n : Nat} {P : Program} {g : Operand} {p q : Tmp} {assign body : Code} {Q : Exit → Act → World → Prop} {a : Act} {w : World}
  (hro : F.round = none) (h1 : 1 ≤ n) {gf : Nat} {lb : Array Value} (hg : a.eval g = .func (.func gf) #[] lb) (hFg : F.fn gf) (eg : ∀ args w, (callFunc gf args).run P w = .ok (.enter gf args) w)
  (m : Nat) (I : Nat → World → Prop) (h0 : I 0 w) (hIb : ∀ k A B, I k A → Below A.heap.size A B → I k B) (hIp : ∀ k A r o, I k A → r = w.heap.size ∨ r = w.heap.size + 1 → I k (A.putObj r o))
  (a₁ : Nat → Act)
  (hassign : ∀ l k W K, K (a₁ k) W → assign.wpIn (F.inRound l) (n - 1 - 1) P (Exit.then K (fun _ _ _ => False)) { tmps := (a.tmps.setIfInBounds p (x k)).setIfInBounds q (y k), defers := [] } W)
  (hbody : ∀ l k W, k < m → I k W → w.heap.size + 2 ≤ W.heap.size → body.wpIn (F.inRound l) (n - 1 - 1) P (fun e _ W' => e = .normal ∧ I (k + 1) W' ∧ W.heap.size ≤ W'.heap.size ∧ ∀ j, j = w.heap.size ∨ j = w.heap.size + 1 → W'.heap[j]? = W.heap[j]?) (a₁ k) W)
  (hseq : ∀ l (J : Nat → World → Prop) W, (∀ k A, J k A → I k A) → (∀ k A B, J k A → Below A.heap.size A B → J k B) →
   (∀ k A, k < m → J k A → YieldAt F (n - 1 - 1) P l #[x k, y k] A fun e B => e = .returned (.bool true) ∧ J (k + 1) B) → J 0 W →
   CallsIn F (n - 1) P gf (#[.func (.yield l) #[] #[]] ++ lb) W fun e B => (∃ v, e = .returned v) ∧ J m B)
  (hdone : ∀ D W, w.heap.size ≤ D → D < w.heap.size + 2 → I m W → w.heap.size + 2 ≤ W.heap.size → W.heap[D]? = some (.deferred (some [])) → Q .normal { a with defers := { target := .collected D, args := #[] } :: a.defers } W) :
  (Code.rangeFunc g #[p, q] assign body).wpIn F n P Q a w := by
 refine wpIn_rangeFunc ?_
 intro fn hfn
 rw [hro]
 obtain ⟨R, hR⟩ : ∃ R : LoopState → Loop, R = fun st => { state := st, pending := none, fn, tmps := a.tmps, params := #[p, q], assign, body, defers := w.heap.size } := ⟨_, rfl⟩
 obtain ⟨V, hV⟩ : ∃ V, (w.alloc (.deferred (some []))).alloc (.loop (R .ready)) = V := ⟨_, rfl⟩
 have z1 : V.heap.size = w.heap.size + 2 := by rw [← hV]; simp
 have bV : Below w.heap.size w V := by rw [← hV]; exact ((Below.refl _ w).alloc (Nat.le_refl _) _).alloc (by simp) _
 have kL : V.heap[w.heap.size + 1]? = some (.loop (R .ready)) := by
  rw [← hV]; have := World.alloc_heap_new (w.alloc (.deferred (some []))) (.loop (R .ready)); rwa [World.size_alloc] at this
 have kD : V.heap[w.heap.size]? = some (.deferred (some [])) := by
  rw [← hV]; exact (Below.heap_alloc _ _ _ (by simp)).trans (World.alloc_heap_new w _)
 refine ⟨w.heap.size + 1, [{ target := .collected w.heap.size, args := #[] }], V, { target := .fn (.func gf) lb, args := #[.func (.yield (w.heap.size + 1)) #[] #[]] }, V, gf, #[.func (.yield (w.heap.size + 1)) #[] #[]] ++ lb, V, ?_, ?_, ?_, ?_, fun _ => h1, ?_⟩
 ·rw [← hV, hR]; exact run_enterLoop_outer _ _ _ _ _
 ·simp only [resolve, hg]; simp [go_sem]
 ·intro f' hf'; simp [Target.leads] at hf'; subst hf'; exact hFg
 ·simp [invoke, go_sem, eg]
 refine (hseq (w.heap.size + 1) (fun k A => I k A ∧ A.heap[w.heap.size + 1]? = some (.loop (R .ready)) ∧ A.heap[w.heap.size]? = some (.deferred (some []))) V (fun _ _ h => h.1) ?_ ?_ ⟨hIb _ _ _ h0 bV, kL, kD⟩).mono ?_
 ·rintro k A B ⟨i, l, d⟩ hb
  have lt := (Array.getElem?_eq_some_iff.1 l).1
  exact ⟨hIb k A B i hb, (hb.block _ lt).trans l, (hb.block _ (by omega)).trans d⟩
 ·rintro k A hk ⟨i, l, d⟩
  have lt := (Array.getElem?_eq_some_iff.1 l).1
  have hy : (Instr.yield (w.heap.size + 1) #[x k, y k]).run P A = .ok (.round (w.heap.size + 1) fn ((a.tmps.setIfInBounds p (x k)).setIfInBounds q (y k)) assign body) A := by
   have := run_yield (P := P) (args := #[x k, y k]) l (by rw [hR]; rfl)
   rw [hR] at this
   simpa using this
  refine ⟨fn, _, assign, body, hy, roundIn_of_wpIn hfn ?_⟩
  refine hassign _ k A _ ?_
  refine ⟨_, run_beginRound l (by rw [hR]), ?_⟩
  have l2 : (A.putObj (w.heap.size + 1) (.loop { R .ready with state := .busy })).heap[w.heap.size + 1]? = some (.loop { R .ready with state := .busy }) := World.putObj_heap_same lt
  refine wpIn_mono (hbody _ k _ hk (hIp _ _ _ _ i (.inr rfl)) (by simp; omega)) ?_
  rintro e a3 B ⟨rfl, i3, z3, k3⟩
  have l3 := (k3 (w.heap.size + 1) (.inr rfl)).trans l2
  have hend := run_endRound (P := P) none l3
  have d3 := (k3 w.heap.size (.inl rfl)).trans ((World.putObj_heap_other (by omega)).trans d)
  have l4 := World.putObj_heap_same (o := .loop (R .ready)) (Array.getElem?_eq_some_iff.1 l3).1
  refine ⟨_, _, hend, rfl, hIp _ _ _ _ i3 (.inr rfl), ?_, (World.putObj_heap_other (by omega)).trans d3⟩
  rw [hR] at l4 ⊢; exact l4
 ·rintro e B ⟨⟨v, rfl⟩, i, l, d⟩
  have lt := (Array.getElem?_eq_some_iff.1 l).1
  refine ⟨none, _, ?_, hdone w.heap.size _ (Nat.le_refl _) (by omega) (hIp _ _ (w.heap.size + 1) (.loop { R .ready with state := .exhausted }) i (.inr rfl)) (by simp; omega) ((World.putObj_heap_other (by omega)).trans d)⟩
  have := run_endLoop (P := P) l (by rw [hR]; simp)
  rw [hR] at this ⊢
  exact this
end
section
open Go.RowKit Go.Shelf
attribute [local go_sem] Oper.semAt_some
theorem back_made (n : Nat) (a : Option Addr) (m c : Nat) (w : World) :
  CallsIn Fence.wide n Tryz.prog 117 #[.slice a m c] w fun e w' => e = .returned (.func (.func 145) #[] #[.pointer (some ⟨w.heap.size, 0, none⟩)]) ∧ w' = w.alloc (.cells #[.slice a m c] 43) := by
 refine callsIn_wide.2 ?_
 go_enter Tryz.func117, Tryz.ntmps117
 go_wp2
 go_ret
 exact ⟨by simp, rfl⟩
theorem back_iter (n l B : Nat) (hn : 1 ≤ n) (J : Nat → World → Prop) (a : Option Addr) (m c : Nat) (zs : List Int) (hm : m ≤ 1000000000)
  (hJ : ∀ k A, J k A → A.cell? ⟨B, 0, none⟩ = some (.slice a m c) ∧ IsWords A (.slice a m c) zs)
  (hY : ∀ k A, k < m → J k A → YieldAt Fence.wide (n - 1) Tryz.prog l #[.int .i64 ((m : Int) - 1 - k), .int .u32 (zs.getD (m - 1 - k) 0)] A fun e A' => e = .returned (.bool true) ∧ J (k + 1) A')
  (W : World) (h0 : J 0 W) :
  CallsIn Fence.wide n Tryz.prog 145 #[.func (.yield l) #[] #[], .pointer (some ⟨B, 0, none⟩)] W fun e W' => (∃ v, e = .returned v) ∧ J m W' := by
 have hmx : Tryz.prog.follows .mixedOrders = true := by kernel_rfl
 have c0 := (hJ _ _ h0).1
 refine callsIn_of_wp Tryz.func145 rfl trivial ?_ rfl
 simp only [Tryz.ntmps145, List.size_toArray, List.length_cons, List.length_nil, Nat.reduceAdd, Nat.reduceSub, Array.replicate_succ, Array.replicate_zero, List.push_toArray, List.append_toArray, List.nil_append, List.cons_append]
 gi_wp2
 gi_loopg [3] m (fun g v3 v => ∃ k : Nat, k + g = m ∧ v3 = .int .i64 ((g : Int) - 1) ∧ J k v)
 case atStart => exact ⟨0, by omega, by first | rfl | (congr 1; omega), h0⟩
 case round =>
  obtain ⟨k, hk, rfl, hj⟩ := hrel
  cases gk with
  | zero =>
   obtain rfl : k = m := by omega
   rw [show ((0 : Nat) : Int) - 1 = -1 from rfl]
   clear hJ hY hk
   gi_wp2
   go_end0
   exact ⟨⟨_, rfl⟩, hj⟩
  | succ t =>
   obtain ⟨cb, iw⟩ := hJ _ _ hj
   obtain ⟨⟨hl, hr⟩, hn2⟩ := iw.reads
   rcases hr with h1 | ⟨b, off, rfl, hc⟩
   ·omega
   have hck := hc t (by omega)
   obtain ⟨fn, tmps, assign, body, hy, hR⟩ := hY k wr (by omega) hj
   rw [show (m : Int) - 1 - k = t by omega, show m - 1 - k = t by omega] at hy
   rw [show ((t + 1 : Nat) : Int) - 1 = t by omega]
   generalize zs.getD t 0 = z at hck hy
   clear hJ hc iw hY
   gi_wp2
   refine hR.mono ?_
   rintro e W3 ⟨rfl, hj3⟩
   gi_wp2
   gi_roundg t
   case measure => omega
   case rel => exact ⟨k + 1, by omega, by first | rfl | (congr 1; omega), hj3⟩
end
end Go.Proofs.YtaeladkcmpdkhaaGreatDoor
