/-
  Contracts of the document's own answers of layer 6 (package talwegref06: Print, Parse), for every list of up to a million words, and every text: as digits and numbers; memory that was there stays.
-/
import Derived.Test.YtlokidddbkdclaaDoorDeciMath
import Derived.Test.YtlokidddbkdclaaDoorNatMore
import Derived.Test.YtlokidddbkdclaaDoorNatRefC
import Derived.Test.YtlokidddbkdclaaDoorSplitMore
import Derived.Deep.LoopGhost
import Derived.Laws.IdiomStrings
namespace Go.Proofs.YtlokidddbkdclaaDoor
open Go.RowKit

/-- string([]byte{x}), of one byte in a new block. -/
theorem conv_byte1 (v : World) (d : UInt8) (x : Int) (hx : (d.toNat : Int) = x) :
    Sem.run Tryd.prog (convert 38 9 (.slice (some ⟨v.heap.size, 0, none⟩) 1 1)) (v.alloc (.cells #[.int .u8 x] 5)) = .ok (.string ⟨#[d]⟩) (v.alloc (.cells #[.int .u8 x] 5)) := by
  have h := run_convert_bytes_back (P := Tryd.prog) (v.alloc (.cells #[.int .u8 x] 5)) 38 9 5 ⟨v.heap.size, 0, none⟩ 1 [d] Tryd.underlying38 Tryd.underlying5 Tryd.underlying9 (fun j hj => by
    rw [Go.WideShapes.add_plain]
    have : j = 0 := by simp at hj; omega
    subst this
    simp [hx])
  exact h

theorem dg_words (N : Nat) : (dg N).length ≤ 10 * nl N := by
  refine dg_len_le ?_
  have h := lt_nl N
  have h2 : 4294967296 ^ nl N ≤ (10 ^ 10) ^ nl N := Nat.pow_le_pow_left (by decide) _
  rw [← Nat.pow_mul] at h2
  omega

set_option maxHeartbeats 2000000 in
theorem ref_print {a : Option Addr} {n c : Nat} {zs : List Int} {w : World} (h : IsWords w (.slice a n c) zs) (hz : Wd zs) (hn : n ≤ 1000000) (N : Nat) (hN : val zs = N) :
    Calls Tryd.prog 13 #[.slice a n c] w fun e w' => e = .returned (.string ⟨(decOf N).toArray⟩) ∧ Below w.heap.size w w' := by
  have T := ref_trim a n c zs w h hz (by omega)
  rw [hN] at T
  unfold Ans at T
  have lN : nl N ≤ 1000000 := by rw [← hN]; exact nl_small hz _ (by rw [h.len]; exact hn)
  clear h hz hn hN
  rcases Nat.eq_zero_or_pos N with h0 | h0
  · subst h0
    simp only [nl_zero] at T
    rw [decOf_zero]
    go_enter Tryd.func13, Tryd.ntmps13
    go_wp2_with (go_at_call 26; (with_reducible refine Calls.mono T ?_); rintro e w1 ⟨a1, c1, rfl, o1⟩)
    go_ret
    exact ⟨rfl, o1.below⟩
  · have hN0 : ((nl N : Int) == 0) = false := by have := nl_pos h0; simp; omega
    rw [decOf_pos h0]
    have LD := dg_words N
    have HL : Hid (nl N ≤ 1000000 ∧ (dg N).length ≤ 10000000) := ⟨lN, by omega⟩
    clear h0 LD lN
    go_enter Tryd.func13, Tryd.ntmps13
    go_wp2_with (go_at_call 26; (with_reducible refine Calls.mono T ?_); rintro e w1 ⟨a1, c1, rfl, o1⟩)
    clear T hN0
    go_loopg [3, 4, 5, 6, 7] N (fun X s3 s4 s5 s6 s7 v => ∃ (a3 : Option Addr) (c3 : Nat) (l : List UInt8), s3 = .slice a3 (nl X) c3 ∧ s4 = .string ⟨l.toArray⟩ ∧ Own w v (.slice a3 (nl X) c3) (nl X) (natOf X) ∧ dg X ++ l = dg N ∧ nl X ≤ 1000000)
    case atStart => exact ⟨_, _, [], rfl, rfl, o1, by simp, HL.out.1⟩
    case round =>
      obtain ⟨a3, c3, l, rfl, rfl, o3, hd, hl⟩ := hrel
      clear o1
      rcases Nat.eq_zero_or_pos gk with h0 | h0
      · subst h0
        rw [dg_zero, List.nil_append] at hd
        rw [nl_zero] at o3 ⊢
        have HD : Hid (l = dg N) := hd
        clear hd hl
        go_wp2
        go_ret
        exact ⟨by rw [← HD.out]; rfl, o3.below⟩
      · have S := ref_small4 a3 (nl gk) c3 (natOf gk) 10 wr o3.words (wd_natOf gk) (by omega) (by omega) (by omega)
        rw [val_natOf, show (10 : Int).toNat = 10 from rfl] at S
        unfold AnsSmall at S
        have hp : 0 < (nl gk : Int) := by have := nl_pos h0; omega
        have HX : Hid (dg gk ++ l = dg N ∧ 0 < gk ∧ nl gk ≤ 1000000) := ⟨hd, h0, hl⟩
        have hls : (1 : Int) + l.length ≤ 9223372036854775807 := by
          have := congrArg List.length hd
          rw [List.length_append] at this
          have := HL.out.2
          omega
        clear hd h0 hl
        obtain ⟨r, hr, r0, r1⟩ : ∃ r : Int, ((gk % 10 : Nat) : Int) = r ∧ 0 ≤ r ∧ r < 10 := ⟨_, rfl, by omega, by omega⟩
        rw [hr] at S
        have CV := fun v => conv_byte1 v (UInt8.ofNat (48 + gk % 10)) (48 + r) (by rw [digit_nat]; omega)
        have hdg := dg_pos HX.out.2.1
        generalize UInt8.ofNat (48 + gk % 10) = d at CV hdg
        have HG : Hid (dg gk = dg (gk / 10) ++ [d]) := hdg
        clear hr hdg
        go_wp2_with (go_at_call 27; (with_reducible refine Calls.mono S ?_); rintro e w2 ⟨a4, c4, rfl, o4⟩)
        obtain ⟨x1, x2, x3⟩ := HX.out
        go_roundg (gk / 10)
        case measure => omega
        case rel => exact ⟨a4, c4, d :: l, rfl, by rw [ByteArray.mk_append_mk]; simp, (o4.outer o3.below).alloc _, by rw [← x1, HG.out]; simp, Nat.le_trans (nl_mono (by omega)) x3⟩

/-- What Parse tells: the number, and the error. -/
def pnum (l : List UInt8) : Nat := if l.length ≤ 1000 ∧ Num l then valD l else 0
def perr (l : List UInt8) : Int := if 1000 < l.length then 4 else if Num l then 0 else 2
/-- What Parse answers. -/
def AnsP (W : World) (N : Nat) (E : Int) (e : Ending) (w' : World) : Prop := ∃ a c, e = .returned (.tuple #[.slice a (nl N) c, .int .i64 E]) ∧ Own W w' (.slice a (nl N) c) (nl N) (natOf N)

theorem ansP_no {W w' : World} {E : Int} (h : Below W.heap.size W w') : AnsP W 0 E (.returned (.tuple #[.slice none 0 0, .int .i64 E])) w' :=
  ⟨none, 0, by rw [nl_zero], by rw [nl_zero, natOf_zero]; exact Own.nil h⟩
theorem pnum_long {l : List UInt8} (h : 1000 < l.length) : pnum l = 0 := if_neg (by omega)
theorem perr_long {l : List UInt8} (h : 1000 < l.length) : perr l = 4 := if_pos h
theorem pnum_no {l : List UInt8} (h : ¬ Num l) : pnum l = 0 := if_neg (by rintro ⟨-, e⟩; exact h e)
theorem perr_no {l : List UInt8} (h1 : l.length ≤ 1000) (h : ¬ Num l) : perr l = 2 := by unfold perr; rw [if_neg (by omega), if_neg h]
theorem pnum_ok {l : List UInt8} (h1 : l.length ≤ 1000) (h : Num l) : pnum l = valD l := if_pos ⟨h1, h⟩
theorem perr_ok {l : List UInt8} (h1 : l.length ≤ 1000) (h : Num l) : perr l = 0 := by unfold perr; rw [if_neg (by omega), if_pos h]

theorem byte_eq48 {c : UInt8} (h : ((c.toNat : Int) == 48) = true) : c = 48 := by
  have h1 : (c.toNat : Int) = 48 := by simpa using h
  refine UInt8.toNat_inj.1 ?_
  show c.toNat = 48
  omega
theorem drop_byte (s : ByteArray) (t : Nat) (h : t < s.size) : s.data.toList.drop t = s[t] :: s.data.toList.drop (t + 1) := by
  rw [List.drop_eq_getElem_cons (by simpa using h)]; rfl
theorem nl_ten (j : Nat) : nl (10 ^ j) ≤ j + 1 := by
  refine nl_le _ _ ?_
  have h : (10 : Nat) ^ j ≤ 4294967296 ^ j := Nat.pow_le_pow_left (by omega) j
  have h2 : (4294967296 : Nat) ^ j < 4294967296 ^ (j + 1) := Nat.pow_lt_pow_right (by omega) (by omega)
  omega
theorem nl_digits {l : List UInt8} (h : DigS l) : nl (valD l) ≤ l.length + 1 := Nat.le_trans (nl_mono (Nat.le_of_lt (valD_lt h))) (nl_ten _)

set_option maxHeartbeats 4000000 in
theorem ref_parse (s : ByteArray) (w : World) (hs : s.size ≤ maxLen) :
    Calls Tryd.prog 11 #[.string s] w (AnsP w (pnum s.data.toList) (perr s.data.toList)) := by
  unfold maxLen at hs
  have hsz : s.data.toList.length = s.size := by simp
  by_cases h1 : 1000 < s.size
  · rw [pnum_long (by omega), perr_long (by omega)]
    clear hsz
    go_enter Tryd.func11, Tryd.ntmps11
    go_wp2
    go_ret2
    exact ansP_no (Below.refl _ _)
  have h1' : ¬ (1000 : Int) < (s.size : Int) := by omega
  by_cases h2 : s.size = 0
  · have hn : ¬ Num s.data.toList := fun h => h.1 (List.eq_nil_of_length_eq_zero (by omega))
    rw [pnum_no hn, perr_no (by omega) hn]
    clear hsz hs
    go_enter Tryd.func11, Tryd.ntmps11
    go_wp2
    go_ret2
    exact ansP_no (Below.refl _ _)
  have h2' : ((s.size : Int) == 0) = false := by rw [beq_eq_false_iff_ne]; omega
  have L1 : Own w (w.alloc (.cells #[.int .u32 1] 36)) (.slice (some ⟨w.heap.size, 0, none⟩) 1 1) 1 [1] := own_lit w w [1] 1 (Below.refl _ _) rfl (by decide)
  go_enter Tryd.func11, Tryd.ntmps11
  go_wp2
  obtain ⟨n1, l1⟩ := nat_word1 (x := 1) (by omega) (by omega)
  go_loopg [4, 5, 6] s.size (fun k s4 s5 s6 v => ∃ (a4 : Option Addr) (c4 : Nat) (a5 : Option Addr) (c5 : Nat) (n4 n5 : Nat), k ≤ s.size ∧ s4 = .slice a4 n4 c4 ∧ s5 = .slice a5 n5 c5 ∧ s6 = .int .i64 ((k : Int) - 1) ∧ n4 = nl (valD (s.data.toList.drop k)) ∧ n5 = nl (10 ^ (s.size - k)) ∧ Own w v (.slice a4 n4 c4) n4 (natOf (valD (s.data.toList.drop k))) ∧ Own w v (.slice a5 n5 c5) n5 (natOf (10 ^ (s.size - k))) ∧ DigS (s.data.toList.drop k))
  case atStart =>
    have e : s.data.toList.drop s.size = [] := List.drop_of_length_le (by simp)
    refine ⟨none, 0, _, _, _, _, Nat.le_refl _, rfl, rfl, rfl, ?_, ?_, ?_, ?_, ?_⟩
    · rw [e, valD_nil, nl_zero]
    · rw [Nat.sub_self, Nat.pow_zero, l1]
    · rw [e, valD_nil, natOf_zero]; exact Own.nil L1.below
    · rw [Nat.sub_self, Nat.pow_zero, n1]; exact L1
    · rw [e]; intro c hc; cases hc
  case round =>
    obtain ⟨a4, c4, a5, c5, n4, n5, hk, rfl, rfl, rfl, e4, e5, o4, o5, hd⟩ := hrel
    clear L1 n1 l1
    have HD : Hid (DigS (s.data.toList.drop gk)) := hd
    cases gk with
    | zero =>
      rw [List.drop_zero] at e4 o4 hd HD
      subst e4
      have HL : Hid (s.data.toList.length = s.size) := hsz
      have hpos : 0 < s.size := by omega
      have hhd : s.data.toList.head? = some s[0] := by
        have := drop_byte s 0 hpos
        rw [List.drop_zero] at this
        rw [this]; rfl
      rw [show ((0 : Nat) : Int) - 1 = -1 from rfl]
      clear e5 o5 hsz
      by_cases hc : ((s[0].toNat : Int) == 48) = true
      · have e48 := byte_eq48 hc
        by_cases hl : (1 : Int) < (s.size : Int)
        · have hn : ¬ Num s.data.toList := fun h => by
            have := h.2.2 (by rw [hhd, e48])
            have := HL.out
            omega
          have HQ : Hid (pnum s.data.toList = 0 ∧ perr s.data.toList = 2) := ⟨pnum_no hn, perr_no (by have := HL.out; omega) hn⟩
          clear hn hd HD hhd e48 h2 hs
          go_wp2
          go_ret2
          rw [HQ.out.1, HQ.out.2]
          exact ansP_no o4.below
        · have hn : Num s.data.toList := ⟨fun e => (by rw [e] at hhd; cases hhd), hd, fun _ => (by have := HL.out; omega)⟩
          have HQ : Hid (pnum s.data.toList = valD s.data.toList ∧ perr s.data.toList = 0) := ⟨pnum_ok (by have := HL.out; omega) hn, perr_ok (by have := HL.out; omega) hn⟩
          clear hn hd HD hhd e48 h2 hs
          go_wp2
          go_ret2
          rw [HQ.out.1, HQ.out.2]
          exact ⟨_, _, rfl, o4⟩
      · have hc' : ((s[0].toNat : Int) == 48) = false := by simpa using hc
        have hn : Num s.data.toList := by
          refine ⟨fun e => (by rw [e] at hhd; cases hhd), hd, fun e => ?_⟩
          rw [hhd] at e
          have := Option.some.inj e
          rw [this] at hc
          exact absurd rfl hc
        have HQ : Hid (pnum s.data.toList = valD s.data.toList ∧ perr s.data.toList = 0) := ⟨pnum_ok (by have := HL.out; omega) hn, perr_ok (by have := HL.out; omega) hn⟩
        clear hn hd HD hhd h2 hs hc
        go_wp2
        go_ret2
        rw [HQ.out.1, HQ.out.2]
        exact ⟨_, _, rfl, o4⟩
    | succ t =>
      have ht : t < s.size := by omega
      have hdr := drop_byte s t ht
      rw [show ((t + 1 : Nat) : Int) - 1 = t by omega]
      by_cases hc : 48 ≤ (s[t].toNat : Int) ∧ (s[t].toNat : Int) ≤ 57
      · obtain ⟨c0, c1⟩ := hc
        have HV : Hid (valD (s.data.toList.drop t) = 10 ^ (s.size - (t + 1)) * (s[t].toNat - 48) + 0 + valD (s.data.toList.drop (t + 1))) := by
          show _ = _
          rw [hdr, valD_cons, List.length_drop, hsz, Nat.mul_comm]; omega
        have HP : Hid (10 ^ (s.size - t) = 10 ^ (s.size - (t + 1)) * 10 + 0) := by
          show _ = _
          rw [← Nat.pow_succ]; congr 1; omega
        have HD2 : Hid (DigS (s.data.toList.drop t)) := by
          show DigS _
          rw [hdr, digS_cons]; exact ⟨by omega, hd⟩
        have b4 := nl_digits hd
        rw [List.length_drop, hsz] at b4
        have b5 := nl_ten (s.size - (t + 1))
        have O1 := fun v (p : IsWords v (.slice a5 n5 c5) (natOf (10 ^ (s.size - (t + 1))))) => ref_one a5 n5 c5 _ ((s[t].toNat : Int) - 48) 0 v p (wd_natOf _) (by omega) (by omega) (by omega) (by omega) (by omega)
        have O2 := fun v (p : IsWords v (.slice a5 n5 c5) (natOf (10 ^ (s.size - (t + 1))))) => ref_one a5 n5 c5 _ 10 0 v p (wd_natOf _) (by omega) (by omega) (by omega) (by omega) (by omega)
        simp only [val_natOf, show (0 : Int).toNat = 0 from rfl, show (10 : Int).toNat = 10 from rfl, show ((s[t].toNat : Int) - 48).toNat = s[t].toNat - 48 by omega] at O1 O2
        rw [← HP.out] at O2
        have b6 : nl (10 ^ (s.size - (t + 1)) * (s[t].toNat - 48) + 0) ≤ 2000 := by
          have h1 : 10 ^ (s.size - (t + 1)) * (s[t].toNat - 48) + 0 ≤ 10 ^ (s.size - t) := by
            rw [HP.out]; exact Nat.add_le_add_right (Nat.mul_le_mul_left _ (by omega)) 0
          exact Nat.le_trans (nl_mono h1) (Nat.le_trans (nl_ten _) (by omega))
        have AD := fun v a1 c1 (p : IsWords v (.slice a4 n4 c4) (natOf (valD (s.data.toList.drop (t + 1))))) (q : IsWords v (.slice a1 (nl (10 ^ (s.size - (t + 1)) * (s[t].toNat - 48) + 0)) c1) (natOf (10 ^ (s.size - (t + 1)) * (s[t].toNat - 48) + 0))) => ref_nadd _ _ _ _ _ _ _ _ v p (wd_natOf _) q (wd_natOf _) (by omega) (by omega)
        simp only [val_natOf] at AD
        rw [Nat.add_comm (valD _), ← HV.out] at AD
        unfold Ans at O1 O2 AD
        clear HV HP
        generalize 10 ^ (s.size - (t + 1)) * (s[t].toNat - 48) + 0 = K1 at O1 AD b6
        generalize 10 ^ (s.size - (t + 1)) = K2 at O1 O2 o5 e5 b5
        generalize hK3 : 10 ^ (s.size - t) = K3 at O2
        generalize valD (s.data.toList.drop (t + 1)) = K4 at e4 o4 b4 AD
        generalize hK5 : valD (s.data.toList.drop t) = K5 at AD
        have HK : Hid (10 ^ (s.size - t) = K3 ∧ valD (s.data.toList.drop t) = K5) := ⟨hK3, hK5⟩
        clear hK3 hK5 hdr hd HD hsz hs b4 b5 b6 e4 e5 h2
        go_wp2_with (first
          | (go_at_call 25; (with_reducible refine Calls.mono (O1 _ o5.words) ?_); rintro e w2 ⟨a6, c6, rfl, o6⟩; have p4 := o4.more o6.below; have p5 := o5.more o6.below)
          | (go_at_call 24; (with_reducible refine Calls.mono (AD _ _ _ p4.words o6.words) ?_); rintro e w3 ⟨a7, c7, rfl, o7⟩; have q5 := p5.more o7.below)
          | (go_at_call 25; (with_reducible refine Calls.mono (O2 _ q5.words) ?_); rintro e w4 ⟨a8, c8, rfl, o8⟩; have r7 := (o7.more o8.below).outer p4.below; have r8 := o8.outer q5.below))
        obtain ⟨k3, k5⟩ := HK.out
        go_roundg t
        case measure => omega
        case rel => exact ⟨_, _, _, _, _, _, by omega, rfl, rfl, by go_num, by rw [k5], by rw [k3], by rw [k5]; exact r7, by rw [k3]; exact r8, HD2.out⟩
      · have hn : ¬ Num s.data.toList := fun h => by
          have := h.2.1 s[t] (by rw [← List.take_append_drop t s.data.toList, hdr]; simp)
          omega
        have HQ : Hid (pnum s.data.toList = 0 ∧ perr s.data.toList = 2) := ⟨pnum_no hn, perr_no (by omega) hn⟩
        rcases (by omega : (s[t].toNat : Int) < 48 ∨ (¬ (s[t].toNat : Int) < 48 ∧ 57 < (s[t].toNat : Int))) with c0 | ⟨c0, c1⟩
        all_goals
          clear hn hdr hd HD hsz hs hc e4 e5 o5 h2
          go_wp2
          go_ret2
          rw [HQ.out.1, HQ.out.2]
          exact ansP_no o4.below

theorem decOf_words {A n : Nat} (h : nl A ≤ n) (hn : 1 ≤ n) : (decOf A).length ≤ 10 * n := by
  rcases Nat.eq_zero_or_pos A with rfl | h0
  · rw [decOf_zero]; simp; omega
  · rw [decOf_pos h0]; have := dg_words A; omega

theorem mk_inj {l m : List UInt8} : (ByteArray.mk l.toArray = ByteArray.mk m.toArray) ↔ l = m := by
  rw [ByteArray.mk.injEq]; simp
theorem mk_data (s : ByteArray) : ByteArray.mk s.data.toList.toArray = s := by cases s; simp
end Go.Proofs.YtlokidddbkdclaaDoor
