/-
  The walks of the statements over digits (DeciParses, DeciPrints, DeciBack), for whatever package deci keeps its three contracts: they return true; memory that was there stays.
-/
import Derived.Test.YtlokidddbkdclaaDoorDeciRef
import Derived.Test.YtlokidddbkdclaaDoorTimesC
namespace Go.Proofs.YtlokidddbkdclaaDoor
open Go.RowKit

/-- Package deci's three contracts. -/
def ParseOk : Prop := ∀ (s : ByteArray) (w : World), s.size ≤ maxLen → Calls Tryd.prog 10 #[.string s] w (AnsP w (pnum s.data.toList) (perr s.data.toList))
def PrintOk : Prop := ∀ {a : Option Addr} {n c : Nat} {zs : List Int} {w : World}, IsWords w (.slice a n c) zs → Wd zs → n ≤ 1000000 → ∀ N : Nat, val zs = N →
    Calls Tryd.prog 14 #[.slice a n c] w fun e w' => e = .returned (.string ⟨(decOf N).toArray⟩) ∧ Below w.heap.size w w'
def DigitsOk : Prop := ∀ {a : Option Addr} {n c : Nat} {zs : List Int} {w : World}, IsWords w (.slice a n c) zs → Wd zs → n ≤ 1000000 → ∀ N : Nat, val zs = N →
    Calls Tryd.prog 15 #[.slice a n c] w fun e w' => e = .returned (.int .i64 ((decOf N).length : Nat)) ∧ Below w.heap.size w w'

theorem num_ex : Num [52, 50, 57, 52, 57, 54, 55, 50, 57, 54] := by decide
theorem val_ex : valD [52, 50, 57, 52, 57, 54, 55, 50, 57, 54] = 4294967296 := by decide
theorem dec_ex : decOf 4294967296 = [52, 50, 57, 52, 57, 54, 55, 50, 57, 54] := by rw [← val_ex]; exact decOf_valD num_ex
theorem nat_ex : natOf 4294967296 = [0, 1] := natOf_lit [0, 1] (wd_cons' (by omega) (by omega) (wd_one (by omega) (by omega))) (by decide) (by decide)

set_option maxHeartbeats 4000000 in
theorem deci_awake (hP : ParseOk) (hQ : PrintOk) (hD : DigitsOk) (w : World) : Calls Tryd.prog 9 #[] w fun e w' => e = .returned (.bool true) ∧ Below w.heap.size w w' := by
  have P := fun v => hP ⟨#[52, 50, 57, 52, 57, 54, 55, 50, 57, 54]⟩ v (by decide)
  have Q1 := fun v a c (p : IsWords v (.slice a 2 c) [0, 1]) => hQ p (wd_cons' (by omega) (by omega) (wd_one (by omega) (by omega))) (by omega) 4294967296 (by decide)
  have D1 := fun v a c (p : IsWords v (.slice a 2 c) [0, 1]) => hD p (wd_cons' (by omega) (by omega) (wd_one (by omega) (by omega))) (by omega) 4294967296 (by decide)
  have Q0 := fun v => hQ (w := v) (.inl ⟨rfl, rfl⟩ : IsWords v (.slice none 0 0) []) (fun _ h => by cases h) (by omega) 0 rfl
  have e1 : pnum (ByteArray.mk #[52, 50, 57, 52, 57, 54, 55, 50, 57, 54]).data.toList = 4294967296 := (pnum_ok (by decide) num_ex).trans val_ex
  have e2 : perr (ByteArray.mk #[52, 50, 57, 52, 57, 54, 55, 50, 57, 54]).data.toList = 0 := perr_ok (by decide) num_ex
  have e3 : nl 4294967296 = 2 := by unfold nl; rw [nat_ex]; rfl
  rw [e1, e2] at P
  unfold AnsP at P
  rw [e3, nat_ex] at P
  rw [dec_ex] at Q1 D1
  rw [decOf_zero] at Q0
  simp only [List.length_cons, List.length_nil] at D1
  clear e1 e2 e3 hP hQ hD
  have LA := fun v => lit_words v [0, 1] 2 rfl (by decide)
  simp only [List.map_cons, List.map_nil] at LA
  go_enter Tryd.func9, Tryd.ntmps9
  go_wp2_with (first
    | (go_at_call 10; (with_reducible refine Calls.mono (P _) ?_); rintro e w1 ⟨a1, c1, rfl, o1⟩)
    | (go_at_call 12; (with_reducible refine Calls.mono (ref_words _ _ _ _ _ _ _ _ _ (o1.alloc _).words (LA w1) true (by simp)) ?_); rintro e w2 ⟨rfl, b2⟩; have o2 := (o1.alloc _).more b2)
    | (go_at_call 14; (with_reducible refine Calls.mono (Q1 _ _ _ o2.words) ?_); rintro e w3 ⟨rfl, b3⟩; have o3 := o2.more b3)
    | (go_at_call 15; (with_reducible refine Calls.mono (D1 _ _ _ o3.words) ?_); rintro e w4 ⟨rfl, b4⟩; have o4 := o3.more b4)
    | (go_at_call 14; (with_reducible refine Calls.mono (Q0 _) ?_); rintro e w5 ⟨rfl, b5⟩; have o5 := o4.more b5))
  go_ret
  exact ⟨rfl, o5.below⟩

set_option maxHeartbeats 4000000 in
theorem walk_DeciParses (hP : ParseOk) (hQ : PrintOk) (hD : DigitsOk) (s : ByteArray) (w : World) (hs : s.size ≤ maxLen) :
    Calls Tryd.prog 3 #[.string s] w fun e w' => e = .returned (.bool true) ∧ Below w.heap.size w w' := by
  have P := fun v => hP s v hs
  have R := fun v => ref_parse s v hs
  have AW := deci_awake hP hQ hD w
  unfold AnsP at P R
  generalize pnum s.data.toList = N at P R
  generalize perr s.data.toList = E at P R
  clear hP hQ hD
  unfold maxLen at hs
  by_cases h : (60 : Int) < s.size
  all_goals
    go_enter Tryd.func3, Tryd.ntmps3
    go_wp2_with (first
      | (go_at_call 9; (with_reducible refine Calls.mono AW ?_); rintro e u0 ⟨rfl, b0⟩)
      | (go_at_call 10; (with_reducible refine Calls.mono (P _) ?_); rintro e w1 ⟨a1, c1, rfl, o1⟩)
      | (go_at_call 11; (with_reducible refine Calls.mono (R _) ?_); rintro e w2 ⟨a2, c2, rfl, o2⟩; have o3 := o1.more o2.below)
      | (go_at_call 12; (with_reducible refine Calls.mono (ref_words _ _ _ _ _ _ _ _ _ o3.words o2.words true (by simp)) ?_); rintro e w3 ⟨rfl, b3⟩; have o4 := o3.more b3))
    go_ret
  · exact ⟨rfl, b0⟩
  · exact ⟨ret_bool (by simp), below_more b0 o4.below⟩

set_option maxHeartbeats 4000000 in
theorem walk_DeciPrints (hP : ParseOk) (hQ : PrintOk) (hD : DigitsOk) (a : Option Addr) (len cap : Nat) (zs : List Int) (w : World) (h0 : CameIn .u32 w a len cap zs) :
    Calls Tryd.prog 4 #[.slice a len cap] w fun e w' => e = .returned (.bool true) ∧ Below w.heap.size w w' := by
  have P := came_words h0
  have hw := came_wd h0
  generalize zs.take len = xs at P hw
  clear h0
  have AW := deci_awake hP hQ hD w
  by_cases h : len ≤ 8
  · have R := fun v (p : IsWords v (.slice a len cap) xs) => ref_print p hw (by omega) _ rfl
    have Q1 := fun v (p : IsWords v (.slice a len cap) xs) => hQ p hw (by omega) _ rfl
    have D1 := fun v (p : IsWords v (.slice a len cap) xs) => hD p hw (by omega) _ rfl
    generalize decOf (val xs) = l at R Q1 D1
    clear hP hQ hD
    go_enter Tryd.func4, Tryd.ntmps4
    go_wp2_with (first
      | (go_at_call 9; (with_reducible refine Calls.mono AW ?_); rintro e u0 ⟨rfl, b0⟩; have p0 := P.below b0)
      | (go_at_call 13; (with_reducible refine Calls.mono (R _ p0) ?_); rintro e w1 ⟨rfl, b1⟩; have p1 := p0.below b1)
      | (go_at_call 14; (with_reducible refine Calls.mono (Q1 _ p1) ?_); rintro e w2 ⟨rfl, b2⟩; have p2 := p1.below b2)
      | (go_at_call 15; (with_reducible refine Calls.mono (D1 _ p2) ?_); rintro e w3 ⟨rfl, b3⟩))
    go_ret
    exact ⟨rfl, below_more (below_more (below_more b0 b1) b2) b3⟩
  · clear hP hQ hD P
    go_enter Tryd.func4, Tryd.ntmps4
    go_wp2_with (go_at_call 9; (with_reducible refine Calls.mono AW ?_); rintro e u0 ⟨rfl, b0⟩)
    go_ret
    exact ⟨rfl, b0⟩

set_option maxHeartbeats 8000000 in
theorem walk_DeciBack (hP : ParseOk) (hQ : PrintOk) (hD : DigitsOk) (a : Option Addr) (len cap : Nat) (zs : List Int) (s : ByteArray) (w : World) (h0 : CameIn .u32 w a len cap zs) (hs : s.size ≤ maxLen) :
    Calls Tryd.prog 5 #[.slice a len cap, .string s] w fun e w' => e = .returned (.bool true) ∧ Below w.heap.size w w' := by
  have P := came_words h0
  have hw := came_wd h0
  generalize zs.take len = xs at P hw
  clear h0
  have AW := deci_awake hP hQ hD w
  have hs' := hs
  unfold maxLen at hs'
  by_cases h : len ≤ 8
  case neg =>
    clear hP hQ hD P
    go_enter Tryd.func5, Tryd.ntmps5
    go_wp2_with (go_at_call 9; (with_reducible refine Calls.mono AW ?_); rintro e u0 ⟨rfl, b0⟩)
    go_ret
    exact ⟨rfl, b0⟩
  case pos =>
  by_cases h6 : (60 : Int) < s.size
  case pos =>
    clear hP hQ hD P
    go_enter Tryd.func5, Tryd.ntmps5
    go_wp2_with (go_at_call 9; (with_reducible refine Calls.mono AW ?_); rintro e u0 ⟨rfl, b0⟩)
    go_ret
    exact ⟨rfl, b0⟩
  case neg =>
  have lx : nl (val xs) ≤ 8 := nl_small hw _ (by rw [P.len]; omega)
  have ld := decOf_words lx (by omega)
  have Q1 := fun v (p : IsWords v (.slice a len cap) xs) => hQ p hw (by omega) _ rfl
  have P1 := fun v => hP ⟨(decOf (val xs)).toArray⟩ v (by show (decOf (val xs)).toArray.size ≤ maxLen; unfold maxLen; simp; omega)
  have e1 : pnum (ByteArray.mk (decOf (val xs)).toArray).data.toList = val xs := (pnum_ok (by simpa using (by omega : (decOf (val xs)).length ≤ 1000)) (num_decOf _)).trans (valD_decOf _)
  have e2 : perr (ByteArray.mk (decOf (val xs)).toArray).data.toList = 0 := perr_ok (by simpa using (by omega : (decOf (val xs)).length ≤ 1000)) (num_decOf _)
  rw [e1, e2] at P1
  clear e1 e2
  have C1 := fun v a1 c1 (p : IsWords v (.slice a len cap) xs) (q : IsWords v (.slice a1 (nl (val xs)) c1) (natOf (val xs))) => nat_cmp' p hw q (wd_natOf _) 0 (by rw [val_natOf]; exact sgn_eq rfl)
  have R1 := fun v a1 c1 (p : IsWords v (.slice a1 (nl (val xs)) c1) (natOf (val xs))) => nat_Right a1 _ c1 _ v p true (by rw [right_nat]; simp)
  have P2 := fun v => hP s v hs
  have hsl : s.data.toList.length ≤ 1000 := by simp; omega
  unfold AnsP at P1 P2
  by_cases hn : Num s.data.toList
  case' pos =>
    rw [pnum_ok hsl hn, perr_ok hsl hn] at P2
    have lv : nl (valD s.data.toList) ≤ 1001 := Nat.le_trans (nl_digits hn.2.1) (by omega)
    have Q2 := fun v a1 c1 (p : IsWords v (.slice a1 (nl (valD s.data.toList)) c1) (natOf (valD s.data.toList))) => hQ p (wd_natOf _) (by omega) _ (val_natOf _)
    rw [decOf_valD hn, mk_data] at Q2
    generalize valD s.data.toList = K1 at P2 Q2 lv
    clear lv
  case' neg =>
    rw [pnum_no hn, perr_no hsl hn] at P2
    simp only [nl_zero] at P2
  all_goals
    clear hP hQ hD hs hsl hn ld lx
    generalize val xs = K at P1 C1 R1 Q1
    generalize decOf K = l at P1 Q1
    go_enter Tryd.func5, Tryd.ntmps5
    go_wp2_with (first
      | (go_at_call 9; (with_reducible refine Calls.mono AW ?_); rintro e u0 ⟨rfl, b0⟩; have p0 := P.below b0)
      | (go_at_call 14; (with_reducible refine Calls.mono (Q1 _ p0) ?_); rintro e w1 ⟨rfl, b1⟩; have p1 := p0.below b1)
      | (go_at_call 10; (with_reducible refine Calls.mono (P1 _) ?_); rintro e w2 ⟨a2, c2, rfl, o2⟩; have p2 := p1.below o2.below)
      | (go_at_call 10; (with_reducible refine Calls.mono (P2 _) ?_); rintro e w3 ⟨a3, c3, rfl, o3⟩; have p3 := p2.below o3.below; have q3 := o2.more o3.below)
      | (go_at_call 14; (with_reducible refine Calls.mono (Q2 _ _ _ o3.words) ?_); rintro e w4 ⟨rfl, b4⟩; replace p3 := p3.below b4; replace q3 := q3.more b4)
      | (go_at_call 16; (with_reducible refine Calls.mono (C1 _ _ _ p3 q3.words) ?_); rintro e w5 ⟨rfl, b5⟩; replace q3 := q3.more b5)
      | (go_at_call 17; (with_reducible refine Calls.mono (R1 _ _ _ q3.words) ?_); rintro e w6 ⟨rfl, rfl⟩))
    go_ret
    exact ⟨rfl, below_more (below_more b0 b1) q3.below⟩
end Go.Proofs.YtlokidddbkdclaaDoor
