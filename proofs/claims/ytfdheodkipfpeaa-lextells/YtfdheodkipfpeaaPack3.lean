/-
  Texts of mine put together in build order: LexC, LexRefB, LexRefC, TokW, LexRefD, LexRefE, LexWalks, LexD, LexE, LexF, LexG, LexH, LexI, LexK, LexWalksA, LexLawA, IntFrame, LexPlaces, LexWalksC, TokJ, LexWalksE, LexLawE. Each says at its head what it proves. No conditions of its own.
-/
import Derived.Test.YtfdheodkipfpeaaPack2
import Derived.Test.YtfdheodkipfpeaaPack1
import Derived.Lib.Strings
import Derived.Lib.BufferWrite
import Derived.Lib.UnsafeStr
import Derived.Laws.MakeOwn
import Derived.Deep.RegionHeld3
import Derived.Deep.RegionWith
import Derived.Deep.RegionLaw
import Derived.Deep.DrawnRows
import Derived.ProofKit
import Derived.Lib.SmallJoins
import Derived.Laws.AppendOwnNone
/-
  Contracts of package lex's size, long and may, for a number by its digits: memory that was there stays.
-/
namespace Go.Proofs.Ytfdheodkipfpeaa
open Go.RowKit Go.Lib

theorem text_empty {x : ByteArray} (h : x.size = 0) : (x.toList == []) = true := by rw [size_zero h, ByteArray.toList_eq]; rfl

set_option maxHeartbeats 4000000 in
theorem lex_size (a b : ByteArray) (ha : a.size ≤ 1000000) (hb : b.size ≤ 1000000) (r : Nat) (hr : (if b.size = 0 then a.size else a.size + 1 + b.size) = r) (w : World) :
    Calls Try.prog 23 #[.agg #[.string a, .string b]] w fun e w' => e = .returned (.int .i64 r) ∧ Below w.heap.size w w' := by
  obtain ⟨b1, bV, hV⟩ := boxes1 w #[.string a, .string b] 48
  obtain ⟨x0, x1, -, -⟩ := b1.cells2
  by_cases h : b.size = 0
  · rw [if_pos h] at hr
    subst hr
    have e0 := text_empty h
    clear h ha hb
    go_enter Try.func23, Try.ntmps23
    go_wp2
    go_ret
    exact ⟨rfl, bV⟩
  · rw [if_neg h] at hr
    have e0 : (b.toList == []) = false := text_full (by omega)
    have HR : Hid (((a.size : Int) + 1 + b.size) = r) := by show ((a.size : Int) + 1 + b.size) = r; omega
    have W1 : wrap64 ((a.size : Int) + 1) = (a.size : Int) + 1 := wrap_smalls (by omega) (by omega)
    have W2 : wrap64 ((a.size : Int) + 1 + b.size) = (a.size : Int) + 1 + b.size := wrap_smalls (by omega) (by omega)
    clear h ha hb hr
    go_enter Try.func23, Try.ntmps23
    go_wp2
    go_ret
    exact ⟨by rw [← HR.out]; simp only [W1, W2]; rfl, bV⟩

set_option maxHeartbeats 4000000 in
theorem lex_long (a b : ByteArray) (r : Bool) (hr : longB a b = r) (w : World) :
    Calls Try.prog 40 #[.agg #[.string a, .string b]] w fun e w' => e = .returned (.bool r) ∧ Below w.heap.size w w' := by
  obtain ⟨b1, bV, hV⟩ := boxes1 w #[.string a, .string b] 48
  obtain ⟨x0, x1, -, -⟩ := b1.cells2
  unfold longB at hr
  by_cases h : 40 < a.size
  · have k : 40 < (a.size : Int) := by omega
    obtain rfl : r = true := by rw [← hr, decide_eq_true h]; rfl
    clear h hr
    go_enter Try.func40, Try.ntmps40
    go_wp2
    go_ret
    exact ⟨rfl, bV⟩
  · have k : ¬ 40 < (a.size : Int) := by omega
    rw [decide_eq_false h, Bool.false_or] at hr
    by_cases h2 : 40 < b.size
    · have k2 : 40 < (b.size : Int) := by omega
      obtain rfl : r = true := by rw [← hr, decide_eq_true h2]
      clear h h2 hr
      go_enter Try.func40, Try.ntmps40
      go_wp2
      go_ret
      exact ⟨rfl, bV⟩
    · have k2 : ¬ 40 < (b.size : Int) := by omega
      obtain rfl : r = false := by rw [← hr, decide_eq_false h2]
      clear h h2 hr
      go_enter Try.func40, Try.ntmps40
      go_wp2
      go_ret
      exact ⟨rfl, bV⟩

set_option maxHeartbeats 8000000 in
theorem lex_may (a b : ByteArray) (ha : a.size ≤ 1000000) (hb : b.size ≤ 1000000) (r : Bool) (hr : mayB a b = r) (w : World) :
    Calls Try.prog 22 #[.agg #[.string a, .string b]] w fun e w' => e = .returned (.bool r) ∧ Below w.heap.size w w' := by
  obtain ⟨b1, bV, hV⟩ := boxes1 w #[.string a, .string b] 48
  obtain ⟨x0, x1, -, -⟩ := b1.cells2
  have LG := fun v => lex_long a b _ rfl v
  have PA := fun v => lex_plain a ha _ rfl v
  have PB := fun v => lex_plain b hb _ rfl v
  unfold mayB at hr
  generalize longB a b = l at *
  generalize plainB a = p at *
  generalize plainB b = q at *
  cases l with
  | true =>
    obtain rfl : r = false := by rw [← hr]; rfl
    clear hr PA PB ha hb
    go_enter Try.func22, Try.ntmps22
    go_wp2_with (go_at_call 40; (with_reducible refine Calls.mono (LG _) ?_); rintro e v1 ⟨rfl, d1⟩)
    go_ret
    exact ⟨rfl, below_more bV d1⟩
  | false =>
    cases p with
    | false =>
      obtain rfl : r = false := by rw [← hr]; rfl
      clear hr PB ha hb
      go_enter Try.func22, Try.ntmps22
      go_wp2_with (first
        | (go_at_call 40; (with_reducible refine Calls.mono (LG _) ?_); rintro e v1 ⟨rfl, d1⟩; obtain ⟨x0, x1, -, -⟩ := (b1.more d1).cells2)
        | (go_at_call 41; (with_reducible refine Calls.mono (PA _) ?_); rintro e v2 ⟨rfl, rfl⟩))
      go_ret
      exact ⟨rfl, below_more bV d1⟩
    | true =>
      by_cases h : b.size = 0
      · obtain rfl : r = true := by rw [← hr, decide_eq_true h]; rfl
        have e0 := text_empty h
        clear hr PB ha hb h
        go_enter Try.func22, Try.ntmps22
        go_wp2_with (first
          | (go_at_call 40; (with_reducible refine Calls.mono (LG _) ?_); rintro e v1 ⟨rfl, d1⟩; obtain ⟨x0, x1, -, -⟩ := (b1.more d1).cells2)
          | (go_at_call 41; (with_reducible refine Calls.mono (PA _) ?_); rintro e v2 ⟨rfl, rfl⟩))
        go_ret
        exact ⟨rfl, below_more bV d1⟩
      · have e0 : (b.toList == []) = false := text_full (by omega)
        rw [decide_eq_false h] at hr
        simp only [Bool.not_false, Bool.true_and, Bool.false_or] at hr
        generalize hg : (b.toList == [48]) = g at *
        have hne : (b.toList != [48]) = !g := by rw [← hg]; rfl
        cases q <;> cases g
        all_goals
          simp only [Bool.not_false, Bool.not_true, Bool.true_and, Bool.false_and] at hr hne
          subst hr
          clear ha hb h
          go_enter Try.func22, Try.ntmps22
          go_wp2_with (first
            | (go_at_call 40; (with_reducible refine Calls.mono (LG _) ?_); rintro e v1 ⟨rfl, d1⟩; obtain ⟨x0, x1, -, -⟩ := (b1.more d1).cells2)
            | (go_at_call 41; (with_reducible refine Calls.mono (PA _) ?_); rintro e v2 ⟨rfl, rfl⟩)
            | (go_at_call 41; (with_reducible refine Calls.mono (PB _) ?_); rintro e v3 ⟨rfl, rfl⟩))
          go_ret
          exact ⟨by simp, below_more bV d1⟩
end Go.Proofs.Ytfdheodkipfpeaa
/-
  Contracts of the document's own answers of layer 10 (package talwegref10: part, Number, number), at every text of up to a million bytes; memory stays as it is.
-/
namespace Go.Proofs.Ytfdheodkipfpeaa
open Go.RowKit Go.Lib

set_option maxHeartbeats 4000000 in
theorem ref_lpart {s : ByteArray} (hs : s.size ≤ 1000000) (r : Bool) (hr : partB s = r) (w : World) :
    Calls Try.prog 25 #[.string s] w fun e w' => e = .returned (.bool r) ∧ w = w' := by
  have D0 := fun v => ref_ldigits hs 0 (Nat.zero_le _) 0 rfl v
  unfold partB at hr
  rcases (by omega : s.size < 1 ∨ 40 < s.size ∨ (1 ≤ s.size ∧ s.size ≤ 40)) with h | h | ⟨h, h2⟩
  · have k1 : ¬ (1 : Int) ≤ s.size := by omega
    obtain rfl : r = false := by rw [← hr, decide_eq_false (by omega)]; rfl
    clear hr hs D0
    go_enter Try.func25, Try.ntmps25
    go_wp2
    go_ret
    exact ⟨rfl, rfl⟩
  · have k1 : (1 : Int) ≤ s.size := by omega
    have k2 : ¬ (s.size : Int) ≤ 40 := by omega
    obtain rfl : r = false := by rw [← hr, decide_eq_false (by omega)]; rfl
    clear hr hs D0
    go_enter Try.func25, Try.ntmps25
    go_wp2
    go_ret
    exact ⟨rfl, rfl⟩
  · have k1 : (1 : Int) ≤ s.size := by omega
    have k2 : (s.size : Int) ≤ 40 := by omega
    rw [decide_eq_true ⟨h, h2⟩, Bool.true_and] at hr
    by_cases hd : digEnd s 0 = s.size
    · rw [decide_eq_true hd, Bool.true_and] at hr
      rw [hd] at D0
      by_cases h1 : s.size = 1
      · have e1 : ((s.size : Int) == 1) = true := by rw [beq_iff_eq]; omega
        obtain rfl : r = true := by rw [← hr, decide_eq_true h1]; rfl
        clear hr hs hd h1
        go_enter Try.func25, Try.ntmps25
        go_wp2_with (go_at_call 42; (with_reducible refine Calls.mono (D0 _) ?_); rintro e v1 ⟨rfl, rfl⟩)
        go_ret
        exact ⟨by simp, rfl⟩
      · have e1 : ((s.size : Int) == 1) = false := by rw [beq_eq_false_iff_ne]; omega
        have h0 : 0 < s.size := by omega
        have h0' : (0 : Int) < s.size := by omega
        have e2 : ((s[0].toNat : Int) != 48) = r := by
          rw [← hr, decide_eq_false h1, Bool.false_or, bt_get h0, Bool.eq_iff_iff, bne_iff_ne, decide_eq_true_eq]
          omega
        clear hr hs hd h1
        go_enter Try.func25, Try.ntmps25
        go_wp2_with (go_at_call 42; (with_reducible refine Calls.mono (D0 _) ?_); rintro e v1 ⟨rfl, rfl⟩)
        go_ret
        exact ⟨by simp, rfl⟩
    · obtain rfl : r = false := by rw [← hr, decide_eq_false hd]; rfl
      have e1 : ((digEnd s 0 : Int) == s.size) = false := by rw [beq_eq_false_iff_ne]; omega
      clear hr hs
      generalize digEnd s 0 = E at *
      clear hd
      go_enter Try.func25, Try.ntmps25
      go_wp2_with (go_at_call 42; (with_reducible refine Calls.mono (D0 _) ?_); rintro e v1 ⟨rfl, rfl⟩)
      go_ret
      exact ⟨rfl, rfl⟩

set_option maxHeartbeats 4000000 in
theorem ref_lNumber {s : ByteArray} (hs : s.size ≤ 1000000) (r : Bool) (hr : numB s = r) (w : World) :
    Calls Try.prog 13 #[.string s] w fun e w' => e = .returned (.bool r) ∧ w = w' := by
  have C0 := fun v => ref_lcut hs v
  have hc := cutI_le s
  unfold numB at hr
  by_cases h : cutI s = s.size
  · rw [if_pos h] at hr
    rw [h] at C0
    have P0 := fun v => ref_lpart hs r hr v
    clear hr hs hc h
    go_enter Try.func13, Try.ntmps13
    go_wp2_with (first
      | (go_at_call 24; (with_reducible refine Calls.mono (C0 _) ?_); rintro e v1 ⟨rfl, rfl⟩)
      | (go_at_call 25; (with_reducible refine Calls.mono (P0 _) ?_); rintro e v2 ⟨rfl, rfl⟩))
    go_ret
    exact ⟨rfl, rfl⟩
  · rw [if_neg h] at hr
    generalize cutI s = A at *
    have P1 := fun v => ref_lpart (s := s.extract 0 A) (by rw [ByteArray.size_extract]; omega) _ rfl v
    have P2 := fun v => ref_lpart (s := s.extract (A + 1) s.size) (by rw [ByteArray.size_extract]; omega) _ rfl v
    have q1 : 0 ≤ (A : Int) + 1 := by omega
    have q2 : (A : Int) + 1 < 10000000 := by omega
    have e1 : ((A : Int) == s.size) = false := by rw [beq_eq_false_iff_ne]; omega
    have a1 : (A : Int) ≤ s.size := by omega
    have a2 : (A : Int) + 1 ≤ s.size := by omega
    generalize partB (s.extract 0 A) = p1 at *
    generalize partB (s.extract (A + 1) s.size) = p2 at *
    generalize hq : ((s.extract (A + 1) s.size).toList == [48]) = p3 at *
    clear hs hc h
    have w1 : wrap64 ((A : Int) + 1) = (A : Int) + 1 := wrap_smalls q1 q2
    clear q1 q2
    cases p1 <;> cases p2
    all_goals
      simp only [Bool.true_and, Bool.false_and] at hr
      subst hr
      go_enter Try.func13, Try.ntmps13
      go_wp2_with (first
        | (go_at_call 24; (with_reducible refine Calls.mono (C0 _) ?_); rintro e v1 ⟨rfl, rfl⟩)
        | (go_at_call 25; (with_reducible refine Calls.mono (P1 _) ?_); rintro e v2 ⟨rfl, rfl⟩)
        | (go_at_call 25; (with_reducible refine Calls.mono (P2 _) ?_); rintro e v3 ⟨rfl, rfl⟩))
      go_ret
      exact ⟨rfl, rfl⟩

set_option maxHeartbeats 4000000 in
theorem ref_lnumber {s : ByteArray} (hs : s.size ≤ 1000000) (i : Nat) (hi : i ≤ s.size) (j : Int) (hj : (i : Int) = j) (w : World) :
    Calls Try.prog 38 #[.string s, .int .i64 j] w fun e w' => e = .returned (.int .i64 (numEnd s i)) ∧ w = w' := by
  subst hj
  have D0 := fun v => ref_ldigits hs i hi i rfl v
  have hE := (digEnd_range s i).2 hi
  unfold numEnd
  generalize digEnd s i = E at *
  by_cases h : E < s.size ∧ bt s E = 124
  · obtain ⟨h1, h2⟩ := h
    rw [bt_get h1] at h2 ⊢
    have D1 := fun v => ref_ldigits hs (E + 1) (by omega) ((E : Int) + 1) (by omega) v
    have k1 : (E : Int) < s.size := by omega
    have e2 : ((s[E].toNat : Int) == 124) = true := by rw [beq_iff_eq]; omega
    have q1 : 0 ≤ (E : Int) + 1 := by omega
    have q2 : (E : Int) + 1 < 10000000 := by omega
    generalize digEnd s (E + 1) = G at *
    by_cases h3 : E + 1 < G
    · rw [if_pos ⟨h1, h2, h3⟩]
      have k3 : (E : Int) + 1 < G := by omega
      clear hs hi hE h2 h3
      have w1 : wrap64 ((E : Int) + 1) = (E : Int) + 1 := wrap_smalls q1 q2
      clear q1 q2
      go_enter Try.func38, Try.ntmps38
      go_wp2_with (first
        | (go_at_call 42; (with_reducible refine Calls.mono (D0 _) ?_); rintro e v1 ⟨rfl, rfl⟩)
        | (go_at_call 42; (with_reducible refine Calls.mono (D1 _) ?_); rintro e v2 ⟨rfl, rfl⟩))
      go_ret
      exact ⟨rfl, rfl⟩
    · rw [if_neg (fun e => h3 e.2.2)]
      have k3 : ¬ (E : Int) + 1 < G := by omega
      clear hs hi hE h2 h3
      have w1 : wrap64 ((E : Int) + 1) = (E : Int) + 1 := wrap_smalls q1 q2
      clear q1 q2
      go_enter Try.func38, Try.ntmps38
      go_wp2_with (first
        | (go_at_call 42; (with_reducible refine Calls.mono (D0 _) ?_); rintro e v1 ⟨rfl, rfl⟩)
        | (go_at_call 42; (with_reducible refine Calls.mono (D1 _) ?_); rintro e v2 ⟨rfl, rfl⟩))
      go_ret
      exact ⟨rfl, rfl⟩
  · rw [if_neg (fun e => h ⟨e.1, e.2.1⟩)]
    by_cases h1 : E < s.size
    · have k1 : (E : Int) < s.size := by omega
      rw [bt_get h1] at h
      have e2 : ((s[E].toNat : Int) == 124) = false := by rw [beq_eq_false_iff_ne]; omega
      clear hs hi hE h
      go_enter Try.func38, Try.ntmps38
      go_wp2_with (go_at_call 42; (with_reducible refine Calls.mono (D0 _) ?_); rintro e v1 ⟨rfl, rfl⟩)
      go_ret
      exact ⟨rfl, rfl⟩
    · have k1 : ¬ (E : Int) < s.size := by omega
      clear hs hi hE h h1
      go_enter Try.func38, Try.ntmps38
      go_wp2_with (go_at_call 42; (with_reducible refine Calls.mono (D0 _) ?_); rintro e v1 ⟨rfl, rfl⟩)
      go_ret
      exact ⟨rfl, rfl⟩
end Go.Proofs.Ytfdheodkipfpeaa
/-
  Contract of the document's own token (package talwegref10), at every text of up to a million bytes; memory that was there stays.
-/
namespace Go.Proofs.Ytfdheodkipfpeaa
open Go.RowKit Go.Lib

/-- What token answers. -/
def AnsK (W : World) (p : Int × ByteArray × Nat × Int) (e : Ending) (w' : World) : Prop :=
  e = .returned (.tuple #[.agg #[.int .i64 p.1, .string p.2.1, .int .i64 0, .int .i64 0], .int .i64 (p.2.2.1 : Int), .int .i64 p.2.2.2]) ∧ Below W.heap.size W w'

set_option maxHeartbeats 8000000 in
theorem ref_ltoken {s : ByteArray} (hs : s.size ≤ 1000000) (i : Nat) (hi : i ≤ s.size) (w : World) :
    Calls Try.prog 20 #[.string s, .int .i64 i] w (AnsK w (tokenI s i)) := by
  have K0 := fun v => ref_lkind hs i i rfl v
  have W0 := fun v => ref_lword hs i hi i rfl v
  have N0 := fun v => ref_lnumber hs i hi i rfl v
  have hw := wordEnd_range s i
  have hn := numEnd_range hi
  have hw2 := hw.2 hi
  have hz : kindAt s i = 4 → 1 ≤ stepAt s i ∧ i + stepAt s i ≤ s.size := fun h => by have := stepAt_size (kindAt_in (s := s) (i := i) (by omega)); omega
  have hk := kindAt_range s i
  have i0 : ¬ (i : Int) < 0 := by omega
  have bA := fun o => (Below.refl _ w).alloc (Nat.le_refl _) o
  unfold tokenI
  generalize kindAt s i = k at *
  generalize stepAt s i = M at *
  generalize wordEnd s i = E at *
  generalize numEnd s i = G at *
  rcases (by omega : k = 1 ∨ k = 2 ∨ k = 4 ∨ (k = -1 ∨ k = 0 ∨ k = 3)) with rfl | rfl | rfl | hk4
  · rw [if_pos rfl]
    have q1 : (i : Int) ≤ E := by omega
    have q2 : (E : Int) ≤ s.size := by omega
    have q3 : 0 ≤ (E : Int) - i := by omega
    have q4 : (E : Int) - i < 10000000 := by omega
    by_cases h : i + 40 < E
    · rw [if_pos h]
      have k1 : 40 < (E : Int) - i := by omega
      clear hs hi hw hn hw2 hz hk h N0
      have w1 : wrap64 ((E : Int) - i) = (E : Int) - i := wrap_smalls q3 q4
      clear q3 q4
      go_enter Try.func20, Try.ntmps20
      go_wp2_with (first
        | (go_at_call 18; (with_reducible refine Calls.mono (K0 _) ?_); rintro e v1 ⟨rfl, rfl⟩)
        | (go_at_call 37; (with_reducible refine Calls.mono (W0 _) ?_); rintro e v2 ⟨rfl, rfl⟩))
      exact bodyPost_ret (v := .tuple #[.agg #[.int .i64 0, .string ⟨#[]⟩, .int .i64 0, .int .i64 0], .int .i64 E, .int .i64 4]) (by simp [results, Try.results20, go_sem]) rfl ⟨rfl, bA _⟩
    · rw [if_neg h]
      have k1 : ¬ 40 < (E : Int) - i := by omega
      clear hs hi hw hn hw2 hz hk h N0
      have w1 : wrap64 ((E : Int) - i) = (E : Int) - i := wrap_smalls q3 q4
      clear q3 q4
      go_enter Try.func20, Try.ntmps20
      go_wp2_with (first
        | (go_at_call 18; (with_reducible refine Calls.mono (K0 _) ?_); rintro e v1 ⟨rfl, rfl⟩)
        | (go_at_call 37; (with_reducible refine Calls.mono (W0 _) ?_); rintro e v2 ⟨rfl, rfl⟩))
      exact bodyPost_ret (v := .tuple #[.agg #[.int .i64 0, .string (s.extract i E), .int .i64 0, .int .i64 0], .int .i64 E, .int .i64 0]) (by simp [results, Try.results20, go_sem]) rfl ⟨rfl, bA _⟩
  · rw [if_neg (by omega), if_pos rfl]
    have hsz : (s.extract i G).size = G - i := by rw [ByteArray.size_extract]; omega
    have C0 := fun v => ref_lcut (s := s.extract i G) (by omega) v
    have Q0 := fun v => ref_lNumber (s := s.extract i G) (by omega) _ rfl v
    have hc := cutI_le (s.extract i G)
    have q1 : (i : Int) ≤ G := by omega
    have q2 : (G : Int) ≤ s.size := by omega
    generalize hx : s.extract i G = t at *
    generalize cutI t = A at *
    generalize hnb : numB t = nb at *
    have q3 : 0 ≤ (t.size : Int) - A := by omega
    have q4 : (t.size : Int) - A < 10000000 := by omega
    rcases (by omega : 40 < A ∨ (¬ 40 < A ∧ A + 41 < t.size) ∨ (¬ 40 < A ∧ ¬ A + 41 < t.size)) with h | ⟨h, h2⟩ | ⟨h, h2⟩
    · rw [if_pos (.inl h)]
      have k1 : 40 < (A : Int) := by omega
      clear hs hi hw hn hw2 hz hk h W0 hsz hc q3 q4 hnb
      go_enter Try.func20, Try.ntmps20
      go_wp2_with (first
        | (go_at_call 18; (with_reducible refine Calls.mono (K0 _) ?_); rintro e v1 ⟨rfl, rfl⟩)
        | (go_at_call 38; (with_reducible refine Calls.mono (N0 _) ?_); rintro e v2 ⟨rfl, rfl⟩)
        | (go_at_call 24; (with_reducible refine Calls.mono (C0 _) ?_); rintro e v3 ⟨rfl, rfl⟩)
        | (go_at_call 13; (with_reducible refine Calls.mono (Q0 _) ?_); rintro e v4 ⟨rfl, rfl⟩))
      exact bodyPost_ret (v := .tuple #[.agg #[.int .i64 0, .string ⟨#[]⟩, .int .i64 0, .int .i64 0], .int .i64 G, .int .i64 4]) (by simp [results, Try.results20, go_sem]) rfl ⟨rfl, bA _⟩
    · rw [if_pos (.inr h2)]
      have k1 : ¬ 40 < (A : Int) := by omega
      have k2 : 41 < (t.size : Int) - A := by omega
      clear hs hi hw hn hw2 hz hk h h2 W0 hsz hc hnb
      have w1 : wrap64 ((t.size : Int) - A) = (t.size : Int) - A := wrap_smalls q3 q4
      clear q3 q4
      go_enter Try.func20, Try.ntmps20
      go_wp2_with (first
        | (go_at_call 18; (with_reducible refine Calls.mono (K0 _) ?_); rintro e v1 ⟨rfl, rfl⟩)
        | (go_at_call 38; (with_reducible refine Calls.mono (N0 _) ?_); rintro e v2 ⟨rfl, rfl⟩)
        | (go_at_call 24; (with_reducible refine Calls.mono (C0 _) ?_); rintro e v3 ⟨rfl, rfl⟩)
        | (go_at_call 13; (with_reducible refine Calls.mono (Q0 _) ?_); rintro e v4 ⟨rfl, rfl⟩))
      exact bodyPost_ret (v := .tuple #[.agg #[.int .i64 0, .string ⟨#[]⟩, .int .i64 0, .int .i64 0], .int .i64 G, .int .i64 4]) (by simp [results, Try.results20, go_sem]) rfl ⟨rfl, bA _⟩
    · rw [if_neg (by omega)]
      have k1 : ¬ 40 < (A : Int) := by omega
      have k2 : ¬ 41 < (t.size : Int) - A := by omega
      clear hs hi hw hn hw2 hz hk h h2 W0 hsz hc hnb
      have w1 : wrap64 ((t.size : Int) - A) = (t.size : Int) - A := wrap_smalls q3 q4
      clear q3 q4
      cases nb
      · rw [if_neg (by simp)]
        go_enter Try.func20, Try.ntmps20
        go_wp2_with (first
          | (go_at_call 18; (with_reducible refine Calls.mono (K0 _) ?_); rintro e v1 ⟨rfl, rfl⟩)
          | (go_at_call 38; (with_reducible refine Calls.mono (N0 _) ?_); rintro e v2 ⟨rfl, rfl⟩)
          | (go_at_call 24; (with_reducible refine Calls.mono (C0 _) ?_); rintro e v3 ⟨rfl, rfl⟩)
          | (go_at_call 13; (with_reducible refine Calls.mono (Q0 _) ?_); rintro e v4 ⟨rfl, rfl⟩))
        exact bodyPost_ret (v := .tuple #[.agg #[.int .i64 0, .string ⟨#[]⟩, .int .i64 0, .int .i64 0], .int .i64 G, .int .i64 5]) (by simp [results, Try.results20, go_sem]) rfl ⟨rfl, bA _⟩
      · rw [if_pos rfl]
        go_enter Try.func20, Try.ntmps20
        go_wp2_with (first
          | (go_at_call 18; (with_reducible refine Calls.mono (K0 _) ?_); rintro e v1 ⟨rfl, rfl⟩)
          | (go_at_call 38; (with_reducible refine Calls.mono (N0 _) ?_); rintro e v2 ⟨rfl, rfl⟩)
          | (go_at_call 24; (with_reducible refine Calls.mono (C0 _) ?_); rintro e v3 ⟨rfl, rfl⟩)
          | (go_at_call 13; (with_reducible refine Calls.mono (Q0 _) ?_); rintro e v4 ⟨rfl, rfl⟩))
        exact bodyPost_ret (v := .tuple #[.agg #[.int .i64 1, .string t, .int .i64 0, .int .i64 0], .int .i64 G, .int .i64 0]) (by simp [results, Try.results20, go_sem]) rfl ⟨rfl, bA _⟩
  · rw [if_neg (by omega), if_neg (by omega), if_pos rfl]
    obtain ⟨z1, z2⟩ := hz rfl
    have q1 : (i : Int) ≤ (i : Int) + M := by omega
    have q2 : (i : Int) + M ≤ s.size := by omega
    have q3 : 0 ≤ (i : Int) + M := by omega
    have q4 : (i : Int) + M < 10000000 := by omega
    clear hs hi hw hn hw2 hz hk W0 N0 z1 z2
    have w1 : wrap64 ((i : Int) + M) = (i : Int) + M := wrap_smalls q3 q4
    clear q4
    go_enter Try.func20, Try.ntmps20
    go_wp2_with (go_at_call 18; (with_reducible refine Calls.mono (K0 _) ?_); rintro e v1 ⟨rfl, rfl⟩)
    exact bodyPost_ret (v := .tuple #[.agg #[.int .i64 2, .string (s.extract i (i + M)), .int .i64 0, .int .i64 0], .int .i64 ((i : Int) + M), .int .i64 0]) (by simp [results, Try.results20, go_sem, w1]) rfl ⟨rfl, bA _⟩
  · rw [if_neg (by omega), if_neg (by omega), if_neg (by omega)]
    clear hs hi hw hn hw2 hz hk W0 N0
    rcases hk4 with rfl | rfl | rfl
    all_goals
      go_enter Try.func20, Try.ntmps20
      go_wp2_with (go_at_call 18; (with_reducible refine Calls.mono (K0 _) ?_); rintro e v1 ⟨rfl, rfl⟩)
      exact bodyPost_ret (v := .tuple #[.agg #[.int .i64 0, .string ⟨#[]⟩, .int .i64 0, .int .i64 0], .int .i64 i, .int .i64 5]) (by simp [results, Try.results20, go_sem]) rfl ⟨rfl, bA _⟩
end Go.Proofs.Ytfdheodkipfpeaa
/-
  Laws of no function: slices of tokens that a call makes: what they hold, what stays, append onto one. Conditions: Go's own limits on sizes.
-/
namespace Go.Proofs.Ytfdheodkipfpeaa
open Go.RowKit

def tcA (t : Tok) : Array Value := #[.int .i64 t.1, .string t.2.1, .int .i64 t.2.2.1, .int .i64 t.2.2.2]
def tcs : List Tok → List Value
  | [] => []
  | t :: l => (tcA t).toList ++ tcs l
theorem tcs_length (l : List Tok) : (tcs l).length = l.length * 4 := by
  induction l with
  | nil => rfl
  | cons t l ih => simp [tcs, tcA, ih]; omega
theorem tcs_append (l m : List Tok) : tcs (l ++ m) = tcs l ++ tcs m := by
  induction l with
  | nil => rfl
  | cons t l ih => simp [tcs, ih]

theorem infoTok : (Try.prog.info? 32).map (fun i => (i.zero, i.size, i.bytes)) = some (some (.agg #[.int .i64 0, .string ⟨#[]⟩, .int .i64 0, .int .i64 0]), 4, 40) := by kernel_rfl

/-- The call that began in W owns v, n tokens; nothing older than W has turned. -/
def OwnT (W w : World) (v : Value) (n : Nat) (l : List Tok) : Prop := w.ownsRow W.heap.size 32 4 v n (tcs l) ∧ Below W.heap.size W w
theorem OwnT.length {W w : World} {v : Value} {n : Nat} {l : List Tok} (h : OwnT W w v n l) : l.length = n := by
  have := h.1.1; rw [tcs_length] at this; omega
theorem OwnT.below {W w : World} {v : Value} {n : Nat} {l : List Tok} (h : OwnT W w v n l) : Below W.heap.size W w := h.2
theorem OwnT.nil {W w : World} (h : Below W.heap.size W w) : OwnT W w (.slice none 0 0) 0 [] := ⟨World.ownsRow_nil _ _ _ _, h⟩
theorem OwnT.more {W w w' : World} {v : Value} {n : Nat} {l : List Tok} (h : OwnT W w v n l) (hb : Below w.heap.size w w') : OwnT W w' v n l := by
  refine ⟨⟨h.1.1, ?_⟩, below_more h.2 hb⟩
  rcases h.1.2 with h0 | ⟨g, cap, cur, e, h1, hg, h2⟩
  · exact .inl h0
  · refine .inr ⟨g, cap, cur, e, h1, ?_, h2⟩
    rw [hb.block g (Array.getElem?_eq_some_iff.1 hg).1]; exact hg
theorem OwnT.alloc {W w : World} {v : Value} {n : Nat} {l : List Tok} (h : OwnT W w v n l) (o : Obj) : OwnT W (w.alloc o) v n l := h.more ((Below.refl _ _).alloc (Nat.le_refl _) _)
theorem OwnT.outer {W V w : World} {v : Value} {n : Nat} {l : List Tok} (h : OwnT V w v n l) (hb : Below W.heap.size W V) : OwnT W w v n l := by
  refine ⟨⟨h.1.1, ?_⟩, below_more hb h.2⟩
  rcases h.1.2 with h0 | ⟨g, cap, cur, e, h1, h2⟩
  · exact .inl h0
  · exact .inr ⟨g, cap, cur, e, Nat.le_trans hb.size h1, h2⟩
theorem OwnT.lit {W w : World} {v : Value} {n : Nat} {l : List Tok} (h : OwnT W w v n l) : ∃ a c, v = .slice a n c := by
  rcases h.1.2 with ⟨rfl, rfl⟩ | ⟨g, cap, cur, rfl, -⟩
  · exact ⟨none, 0, rfl⟩
  · exact ⟨_, _, rfl⟩
/-- What is owned stays where a variable of another type is written. -/
theorem OwnT.box {W w : World} {v : Value} {n : Nat} {l : List Tok} (h : OwnT W w v n l) {k : Nat} {cs : Array Value} {T : TypeId} (B : BoxC w k cs T) (hT : T ≠ 32) (hk : W.heap.size ≤ k) (i : Nat) (x : Value) : OwnT W (w.setCell ⟨k, i, none⟩ x) v n l := by
  refine ⟨⟨h.1.1, ?_⟩, h.2.setCell (p := ⟨k, i, none⟩) hk _⟩
  rcases h.1.2 with h0 | ⟨g, cap, cur, e, h3, hg, h4⟩
  · exact .inl h0
  · refine .inr ⟨g, cap, cur, e, h3, ?_, h4⟩
    have hne : g ≠ k := by
      intro e1
      subst e1
      unfold BoxC at B
      rw [B] at hg
      simp at hg
      exact hT hg.2
    rw [Below.heap_setCell w ⟨k, i, none⟩ x g (by simpa using hne)]; exact hg
/-- It stays where another block is written, which the caller made. -/
theorem OwnT.other {W w : World} {v : Value} {n : Nat} {l : List Tok} (h : OwnT W w v n l) {k : Nat} (hk : W.heap.size ≤ k) (hne : v.ownBlock ≠ some k) (i : Nat) (x : Value) : OwnT W (w.setCell ⟨k, i, none⟩ x) v n l := by
  refine ⟨⟨h.1.1, ?_⟩, h.2.setCell (p := ⟨k, i, none⟩) hk _⟩
  rcases h.1.2 with h0 | ⟨g, cap, cur, e, h3, hg, h4⟩
  · exact .inl h0
  · refine .inr ⟨g, cap, cur, e, h3, ?_, h4⟩
    subst e
    have hgk : g ≠ k := fun e1 => hne (by rw [← e1]; rfl)
    rw [Below.heap_setCell w ⟨k, i, none⟩ x g (by simpa using hgk)]; exact hg

theorem BoxC.grown {w w' : World} {k : Nat} {cs : Array Value} {T : TypeId} {row : Option Nat} (h : BoxC w k cs T) (hg : w.grownBy w' row) (hne : row ≠ some k) : BoxC w' k cs T := by
  have := hg.block k h.lt (Ne.symm hne)
  unfold BoxC at h ⊢
  rw [this]; exact h

set_option maxHeartbeats 1000000 in
/-- append(v, t), v the call's own, t in a new block. -/
theorem wpl_append_tok {ops : Array Oper} {rest : List Oper} {o : Oper} {a : Act} {Q : Exit → Act → World → Prop} (s x : Operand)
    (ho : o.op = .call { callee := .builtin .append, args := #[s, x], argTypes := #[23, 23] }) (hgd : Region.wanted o (yielded ops a.tmps) = true)
    (W w : World) (v : Value) (n : Nat) (l : List Tok) (t : Tok) (g : Nat) (hs : a.eval s = v) (hx : a.eval x = .slice (some ⟨g, 0, none⟩) 1 1) (hown : OwnT W w v n l) (hsrc : BoxC w g (tcA t) 32) (hle : n ≤ 1000000)
    (h : ∀ a' c' w', OwnT W w' (.slice a' (n + 1) c') (n + 1) (l ++ [t]) → w.grownBy w' v.ownBlock → wpList Try.prog ops Q rest (a.put o.dst (.slice a' (n + 1) c')) w') : wpList Try.prog ops Q (o :: rest) a w := by
  obtain ⟨i, hi, hz, hs1, hby⟩ := info_parts infoTok
  have hmax : n + 1 ≤ maxLen := by unfold maxLen; omega
  refine wpList_step fun K hK => ?_
  rw [if_pos hgd]
  refine wp_append_own (P := Try.prog) w s x 23 ho W.heap.size 32 i _ 4 40 Try.underlying23 hi hz hs1 hby rfl (by decide) v n _ hs hown.1 ⟨g, 0, none⟩ 1 1 (tcA t).toList hx rfl ?_ ?_ hmax (by omega) hown.2.size ?_
  · intro j u hj
    rw [Go.WideShapes.add_plain, Nat.zero_add, (hsrc.cell j).1]
    simpa using hj
  · intro u hu
    simp [tcA] at hu
    rcases hu with rfl | rfl | rfl | rfl <;> rfl
  · intro v' w' h1 h2 _
    have hnew : OwnT W w' v' (n + 1) (l ++ [t]) := ⟨by rw [tcs_append]; simpa [tcs] using h1, hown.2.grown h2 hown.2.size (fun k hk => (hown.1.lt k hk).1)⟩
    obtain ⟨a', c', rfl⟩ := hnew.lit
    exact hK _ _ (h a' c' w' hnew h2)
end Go.Proofs.Ytfdheodkipfpeaa
/-
  Contract of the document's own Lex (package talwegref10), at every text of up to a million bytes; memory that was there stays, and the list that is answered is the call's own.
-/
namespace Go.Proofs.Ytfdheodkipfpeaa
open Go.RowKit Go.Lib

/-- What Lex answers. -/
def AnsX (W : World) (p : List Tok × (Int × Int) × Int) (e : Ending) (w' : World) : Prop :=
  ∃ a c, e = .returned (.tuple #[.slice a p.1.length c, .agg #[.int .i64 p.2.1.1, .int .i64 p.2.1.2], .int .i64 p.2.2]) ∧ OwnT W w' (.slice a p.1.length c) p.1.length p.1
theorem ansX_no {W w' : World} {l c E : Int} (h : Below W.heap.size W w') : AnsX W ([], (l, c), E) (.returned (.tuple #[.slice none 0 0, .agg #[.int .i64 l, .int .i64 c], .int .i64 E])) w' := ⟨none, 0, rfl, OwnT.nil h⟩
theorem place_ne_tok : (25 : TypeId) ≠ 32 := by decide
theorem OwnT.apart {W w : World} {v : Value} {n : Nat} {l : List Tok} (h : OwnT W w v n l) {k : Nat} {cs : Array Value} {T : TypeId} (B : BoxC w k cs T) (hT : T ≠ 32) : v.ownBlock ≠ some k := by
  rcases h.1.2 with ⟨rfl, -⟩ | ⟨g, cap, cur, rfl, h3, hg, h4⟩
  · exact fun e => by cases e
  · intro e
    have e1 : g = k := by simpa [Value.ownBlock] using e
    subst e1
    unfold BoxC at B
    rw [B] at hg
    simp at hg
    exact hT hg.2
theorem tok_new (w : World) (k : Nat) (x y : Value) (cs : Array Value) (T : TypeId) : BoxC (((w.setCell ⟨k, 2, none⟩ x).setCell ⟨k, 3, none⟩ y).alloc (.cells cs T)) w.heap.size cs T := by
  have := BoxC.new ((w.setCell ⟨k, 2, none⟩ x).setCell ⟨k, 3, none⟩ y) cs T
  have e : ((w.setCell ⟨k, 2, none⟩ x).setCell ⟨k, 3, none⟩ y).heap.size = w.heap.size := by simp
  rwa [e] at this
theorem BoxC.cells4 {v : World} {k : Nat} {a b c d : Value} {T : TypeId} (h : BoxC v k #[a, b, c, d] T) : v.cell? ⟨k, 0, none⟩ = some a ∧ v.cell? ⟨k, 1, none⟩ = some b ∧ v.cell? ⟨k, 2, none⟩ = some c ∧ v.cell? ⟨k, 3, none⟩ = some d ∧ v.frozen? ⟨k, 2, none⟩ = false ∧ v.frozen? ⟨k, 3, none⟩ = false :=
  ⟨(h.cell 0).1, (h.cell 1).1, (h.cell 2).1, (h.cell 3).1, (h.cell 2).2, (h.cell 3).2⟩

set_option maxRecDepth 100000 in
set_option maxHeartbeats 20000000 in
theorem ref_llex {s : ByteArray} (hs : s.size ≤ 1000000) (w : World) : Calls Try.prog 10 #[.string s] w (AnsX w (lexI s)) := by
  obtain ⟨B3, bV, hb⟩ := boxes1 w #[.int .i64 0, .int .i64 0] 25
  unfold lexI
  by_cases h6 : 60000 < s.size
  · rw [if_pos h6]
    have k6 : 60000 < (s.size : Int) := by omega
    clear hs h6
    go_enter Try.func10, Try.ntmps10
    go_wp2
    exact bodyPost_ret (v := .tuple #[.slice none 0 0, .agg #[.int .i64 1, .int .i64 1], .int .i64 4]) (by simp [results, Try.results10, go_sem]) rfl (ansX_no ((Below.refl _ w).alloc (Nat.le_refl _) _))
  rw [if_neg h6]
  have k6 : ¬ 60000 < (s.size : Int) := by omega
  have KD := fun i j hj v => ref_lkind hs i j hj v
  have TK := fun i hi v => ref_ltoken hs i hi v
  have PL := fun j v => ref_splace hs j v
  have HS : Hid (s.size ≤ 60000) := Nat.not_lt.1 h6
  unfold AnsL at PL
  unfold AnsK at TK
  generalize hp : lexF s (s.size + 1) 0 [] = P
  have HP : Hid (lexF s (s.size + 1) 0 [] = P) := hp
  clear hp hs h6
  go_enter Try.func10, Try.ntmps10
  go_wp2
  generalize w.alloc (.cells #[.int .i64 0, .int .i64 0] 25) = V at *
  go_loopg [5, 6] s.size (fun g s5 s6 v => ∃ (i : Nat) (a : Option Addr) (c n : Nat) (l : List Tok), s5 = .slice a n c ∧ s6 = .int .i64 i ∧ i + g = s.size ∧ n = l.length ∧ l.length ≤ 4000 ∧ OwnT w v (.slice a n c) n l ∧ BoxC v w.heap.size #[.int .i64 0, .int .i64 0] 25 ∧ lexF s (s.size + 1) i l = P)
  case atStart => exact ⟨0, none, 0, 0, [], rfl, rfl, by omega, rfl, by simp, OwnT.nil bV, B3, HP.out⟩
  case round =>
    obtain ⟨i, a, c, n, l, rfl, rfl, hg, hn, hl, oT, B3, hF⟩ := hrel
    clear HP bV hb
    have HF : Hid (lexF s (s.size + 1) i l = P) := hF
    clear hF
    rcases Nat.lt_or_ge i s.size with hi | hi
    · have hi' : (i : Int) < s.size := by omega
      have K0 := fun v => KD i i rfl v
      have hS := HS.out
      have hT := lexF_step (out := l) hi
      rw [HF.out] at hT
      have HT : Hid (P = _) := hT
      clear hT HF
      by_cases h3 : kindAt s i = 3
      · rw [h3] at K0
        have HT2 : Hid (lexF s (s.size + 1) (i + 1) l = P) := by show _ = _; rw [HT.out, if_pos h3]
        have q1 : 0 ≤ (i : Int) + 1 := by omega
        have q2 : (i : Int) + 1 < 10000000 := by omega
        have HO : Hid (i + gk = s.size ∧ i < s.size ∧ n = l.length ∧ l.length ≤ 4000 ∧ OwnT w wr (.slice a n c) n l ∧ BoxC wr w.heap.size #[.int .i64 0, .int .i64 0] 25) := ⟨hg, hi, hn, hl, oT, B3⟩
        clear HT h3 KD TK PL hS hg hn hl oT B3
        have w1 : wrap64 ((i : Int) + 1) = (i : Int) + 1 := wrap_smalls q1 q2
        clear q1 q2
        go_wp2_with (go_at_call 18; (with_reducible refine Calls.mono (K0 _) ?_); rintro e v1 ⟨rfl, rfl⟩)
        clear w1
        obtain ⟨o1, o2, o3, o4, o5, o6⟩ := HO.out
        go_roundg (s.size - (i + 1))
        case measure => omega
        case rel => exact ⟨i + 1, a, c, n, l, rfl, by go_num, by omega, o3, o4, o5, o6, HT2.out⟩
      · have e3 : (kindAt s i == 3) = false := by rw [beq_eq_false_iff_ne]; exact h3
        have HT2 : Hid (P = _) := HT.out.trans (if_neg h3)
        clear HT h3
        generalize kindAt s i = k at *
        have P0 := fun v => PL i v
        by_cases h4 : 4000 ≤ l.length
        · have HT3 : Hid (P = _) := HT2.out.trans (if_pos h4)
          have k4 : 4000 ≤ (n : Int) := by omega
          have HO : Hid (P = ([], placeI s i, 4) ∧ Below w.heap.size w wr) := ⟨HT3.out, oT.below⟩
          clear HT2 HT3 KD TK PL hS hg hn hl oT h4
          generalize placeI s i = Q at *
          obtain ⟨L, C⟩ := Q
          dsimp only at P0
          go_wp2_with (first
            | (go_at_call 18; (with_reducible refine Calls.mono (K0 _) ?_); rintro e v1 ⟨rfl, rfl⟩)
            | (go_at_call 19; (with_reducible refine Calls.mono (P0 _) ?_); rintro e w1 ⟨rfl, b1⟩; obtain ⟨y0, y1, y2, y3⟩ := (B3.more b1).cells2))
          obtain ⟨o1, o2⟩ := HO.out
          subst o1
          exact bodyPost_ret (v := .tuple #[.slice none 0 0, .agg #[.int .i64 L, .int .i64 C], .int .i64 4]) (by simp [results, Try.results10, go_sem, y0, y1]) rfl (ansX_no (((below_more o2 b1).setCell (p := ⟨w.heap.size, 0, none⟩) (Nat.le_refl _) _).setCell (p := ⟨w.heap.size, 1, none⟩) (Nat.le_refl _) _))
        · have HT3 : Hid (P = _) := HT2.out.trans (if_neg h4)
          have k4 : ¬ 4000 ≤ (n : Int) := by omega
          have T0 := fun v => TK i (Nat.le_of_lt hi) v
          have hE : (tokenI s i).2.2.2 = 0 → i < (tokenI s i).2.2.1 ∧ (tokenI s i).2.2.1 ≤ s.size := fun h => tokenI_end hi h
          clear HT2 KD TK PL hS
          generalize tokenI s i = tk at *
          generalize placeI s i = Q at *
          obtain ⟨tk1, tt, E, er⟩ := tk
          obtain ⟨L, C⟩ := Q
          dsimp only at T0 P0 HT3 hE
          have hB3 := B3.lt
          have HO : Hid (OwnT w wr (.slice a n c) n l ∧ BoxC wr w.heap.size #[.int .i64 0, .int .i64 0] 25 ∧ i + gk = s.size ∧ n = l.length ∧ l.length < 4000) := ⟨oT, B3, hg, hn, Nat.not_le.1 h4⟩
          have HR : Hid ((Value.slice a n c).ownBlock ≠ some w.heap.size) := oT.apart B3 place_ne_tok
          have HL : Hid (∀ k, (Value.slice a n c).ownBlock = some k → k < wr.heap.size) := fun k e => (oT.1.lt k e).2
          clear oT hg hn hl h4
          by_cases h5 : er = 0
          · subst h5
            have HE : Hid (i < E ∧ E ≤ s.size) := hE rfl
            have HT4 : Hid (lexF s (s.size + 1) E (l ++ [(tk1, tt, L, C)]) = P) := by show _ = _; rw [HT3.out, if_neg (by simp)]
            clear HT3 hE
            go_wp2_with (first
              | (go_at_call 18; (with_reducible refine Calls.mono (K0 _) ?_); rintro e v1 ⟨rfl, rfl⟩)
              | (go_at_call 20; (with_reducible refine Calls.mono (T0 _) ?_); rintro e w1 ⟨rfl, b1⟩; have BT := BoxC.new w1 #[.int .i64 tk1, .string tt, .int .i64 0, .int .i64 0] 32; have b1' := fun o => b1.alloc b1.size o)
              | (go_at_call 19; (with_reducible refine Calls.mono (P0 _) ?_); rintro e w2 ⟨rfl, b2⟩; have b3 := below_more (b1' _) b2; have BT2 := BT.more b2; obtain ⟨x0, x1, x2, x3, x4, x5⟩ := BT2.cells4; have hkt : w.heap.size < w1.heap.size := Nat.lt_of_lt_of_le hB3 b1.size; have hkt2 := BT2.lt; have hnt : (Value.slice a n c).ownBlock ≠ some w1.heap.size := (fun e => Nat.lt_irrefl _ (Nat.lt_of_lt_of_le (HL.out _ e) b1.size)); have OW := fun o => (((HO.out.1.more b3).other (k := w1.heap.size) (Nat.le_of_lt hkt) hnt 2 (.int .i64 L)).other (k := w1.heap.size) (Nat.le_of_lt hkt) hnt 3 (.int .i64 C)).alloc o; have SRC := tok_new w2 w1.heap.size (.int .i64 L) (.int .i64 C) (tcA (tk1, tt, L, C)) 32)
              | (at_builtin; refine wpl_append_tok (.tmp 52) (.tmp 54) rfl rfl w _ _ n l (tk1, tt, L, C) w2.heap.size rfl rfl (OW _) SRC (by omega) ?_; intro a6 c6 w6 o6 g6))
            obtain ⟨p1, p2, p3, p4, p5⟩ := HO.out
            have hEE := HE.out
            go_roundg (s.size - E)
            case measure => omega
            case rel => exact ⟨E, a6, c6, n + 1, l ++ [(tk1, tt, L, C)], rfl, rfl, by omega, by simp [p4], by simp; omega, o6, ((((p2.more b3).other (by omega) _).other (by omega) _).alloc _).grown g6 HR.out, HT4.out⟩
          · have e5 : (er != 0) = true := by rw [bne_iff_ne]; exact h5
            have HT4 : Hid (P = ([], (L, C), er)) := by show _ = _; rw [HT3.out, if_pos h5]
            clear HT3 hE h5
            go_wp2_with (first
              | (go_at_call 18; (with_reducible refine Calls.mono (K0 _) ?_); rintro e v1 ⟨rfl, rfl⟩)
              | (go_at_call 20; (with_reducible refine Calls.mono (T0 _) ?_); rintro e w1 ⟨rfl, b1⟩; have BT := BoxC.new w1 #[.int .i64 tk1, .string tt, .int .i64 0, .int .i64 0] 32; have b1' := fun o => b1.alloc b1.size o)
              | (go_at_call 19; (with_reducible refine Calls.mono (P0 _) ?_); rintro e w2 ⟨rfl, b2⟩; have b3 := below_more (b1' _) b2; have BT2 := BT.more b2; obtain ⟨x0, x1, x2, x3, x4, x5⟩ := BT2.cells4; have hkt : w.heap.size < w1.heap.size := Nat.lt_of_lt_of_le hB3 b1.size; have hkt2 := BT2.lt; obtain ⟨y0, y1, y2, y3⟩ := (HO.out.2.1.more b3).cells2))
            obtain ⟨z0, z1⟩ : ((w2.setCell ⟨w1.heap.size, 2, none⟩ (.int .i64 L)).setCell ⟨w1.heap.size, 3, none⟩ (.int .i64 C)).cell? ⟨w.heap.size, 0, none⟩ = some (.int .i64 0) ∧ ((w2.setCell ⟨w1.heap.size, 2, none⟩ (.int .i64 L)).setCell ⟨w1.heap.size, 3, none⟩ (.int .i64 C)).cell? ⟨w.heap.size, 1, none⟩ = some (.int .i64 0) := by
              have := (((HO.out.2.1.more b3).other (g := w1.heap.size) (i := 2) (by omega) (.int .i64 L)).other (g := w1.heap.size) (i := 3) (by omega) (.int .i64 C)).cells2
              exact ⟨this.1, this.2.1⟩
            go_region
            go_wp2
            have hPP := HT4.out
            subst hPP
            exact bodyPost_ret (v := .tuple #[.slice none 0 0, .agg #[.int .i64 L, .int .i64 C], .int .i64 er]) (by simp [results, Try.results10, go_sem, z0, z1]) rfl (ansX_no (((((below_more HO.out.1.below b3).setCell (p := ⟨w1.heap.size, 2, none⟩) (Nat.le_of_lt hkt) _).setCell (p := ⟨w1.heap.size, 3, none⟩) (Nat.le_of_lt hkt) _).setCell (p := ⟨w.heap.size, 0, none⟩) (Nat.le_refl _) _).setCell (p := ⟨w.heap.size, 1, none⟩) (Nat.le_refl _) _).drew)
    · have hi' : ¬ (i : Int) < s.size := by omega
      have hT := lexF_end (out := l) (Nat.not_lt.2 hi)
      rw [HF.out] at hT
      subst hT
      obtain ⟨y0, y1, y2, y3⟩ := B3.cells2
      have HO : Hid (OwnT w wr (.slice a n c) n l ∧ BoxC wr w.heap.size #[.int .i64 0, .int .i64 0] 25 ∧ n = l.length) := ⟨oT, B3, hn⟩
      clear HF KD TK PL oT B3 hg hl hn
      go_wp2
      obtain ⟨o1, o2, o3⟩ := HO.out
      subst o3
      exact bodyPost_ret (v := .tuple #[.slice a l.length c, .agg #[.int .i64 0, .int .i64 0], .int .i64 0]) (by simp [results, Try.results10, go_sem, y0, y1]) rfl ⟨a, c, rfl, (o1.box o2 place_ne_tok (Nat.le_refl _) 0 _).box (o2.set 0 _) place_ne_tok (Nat.le_refl _) 1 _⟩
end Go.Proofs.Ytfdheodkipfpeaa
/-
  Contract of the document's own Same (package talwegref10): two lists of tokens, held against each other; memory stays as it is but for what is drawn.
-/
namespace Go.Proofs.Ytfdheodkipfpeaa
open Go.RowKit Go.Lib

/-- A slice that reads as these tokens. -/
def IsToks (w : World) (a : Option Addr) (n : Nat) (l : List Tok) : Prop :=
  l.length = n ∧ (l = [] ∨ ∃ g, a = some ⟨g, 0, none⟩ ∧ ∀ i (h : i < l.length), w.cell? ⟨g, i * 4, none⟩ = some (.int .i64 l[i].1) ∧ w.cell? ⟨g, i * 4 + 1, none⟩ = some (.string l[i].2.1) ∧ w.cell? ⟨g, i * 4 + 2, none⟩ = some (.int .i64 l[i].2.2.1) ∧ w.cell? ⟨g, i * 4 + 3, none⟩ = some (.int .i64 l[i].2.2.2))
theorem tok_cells {w : World} {a : Option Addr} {l : List Tok} (h : ∃ g, a = some ⟨g, 0, none⟩ ∧ ∀ i (h : i < l.length), w.cell? ⟨g, i * 4, none⟩ = some (.int .i64 l[i].1) ∧ w.cell? ⟨g, i * 4 + 1, none⟩ = some (.string l[i].2.1) ∧ w.cell? ⟨g, i * 4 + 2, none⟩ = some (.int .i64 l[i].2.2.1) ∧ w.cell? ⟨g, i * 4 + 3, none⟩ = some (.int .i64 l[i].2.2.2)) (i : Nat) (hi : i < l.length) :
    ∃ g, a = some ⟨g, 0, none⟩ ∧ w.cell? ⟨g, i * 4, none⟩ = some (.int .i64 l[i].1) ∧ w.cell? ⟨g, i * 4 + 1, none⟩ = some (.string l[i].2.1) ∧ w.cell? ⟨g, i * 4 + 2, none⟩ = some (.int .i64 l[i].2.2.1) ∧ w.cell? ⟨g, i * 4 + 3, none⟩ = some (.int .i64 l[i].2.2.2) := by
  obtain ⟨g, e, hc⟩ := h
  exact ⟨g, e, hc i hi⟩
theorem tcs_get (l : List Tok) : ∀ i (h : i < l.length) j, j < 4 → (tcs l)[i * 4 + j]? = (tcA l[i])[j]? := by
  induction l with
  | nil => intro i h; exact absurd h (by simp)
  | cons t l ih =>
    intro i h j hj
    cases i with
    | zero =>
      rw [Nat.zero_mul, Nat.zero_add]
      show ((tcA t).toList ++ tcs l)[j]? = _
      rw [List.getElem?_append_left (by simpa [tcA] using hj)]
      simp
    | succ i =>
      show ((tcA t).toList ++ tcs l)[(i + 1) * 4 + j]? = _
      rw [List.getElem?_append_right (by simp [tcA]; omega)]
      have := ih i (by simpa using h) j hj
      rw [show (i + 1) * 4 + j - (tcA t).toList.length = i * 4 + j by simp [tcA]; omega, this]
      rfl
theorem OwnT.toks {W w : World} {a : Option Addr} {n c : Nat} {l : List Tok} (h : OwnT W w (.slice a n c) n l) : IsToks w a n l := by
  refine ⟨h.length, ?_⟩
  have hl := h.length
  rcases h.1.2 with ⟨e, h0⟩ | ⟨g, cap, cur, e, -, hg, -, -, -, ht⟩
  · left; exact List.eq_nil_of_length_eq_zero (by omega)
  · right
    simp only [Value.slice.injEq] at e
    refine ⟨g, e.1, fun i hi => ?_⟩
    have hc : ∀ j, j < 4 → w.cell? ⟨g, i * 4 + j, none⟩ = (tcA l[i])[j]? := fun j hj => by
      have h1 := tcs_get l i hi j hj
      have h2 : cur[i * 4 + j]? = (tcs l)[i * 4 + j]? := by
        rw [← ht, List.getElem?_take, if_pos (by omega)]
        simp
      simp only [World.cell?, hg]
      rw [← h1, ← h2]
      rfl
    exact ⟨hc 0 (by omega), hc 1 (by omega), hc 2 (by omega), hc 3 (by omega)⟩

theorem IsToks.below {w w' : World} {a : Option Addr} {n : Nat} {l : List Tok} (h : IsToks w a n l) (hb : Below w.heap.size w w') : IsToks w' a n l := by
  refine ⟨h.1, ?_⟩
  rcases h.2 with h0 | ⟨g, e, hc⟩
  · exact .inl h0
  · refine .inr ⟨g, e, fun i hi => ?_⟩
    obtain ⟨c0, c1, c2, c3⟩ := hc i hi
    have hg : g < w.heap.size := World.block_lt_of_cell? w ⟨g, i * 4, none⟩ c0
    refine ⟨?_, ?_, ?_, ?_⟩
    · rw [hb.cell (p := ⟨g, i * 4, none⟩) hg]; exact c0
    · rw [hb.cell (p := ⟨g, i * 4 + 1, none⟩) hg]; exact c1
    · rw [hb.cell (p := ⟨g, i * 4 + 2, none⟩) hg]; exact c2
    · rw [hb.cell (p := ⟨g, i * 4 + 3, none⟩) hg]; exact c3

set_option maxHeartbeats 8000000 in
theorem ref_lsame {w : World} {a : Option Addr} {n c : Nat} {l : List Tok} {b : Option Addr} {m d : Nat} {l' : List Tok} (h : IsToks w a n l) (h' : IsToks w b m l') (r : Bool) (hr : decide (l = l') = r) (hn : n ≤ 1000000) :
    Calls Try.prog 11 #[.slice a n c, .slice b m d] w fun e w' => e = .returned (.bool r) ∧ Below w.heap.size w w' := by
  by_cases hnm : n = m
  case neg =>
    have e1 : ((n : Int) != m) = true := by rw [bne_iff_ne]; omega
    obtain rfl : r = false := by rw [← hr]; exact decide_eq_false (fun e => hnm (by rw [← h.1, ← h'.1, e]))
    clear h h' hr hn hnm
    go_enter Try.func11, Try.ntmps11
    go_wp2
    go_ret
    exact ⟨rfl, Below.refl _ _⟩
  case pos =>
  subst hnm
  have HH : Hid (IsToks w a n l ∧ IsToks w b n l' ∧ decide (l = l') = r ∧ n ≤ 1000000) := ⟨h, h', hr, hn⟩
  clear h h' hr hn
  go_enter Try.func11, Try.ntmps11
  go_wp2
  go_loopg [5] n (fun g s5 v => ∃ i : Nat, s5 = .int .i64 i ∧ i + g = n ∧ l.take i = l'.take i ∧ Below w.heap.size w v)
  case atStart => exact ⟨0, rfl, by omega, rfl, Below.refl _ _⟩
  case round =>
    obtain ⟨i, rfl, hg, ht, bw⟩ := hrel
    rcases Nat.lt_or_ge i n with hi | hi
    · have hi' : (i : Int) < n := by omega
      have i0 : 0 ≤ (i : Int) := by omega
      obtain ⟨t1, t2, t3, t4⟩ := HH.out
      have hl1 := t1.1
      have hl2 := t2.1
      obtain ⟨g1, rfl, c1⟩ := (t1.below bw).2.resolve_left (fun e => by rw [e] at hl1; simp at hl1; omega)
      obtain ⟨g2, rfl, c2⟩ := (t2.below bw).2.resolve_left (fun e => by rw [e] at hl2; simp at hl2; omega)
      obtain ⟨x0, x1, x2, x3⟩ := c1 i (by omega)
      obtain ⟨y0, y1, y2, y3⟩ := c2 i (by omega)
      have hq1 : i < l.length := by omega
      have hq2 : i < l'.length := by omega
      have hx : l[i]? = some l[i] := List.getElem?_eq_getElem hq1
      have hy : l'[i]? = some l'[i] := List.getElem?_eq_getElem hq2
      generalize l[i] = x at *
      generalize l'[i] = y at *
      have HX : Hid (l[i]? = some x ∧ l'[i]? = some y ∧ l.take i = l'.take i ∧ i + gk = n ∧ i < n ∧ Below w.heap.size w wr) := ⟨hx, hy, ht, hg, hi, bw⟩
      have w1 : wrap64 ((i : Int) + 1) = (i : Int) + 1 := wrap_smalls (by omega) (by omega)
      clear c1 c2 t1 t2 t3 t4 hx hy hq1 hq2 ht hg hi bw hl1 hl2
      by_cases hxy : x = y
      · subst hxy
        obtain ⟨k1, s1, L1, C1⟩ := x
        dsimp only at x0 x1 x2 x3 y0 y1 y2 y3
        go_wp2
        go_quiet (fail)
        go_wp2
        obtain ⟨p1, p2, p3, p4, p5, p6⟩ := HX.out
        go_roundg (n - (i + 1))
        case measure => clear w1; omega
        case rel => exact ⟨i + 1, by rw [w1]; go_num, by clear w1; omega, by rw [List.take_add_one, List.take_add_one, p1, p2, p3], below_drewN p6 _⟩
      · obtain rfl : r = false := by
          rw [← HH.out.2.2.1]
          refine decide_eq_false (fun e => hxy ?_)
          have h1 := HX.out.1
          rw [e, HX.out.2.1] at h1
          exact (Option.some.inj h1).symm
        obtain ⟨k1, s1, L1, C1⟩ := x
        obtain ⟨k2, s2, L2, C2⟩ := y
        dsimp only at x0 x1 x2 x3 y0 y1 y2 y3
        have hne : ¬ (k1 = k2 ∧ s1.toList = s2.toList ∧ L1 = L2 ∧ C1 = C2) := by
          rintro ⟨rfl, e, rfl, rfl⟩
          refine hxy ?_
          rw [ByteArray.toList_eq, ByteArray.toList_eq, Array.toList_inj] at e
          rw [ByteArray.ext e]
        clear hxy w1
        rcases (by
          by_cases f1 : k1 = k2
          · by_cases f2 : s1.toList = s2.toList
            · by_cases f3 : L1 = L2
              · exact .inr (.inr (.inr ⟨f1, f2, f3, fun f4 => hne ⟨f1, f2, f3, f4⟩⟩))
              · exact .inr (.inr (.inl ⟨f1, f2, f3⟩))
            · exact .inr (.inl ⟨f1, f2⟩)
          · exact .inl f1 : k1 ≠ k2 ∨ (k1 = k2 ∧ s1.toList ≠ s2.toList) ∨ (k1 = k2 ∧ s1.toList = s2.toList ∧ L1 ≠ L2) ∨ (k1 = k2 ∧ s1.toList = s2.toList ∧ L1 = L2 ∧ C1 ≠ C2)) with f | ⟨rfl, f⟩ | ⟨rfl, f2, f⟩ | ⟨rfl, f2, rfl, f⟩
        case' inl => have e1 : (k1 == k2) = false := by rw [beq_eq_false_iff_ne]; exact f
        case' inr.inl => have e1 : (s1.toList == s2.toList) = false := by rw [beq_eq_false_iff_ne]; exact f
        case' inr.inr.inl =>
          have e2 : (s1.toList == s2.toList) = true := by rw [beq_iff_eq]; exact f2
          have e1 : (L1 == L2) = false := by rw [beq_eq_false_iff_ne]; exact f
          clear f2
        case' inr.inr.inr =>
          have e2 : (s1.toList == s2.toList) = true := by rw [beq_iff_eq]; exact f2
          have e1 : (C1 == C2) = false := by rw [beq_eq_false_iff_ne]; exact f
          clear f2
        all_goals
          clear hne f
          go_wp2
          go_quiet (fail)
          go_wp2
          go_ret
          exact ⟨rfl, below_drewN HX.out.2.2.2.2.2 _⟩
    · have hi' : ¬ (i : Int) < n := by omega
      obtain rfl : i = n := by omega
      have hr : r = true := by
        obtain ⟨t1, t2, t3, -⟩ := HH.out
        rw [← t3]
        refine decide_eq_true ?_
        have e1 := t1.1
        have e2 := t2.1
        rw [List.take_of_length_le (by omega), List.take_of_length_le (by omega)] at ht
        exact ht
      subst hr
      clear hg hi ht
      go_wp2
      go_ret
      exact ⟨rfl, bw⟩
end Go.Proofs.Ytfdheodkipfpeaa
/-
  What the statements over tokens ask of package lex (its contracts), and the chapter's example by them: for whatever package lex keeps these; memory that was there stays.
-/
namespace Go.Proofs.Ytfdheodkipfpeaa
open Go.RowKit Go.Lib

/-- What Lex answers, memory that was there as it was. -/
def AnsY (W : World) (p : List Tok × (Int × Int) × Int) (e : Ending) (w' : World) : Prop :=
  ∃ a c, e = .returned (.tuple #[.slice a p.1.length c, .agg #[.int .i64 p.2.1.1, .int .i64 p.2.1.2], .int .i64 p.2.2]) ∧ IsToks w' a p.1.length p.1 ∧ Below W.heap.size W w'
theorem AnsX.y {W : World} {p : List Tok × (Int × Int) × Int} {e : Ending} {w' : World} (h : AnsX W p e w') : AnsY W p e w' := by
  obtain ⟨a, c, e1, o⟩ := h
  exact ⟨a, c, e1, o.toks, o.below⟩

/-- The same, and what is answered is a slice as Go makes them. -/
def AnsZ (W : World) (p : List Tok × (Int × Int) × Int) (e : Ending) (w' : World) : Prop :=
  ∃ a c, e = .returned (.tuple #[.slice a p.1.length c, .agg #[.int .i64 p.2.1.1, .int .i64 p.2.1.2], .int .i64 p.2.2]) ∧ IsToks w' a p.1.length p.1 ∧ Below W.heap.size W w' ∧ (a = none → c = 0) ∧ p.1.length ≤ c
theorem AnsZ.y {W : World} {p : List Tok × (Int × Int) × Int} {e : Ending} {w' : World} (h : AnsZ W p e w') : AnsY W p e w' := by
  obtain ⟨a, c, e1, h1, h2, -⟩ := h
  exact ⟨a, c, e1, h1, h2⟩
theorem AnsX.z {W : World} {p : List Tok × (Int × Int) × Int} {e : Ending} {w' : World} (h : AnsX W p e w') : AnsZ W p e w' := by
  obtain ⟨a, c, e1, o⟩ := h
  refine ⟨a, c, e1, o.toks, o.below, ?_⟩
  rcases o.1.2 with ⟨e3, -⟩ | ⟨g, cap, cur, e3, -, -, hc, -⟩
  · simp only [Value.slice.injEq] at e3; exact ⟨fun _ => e3.2.2, by omega⟩
  · simp only [Value.slice.injEq] at e3
    exact ⟨fun e2 => by rw [e2] at e3; exact absurd e3.1 (by simp), by omega⟩

/-- Package lex's contracts. -/
structure LexOk : Prop where
  lexO : ∀ (s : ByteArray) (w : World), s.size ≤ 1000000 → Calls Try.prog 9 #[.string s] w (AnsZ w (lexI s))
  number : ∀ (s : ByteArray) (w : World), s.size ≤ 1000000 → ∀ r, numB s = r → Calls Try.prog 12 #[.string s] w fun e w' => e = .returned (.bool r) ∧ Below w.heap.size w w'

theorem LexOk.lex (K : LexOk) (s : ByteArray) (w : World) (hs : s.size ≤ 1000000) : Calls Try.prog 9 #[.string s] w (AnsY w (lexI s)) := (K.lexO s w hs).mono fun _ _ h => h.y
theorem ex_kinds : kindAt ⟨#[120, 49, 42, 50, 124, 51]⟩ 0 = 1 ∧ kindAt ⟨#[120, 49, 42, 50, 124, 51]⟩ 2 = 4 ∧ kindAt ⟨#[120, 49, 42, 50, 124, 51]⟩ 3 = 2 ∧ wordEnd ⟨#[120, 49, 42, 50, 124, 51]⟩ 0 = 2 ∧ stepAt ⟨#[120, 49, 42, 50, 124, 51]⟩ 2 = 1 ∧ numEnd ⟨#[120, 49, 42, 50, 124, 51]⟩ 3 = 6 := by decide
theorem ex_places : placeI ⟨#[120, 49, 42, 50, 124, 51]⟩ ((0 : Nat) : Int) = (1, 1) ∧ placeI ⟨#[120, 49, 42, 50, 124, 51]⟩ ((2 : Nat) : Int) = (1, 3) ∧ placeI ⟨#[120, 49, 42, 50, 124, 51]⟩ ((3 : Nat) : Int) = (1, 4) := by decide
theorem ex_texts : (⟨#[120, 49, 42, 50, 124, 51]⟩ : ByteArray).extract 0 2 = ⟨#[120, 49]⟩ ∧ (⟨#[120, 49, 42, 50, 124, 51]⟩ : ByteArray).extract 2 3 = ⟨#[42]⟩ ∧ (⟨#[120, 49, 42, 50, 124, 51]⟩ : ByteArray).extract 3 6 = ⟨#[50, 124, 51]⟩ := by decide
theorem ex_num : numB ⟨#[50, 124, 51]⟩ = true := by
  unfold numB
  rw [show cutI ⟨#[50, 124, 51]⟩ = 1 from by decide, if_neg (by decide)]
  rw [show (⟨#[50, 124, 51]⟩ : ByteArray).extract 0 1 = ⟨#[50]⟩ from by decide, show (⟨#[50, 124, 51]⟩ : ByteArray).extract (1 + 1) (⟨#[50, 124, 51]⟩ : ByteArray).size = ⟨#[51]⟩ from by decide, ByteArray.toList_eq]
  decide
theorem ex_lex : lexI ⟨#[120, 49, 42, 50, 124, 51]⟩ = ([(0, ⟨#[120, 49]⟩, 1, 1), (2, ⟨#[42]⟩, 1, 3), (1, ⟨#[50, 124, 51]⟩, 1, 4)], (0, 0), 0) := by
  have hz : (⟨#[120, 49, 42, 50, 124, 51]⟩ : ByteArray).size = 6 := rfl
  obtain ⟨k0, k2, k3, w0, s2, n3⟩ := ex_kinds
  obtain ⟨p0, p2, p3⟩ := ex_places
  obtain ⟨x0, x2, x3⟩ := ex_texts
  have t0 : tokenI ⟨#[120, 49, 42, 50, 124, 51]⟩ 0 = (0, ⟨#[120, 49]⟩, 2, 0) := by
    unfold tokenI; rw [if_pos k0, w0, if_neg (by omega), x0]
  have t2 : tokenI ⟨#[120, 49, 42, 50, 124, 51]⟩ 2 = (2, ⟨#[42]⟩, 3, 0) := by
    unfold tokenI; rw [if_neg (by rw [k2]; decide), if_neg (by rw [k2]; decide), if_pos k2, s2, x2]
  have t3 : tokenI ⟨#[120, 49, 42, 50, 124, 51]⟩ 3 = (1, ⟨#[50, 124, 51]⟩, 6, 0) := by
    unfold tokenI; rw [if_neg (by rw [k3]; decide), if_pos k3, n3, x3, if_neg (by decide), if_pos ex_num]
  unfold lexI
  rw [if_neg (by rw [hz]; omega)]
  rw [lexF_step (by rw [hz]; omega), if_neg (by rw [k0]; decide), if_neg (by simp), t0, p0, if_neg (by simp)]
  dsimp only
  rw [lexF_step (by rw [hz]; omega), if_neg (by rw [k2]; decide), if_neg (by simp), t2, p2, if_neg (by simp)]
  dsimp only
  rw [lexF_step (by rw [hz]; omega), if_neg (by rw [k3]; decide), if_neg (by simp), t3, p3, if_neg (by simp)]
  dsimp only
  rw [lexF_end (by rw [hz]; omega)]
  rfl
end Go.Proofs.Ytfdheodkipfpeaa
/-
  Contracts of package lex's numeralOf and Number: the digits that a text begins with, and whether a text is a number; memory that was there stays.
-/
namespace Go.Proofs.Ytfdheodkipfpeaa
open Go.RowKit Go.Lib

theorem below_text {t : ByteArray} (h : digEnd t 0 + 1 ≤ t.size) : (t.extract (digEnd t 0 + 1) t.size).extract 0 (digEnd (t.extract (digEnd t 0 + 1) t.size) 0) = t.extract (digEnd t 0 + 1) (digEnd t (digEnd t 0 + 1)) := by
  have hsh := shifted_rest t h
  have h1 := hsh.digits _ 0 (Nat.le_refl _)
  rw [Nat.add_zero] at h1
  rw [h1, ← hsh.extract 0 (digEnd (t.extract (digEnd t 0 + 1) t.size) 0), Nat.add_zero]

set_option maxHeartbeats 8000000 in
theorem lex_numeral (t : ByteArray) (ht : t.size ≤ 1000000) (w : World) :
    Calls Try.prog 21 #[.string t] w fun e w' => e = .returned (.agg #[.string (above t), .string (below t)]) ∧ Below w.heap.size w w' := by
  obtain ⟨b1, b2, bV, hV⟩ := boxes2 w #[.string ⟨#[]⟩, .string ⟨#[]⟩] #[.int .i64 2] 48 3
  have S1 := lex_span1 t ht _ 2 _ b2
  rw [spanE_digits] at S1
  have hD := (digEnd_range t 0).2 (Nat.zero_le _)
  have hz : (t.extract 0 (digEnd t 0)).size = digEnd t 0 := by rw [ByteArray.size_extract]; omega
  have hzr : (t.extract (digEnd t 0) t.size).size = t.size - digEnd t 0 := by rw [ByteArray.size_extract]; omega
  have hb0 := ext_bt t (digEnd t 0) hD 0
  rw [Nat.add_zero] at hb0
  have ha : above t = t.extract 0 (digEnd t 0) := rfl
  rw [ha]
  clear ha
  unfold below
  by_cases hc : digEnd t 0 < t.size ∧ bt t (digEnd t 0) = 124
  · rw [if_pos hc, ← below_text (by omega)]
    have hu : (t.extract (digEnd t 0) t.size).extract 1 (t.extract (digEnd t 0) t.size).size = t.extract (digEnd t 0 + 1) t.size := extract_rest _ _
    have CU := fun v => cut_stroke (s := t.extract (digEnd t 0) t.size) (u := t.extract (digEnd t 0 + 1) t.size) (by omega) (g := true) (.inr (.inl ⟨by omega, rfl, by rw [stroke_first (by omega), decide_eq_true (by rw [hb0]; exact hc.2)], hu⟩)) v
    have hy : (t.extract (digEnd t 0 + 1) t.size).size ≤ 1000000 := by rw [ByteArray.size_extract]; omega
    have hE := (digEnd_range (t.extract (digEnd t 0 + 1) t.size) 0).2 (Nat.zero_le _)
    have S2 := fun (v : World) (cs : Array Value) => lex_span1 (t.extract (digEnd t 0 + 1) t.size) hy _ 2 _ (boxes2 v cs #[.int .i64 2] 48 3).2.1
    rw [spanE_digits] at S2
    have k1 : (digEnd t 0 : Int) ≤ t.size := by omega
    have k2 : (digEnd (t.extract (digEnd t 0 + 1) t.size) 0 : Int) ≤ (t.extract (digEnd t 0 + 1) t.size).size := by omega
    generalize t.extract (digEnd t 0 + 1) t.size = y at *
    generalize digEnd y 0 = E at *
    generalize digEnd t 0 = D at *
    clear ht hD hzr hb0 hc hu hy hE
    go_enter Try.func21, Try.ntmps21
    go_wp2_with (first
      | (go_at_call 28; (with_reducible refine Calls.mono S1 ?_); rintro e w1 ⟨rfl, d1⟩; have N := boxes2 w1 #[.string (t.extract 0 D), .string ⟨#[]⟩] #[.int .i64 2] 48 3)
      | (go_at_call 39; (with_reducible refine Calls.mono (CU _) ?_); rintro e w0 ⟨rfl, rfl⟩)
      | (go_at_call 28; (with_reducible refine Calls.mono (S2 _ _) ?_); rintro e w2 ⟨rfl, d2⟩; obtain ⟨n0, n1, n2, n3⟩ := (N.1.more d2).cells2; obtain ⟨r0, r1, r2, r3⟩ := (((b1.more d1).more N.2.2.1).more d2).cells2; have hq : w.heap.size < w1.heap.size := Nat.lt_of_lt_of_le (Nat.lt_of_succ_lt hV) d1.size))
    exact bodyPost_ret (v := .agg #[.string (t.extract 0 D), .string (y.extract 0 E)]) (by simp [results, Try.results21, go_sem, r0, r1]) rfl ⟨rfl, (((below_more (below_more (below_more bV d1) N.2.2.1) d2).setCell (p := ⟨w1.heap.size, 1, none⟩) (Nat.le_of_lt hq) _).setCell (p := ⟨w.heap.size, 0, none⟩) (Nat.le_refl _) _).setCell (p := ⟨w.heap.size, 1, none⟩) (Nat.le_refl _) _⟩
  · rw [if_neg hc]
    have CU := fun v => cut_stroke (s := t.extract (digEnd t 0) t.size) (u := t.extract (digEnd t 0) t.size) (by omega) (g := false) (by
      by_cases h0 : digEnd t 0 < t.size
      · exact .inr (.inr ⟨by omega, rfl, by rw [stroke_first (by omega), decide_eq_false (by rw [hb0]; exact fun e => hc ⟨h0, e⟩)], rfl⟩)
      · exact .inl ⟨by omega, rfl, rfl⟩) v
    have k1 : (digEnd t 0 : Int) ≤ t.size := by omega
    generalize digEnd t 0 = D at *
    clear ht hD hzr hb0 hc
    go_enter Try.func21, Try.ntmps21
    go_wp2_with (first
      | (go_at_call 28; (with_reducible refine Calls.mono S1 ?_); rintro e w1 ⟨rfl, d1⟩; have N := boxes1 w1 #[.string (t.extract 0 D), .string ⟨#[]⟩] 48; obtain ⟨n0, n1, n2, n3⟩ := N.1.cells2; obtain ⟨r0, r1, r2, r3⟩ := (b1.more d1).cells2; have hq : w.heap.size < w1.heap.size := Nat.lt_of_lt_of_le (Nat.lt_of_succ_lt hV) d1.size)
      | (go_at_call 39; (with_reducible refine Calls.mono (CU _) ?_); rintro e w0 ⟨rfl, rfl⟩))
    have bb := ((below_more bV d1).setCell (p := ⟨w.heap.size, 0, none⟩) (Nat.le_refl _) (.string (t.extract 0 D))).setCell (p := ⟨w.heap.size, 1, none⟩) (Nat.le_refl _) (.string ⟨#[]⟩)
    obtain ⟨z0, z1, -, -⟩ := ((((b1.more d1).set 0 (.string (t.extract 0 D))).set 1 (.string ⟨#[]⟩)).alloc (.cells #[.string (t.extract 0 D), .string ⟨#[]⟩] 48)).cells2
    exact bodyPost_ret (v := .agg #[.string (t.extract 0 D), .string ⟨#[]⟩]) (by simp [results, Try.results21, go_sem, z0, z1]) rfl ⟨rfl, bb.alloc bb.size _⟩

theorem above_le (t : ByteArray) : (above t).size ≤ t.size := by
  rw [above_size]; exact (digEnd_range t 0).2 (Nat.zero_le _)
theorem below_le (t : ByteArray) : (below t).size ≤ t.size := by
  have h1 := digEnd_range t (digEnd t 0 + 1)
  rw [below_size]
  split
  · have := h1.2 (by omega)
    omega
  · omega

set_option maxHeartbeats 8000000 in
theorem lex_Number (s : ByteArray) (hs : s.size ≤ 1000000) (r : Bool) (hr : numB s = r) (w : World) :
    Calls Try.prog 12 #[.string s] w fun e w' => e = .returned (.bool r) ∧ Below w.heap.size w w' := by
  have NO := fun v => lex_numeral s hs v
  have ha := above_le s
  have hb := below_le s
  have SZ := fun v => lex_size (above s) (below s) (by omega) (by omega) (numEnd s 0) (numEnd_size s).symm v
  have MY := fun v => lex_may (above s) (below s) (by omega) (by omega) _ rfl v
  rw [numB_may] at hr
  have he : ((numEnd s 0 : Int) == s.size) = decide (numEnd s 0 = s.size) := by rw [Bool.eq_iff_iff, beq_iff_eq, decide_eq_true_eq]; omega
  generalize mayB (above s) (below s) = m at *
  generalize decide (numEnd s 0 = s.size) = q at *
  generalize numEnd s 0 = E at *
  generalize above s = a at *
  generalize below s = b at *
  clear ha hb hs
  cases m with
  | false =>
    obtain rfl : r = false := by rw [← hr]; rfl
    clear hr
    go_enter Try.func12, Try.ntmps12
    go_wp2_with (first
      | (go_at_call 21; (with_reducible refine Calls.mono (NO _) ?_); rintro e w1 ⟨rfl, d1⟩; have N := boxes1 w1 #[.string a, .string b] 48; obtain ⟨n0, n1, n2, n3⟩ := N.1.cells2)
      | (go_at_call 22; (with_reducible refine Calls.mono (MY _) ?_); rintro e w2 ⟨rfl, d2⟩))
    go_ret
    exact ⟨rfl, below_more (below_more d1 N.2.1) d2⟩
  | true =>
    obtain rfl : q = r := by rw [← hr]; rfl
    clear hr
    go_enter Try.func12, Try.ntmps12
    go_wp2_with (first
      | (go_at_call 21; (with_reducible refine Calls.mono (NO _) ?_); rintro e w1 ⟨rfl, d1⟩; have N := boxes1 w1 #[.string a, .string b] 48; obtain ⟨n0, n1, n2, n3⟩ := N.1.cells2)
      | (go_at_call 22; (with_reducible refine Calls.mono (MY _) ?_); rintro e w2 ⟨rfl, d2⟩; obtain ⟨m0, m1, m2, m3⟩ := (N.1.more d2).cells2)
      | (go_at_call 23; (with_reducible refine Calls.mono (SZ _) ?_); rintro e w3 ⟨rfl, d3⟩))
    go_ret
    exact ⟨rfl, below_more (below_more (below_more d1 N.2.1) d2) d3⟩
end Go.Proofs.Ytfdheodkipfpeaa
/-
  Contract of the library's strings.Clone: the same text; memory that was there stays.
-/
namespace Go.Proofs.Ytfdheodkipfpeaa
open Go.RowKit Go.Lib

theorem lex_infoU8 : (Try.prog.info? 5).map (fun i => (i.zero, i.size, i.bytes)) = some (some (.int .u8 0), 1, 1) := by kernel_rfl

set_option maxHeartbeats 4000000 in
set_option maxRecDepth 100000 in
theorem lib_clone0 (s : ByteArray) (w : World) (hlim : s.size ≤ 1000000) :
    Calls Try.prog 54 #[.string s] w fun e w' => e = .returned (.string s) ∧ Below w.heap.size w w' := by
  by_cases h0 : s.size = 0
  · obtain rfl := size_zero h0
    go_enter Try.func54, Try.ntmps54
    go_wp2
    go_ret
    exact ⟨rfl, Below.refl _ _⟩
  · obtain ⟨i0, hi, hz0, hz1, hz2⟩ := info_parts lex_infoU8
    have hinfo : (Try.prog.info? 5).map (·.size) = some 1 := by rw [hi]; simp [hz1]
    have hco : Try.prog.cellsOf 5 = 1 := by simp [Program.cellsOf, hi, hz1]
    obtain ⟨M, hM⟩ : ∃ M, M = madeCells (Value.int .u8 0).cells (((s.size : Nat) : Int).toNat * i0.size) := ⟨_, rfl⟩
    have hMs : M.size = s.size := by rw [hM, size_madeCells, hz1]; simp
    have hmk : ∀ W : World, (Instr.makeSlice 35 (.int .i64 (s.size : Int)) (.int .i64 (s.size : Int))).run Try.prog W = .ok (.slice (some ⟨W.heap.size, 0, none⟩) s.size s.size) (W.alloc (.cells M 5)) := fun W => by
      have h := run_make (P := Try.prog) W 35 5 i0 (.int .u8 0) Try.underlying35 hi hz0 .i64 .i64 (s.size : Int) (s.size : Int) (by omega) (by omega) (by rw [hz2]; omega) (by omega)
      rw [← hM] at h
      simpa using h
    clear hM
    have hcp := Lib.run_copy_row_string (P := Try.prog) (w.alloc (.cells M 5)) 35 9 3 5 w.heap.size 0 s.size s.size s M 5 Try.underlying35 hinfo (heap_alloc_new w _) (Nat.le_refl _) (by omega)
    obtain ⟨Y, hY⟩ : ∃ Y, Y = (M.toList.take 0 ++ Lib.byteCells s.data.toList ++ M.toList.drop (0 + s.size)).toArray := ⟨_, rfl⟩
    rw [← hY] at hcp
    have hYl : Y.toList = Lib.byteCells s.data.toList := by
      rw [hY, List.toList_toArray, List.take_zero, List.nil_append, List.drop_of_length_le (by rw [Array.length_toList]; omega), List.append_nil]
    have hYs : Y.size = s.size := by rw [← Array.length_toList, hYl, Lib.byteCells_length, ← Lib.size_eq]
    have hgY : ((w.alloc (.cells M 5)).setRow w.heap.size Y).heap[w.heap.size]? = some (.cells Y 5 (0, 0)) := setRow_heap _ _ M _ 5 (0, 0) (heap_alloc_new w _)
    have hne : s.data.toList ≠ [] := fun e => h0 (by rw [Lib.size_eq, e]; rfl)
    have hUS := Lib.run_unsafeString_row (P := Try.prog) ((w.alloc (.cells M 5)).setRow w.heap.size Y) 69 3 9 5 Try.underlying69 hco w.heap.size Y.size (by unfold World.shape?; rw [hgY]) s.data.toList hne (by rw [← Lib.size_eq]; omega) (by rw [← Lib.size_eq]; omega)
      (fun j x hx => Lib.cells_of_row hgY Y.size j _ (by rw [List.take_of_length_le (by rw [Array.length_toList]; exact Nat.le_refl _), hYl]; simp [Lib.byteCells, hx]))
    rw [← Lib.size_eq] at hUS
    clear hY
    go_enter Try.func54, Try.ntmps54
    go_wp2
    go_ret
    have hb1 : Below w.heap.size w (w.alloc (.cells M 5)) := (Below.refl _ w).alloc (Nat.le_refl _) _
    have hb2 : Below w.heap.size (w.alloc (.cells M 5)) ((w.alloc (.cells M 5)).setRow w.heap.size Y) := ⟨rfl, rfl, rfl, by simp, fun k hk => setRow_other _ _ _ _ (by omega)⟩
    exact ⟨rfl, Lib.below_freeze (hb1.trans hb2) (p := ⟨w.heap.size, 0, none⟩) (Nat.le_refl _) _⟩

set_option maxHeartbeats 4000000 in
theorem lib_clone (s : ByteArray) (hlim : s.size ≤ 1000000) (w : World) :
    Calls Try.prog 52 #[.string s] w fun e w' => e = .returned (.string s) ∧ Below w.heap.size w w' := by
  have C := fun v => lib_clone0 s v hlim
  clear hlim
  go_enter Try.func52, Try.ntmps52
  go_wp2_with (go_at_call 54; (with_reducible refine Calls.mono (C _) ?_); rintro e w1 ⟨rfl, d1⟩)
  go_ret
  exact ⟨rfl, d1⟩
end Go.Proofs.Ytfdheodkipfpeaa
/-
  Contracts of the methods of package lex's reader (pass, skip): a reader lies in a block of its own: what is left of the text, where that begins, the tokens ahead of it; memory that was there before the call of Lex stays.
-/
namespace Go.Proofs.Ytfdheodkipfpeaa
open Go.RowKit Go.Lib

/-- The reader of a call of Lex that began in W: its variables, and the tokens that the call owns. -/
def Rd (W w : World) (t : ByteArray) (L C : Int) (l : List Tok) : Prop :=
  ∃ a c, BoxC w W.heap.size #[.int .i64 0, .int .i64 0] 25 ∧ BoxC w (W.heap.size + 1) #[.string t, .int .i64 L, .int .i64 C, .slice a l.length c] 40 ∧ OwnT W w (.slice a l.length c) l.length l
theorem Rd.more {W w w' : World} {t : ByteArray} {L C : Int} {l : List Tok} (h : Rd W w t L C l) (hb : Below w.heap.size w w') : Rd W w' t L C l := by
  obtain ⟨a, c, h1, h2, h3⟩ := h
  exact ⟨a, c, h1.more hb, h2.more hb, h3.more hb⟩
theorem Rd.below {W w : World} {t : ByteArray} {L C : Int} {l : List Tok} (h : Rd W w t L C l) : Below W.heap.size W w := by
  obtain ⟨a, c, h1, h2, h3⟩ := h
  exact h3.below
theorem reader_ne_tok : (40 : TypeId) ≠ 32 := by decide
theorem Rd.rest {W w : World} {t : ByteArray} {L C : Int} {l : List Tok} (h : Rd W w t L C l) (u : ByteArray) : Rd W (w.setCell ⟨W.heap.size + 1, 0, none⟩ (.string u)) u L C l := by
  obtain ⟨a, c, h1, h2, h3⟩ := h
  exact ⟨a, c, h1.other (by omega) _, h2.set 0 (.string u), h3.box h2 reader_ne_tok (by omega) _ _⟩
theorem Rd.line {W w : World} {t : ByteArray} {L C : Int} {l : List Tok} (h : Rd W w t L C l) (x : Int) : Rd W (w.setCell ⟨W.heap.size + 1, 1, none⟩ (.int .i64 x)) t x C l := by
  obtain ⟨a, c, h1, h2, h3⟩ := h
  exact ⟨a, c, h1.other (by omega) _, h2.set 1 (.int .i64 x), h3.box h2 reader_ne_tok (by omega) _ _⟩
theorem Rd.col {W w : World} {t : ByteArray} {L C : Int} {l : List Tok} (h : Rd W w t L C l) (x : Int) : Rd W (w.setCell ⟨W.heap.size + 1, 2, none⟩ (.int .i64 x)) t L x l := by
  obtain ⟨a, c, h1, h2, h3⟩ := h
  exact ⟨a, c, h1.other (by omega) _, h2.set 2 (.int .i64 x), h3.box h2 reader_ne_tok (by omega) _ _⟩
theorem Rd.alloc {W w : World} {t : ByteArray} {L C : Int} {l : List Tok} (h : Rd W w t L C l) (o : Obj) : Rd W (w.alloc o) t L C l := h.more ((Below.refl _ _).alloc (Nat.le_refl _) _)
theorem Rd.drew {W w : World} {t : ByteArray} {L C : Int} {l : List Tok} (h : Rd W w t L C l) : Rd W w.drew t L C l := by
  obtain ⟨a, c, h1, h2, h3⟩ := h
  exact ⟨a, c, h1.drew, h2.drew, h3.more (Below.refl _ _).drew⟩
/-- What the walk wants of a reader's cells. -/
theorem Rd.cells {W w : World} {t : ByteArray} {L C : Int} {l : List Tok} (h : Rd W w t L C l) :
    w.cell? ⟨W.heap.size + 1, 0, none⟩ = some (.string t) ∧ w.cell? ⟨W.heap.size + 1, 1, none⟩ = some (.int .i64 L) ∧ w.cell? ⟨W.heap.size + 1, 2, none⟩ = some (.int .i64 C) ∧
    w.frozen? ⟨W.heap.size + 1, 0, none⟩ = false ∧ w.frozen? ⟨W.heap.size + 1, 1, none⟩ = false ∧ w.frozen? ⟨W.heap.size + 1, 2, none⟩ = false ∧ w.frozen? ⟨W.heap.size + 1, 3, none⟩ = false ∧ W.heap.size + 1 < w.heap.size := by
  obtain ⟨a, c, h1, h2, h3⟩ := h
  exact ⟨(h2.cell 0).1, (h2.cell 1).1, (h2.cell 2).1, (h2.cell 0).2, (h2.cell 1).2, (h2.cell 2).2, (h2.cell 3).2, h2.lt⟩

set_option maxHeartbeats 8000000 in
theorem lex_pass {W w : World} {t : ByteArray} {L C : Int} {l : List Tok} (h : Rd W w t L C l) (ht : t.size ≤ 1000000) (hL : 1 ≤ L ∧ L ≤ 1000001) (hC : 1 ≤ C ∧ C ≤ 1000001) (n : Nat) {p c : Int} (hr : Reach t n p c) :
    Calls Try.prog 27 #[.pointer (some ⟨W.heap.size + 1, 0, none⟩), .int .i64 n] w fun e w' => e = .returned (.tuple #[]) ∧ Rd W w' (t.extract n t.size) (L + (p - 1)) (if p = 1 then C + (c - 1) else c) l := by
  obtain ⟨hn, p0, p1, c0, c1⟩ := hr.range
  have PL := fun v => sign_place (t.extract 0 n) n v (by rw [ByteArray.size_extract]; omega) (by omega) (by omega)
  rw [reach_alone hr] at PL
  unfold AnsL at PL
  obtain ⟨x0, x1, x2, y0, y1, y2, -, hk⟩ := h.cells
  have k1 : (n : Int) ≤ t.size := by omega
  have HR : Hid (Rd W w t L C l) := h
  clear hr h
  by_cases h1 : p = 1
  · subst h1
    rw [if_pos rfl, show L + ((1 : Int) - 1) = L by omega]
    have w1 : IntKind.i64.wrap (c - 1) = c - 1 := by rw [IntKind.wrap_i64]; omega
    have w2 : IntKind.i64.wrap (C + (c - 1)) = C + (c - 1) := by rw [IntKind.wrap_i64]; omega
    clear hn p0 p1 c0 c1 hL hC ht
    go_enter Try.func27, Try.ntmps27
    go_wp2_with (first
      | (go_at_call 14; (with_reducible refine Calls.mono (PL _) ?_); rintro e v1 ⟨rfl, d1⟩; have N := boxes1 v1 #[.int .i64 1, .int .i64 c] 25; obtain ⟨n0, n1, n2, n3⟩ := N.1.cells2; have hq : W.heap.size + 1 < v1.heap.size := Nat.lt_of_lt_of_le hk d1.size; obtain ⟨x0, x1, x2, y0, y1, y2, -, -⟩ := (HR.out.more d1).cells))
    go_region
    all_goals go_wp2
    go_end0
    exact ⟨rfl, ((((HR.out.more d1).col _).rest _).alloc _).drew⟩
  · have e1 : ((p : Int) == 1) = false := by rw [beq_eq_false_iff_ne]; exact h1
    rw [if_neg h1, show L + (p - 1) = L + p - 1 by omega]
    have w1 : IntKind.i64.wrap (L + p) = L + p := by rw [IntKind.wrap_i64]; omega
    have w2 : IntKind.i64.wrap (L + p - 1) = L + p - 1 := by rw [IntKind.wrap_i64]; omega
    clear hn p0 p1 c0 c1 hL hC ht h1
    go_enter Try.func27, Try.ntmps27
    go_wp2_with (first
      | (go_at_call 14; (with_reducible refine Calls.mono (PL _) ?_); rintro e v1 ⟨rfl, d1⟩; have N := boxes1 v1 #[.int .i64 p, .int .i64 c] 25; obtain ⟨n0, n1, n2, n3⟩ := N.1.cells2; have hq : W.heap.size + 1 < v1.heap.size := Nat.lt_of_lt_of_le hk d1.size; obtain ⟨x0, x1, x2, y0, y1, y2, -, -⟩ := (HR.out.more d1).cells))
    go_region
    all_goals go_wp2
    go_end0
    exact ⟨rfl, (((((HR.out.more d1).line _).col _).rest _).alloc _).drew⟩
end Go.Proofs.Ytfdheodkipfpeaa
/-
  Contracts of the methods skip and take of package lex's reader: blanks are passed over; a token is kept, and passed over. Memory that was there before the call of Lex stays.
-/
namespace Go.Proofs.Ytfdheodkipfpeaa
open Go.RowKit Go.Lib

theorem Shifted.span {K : List Int} {u t : ByteArray} {k : Nat} (h : Shifted u t k) : ∀ m i, t.size - i ≤ m → spanE K u (k + i) = k + spanE K t i := by
  have hz := h.size
  intro m
  induction m with
  | zero =>
    intro i hm
    rw [spanE_here (fun e => by omega), spanE_here (fun e => by omega)]
  | succ m ih =>
    intro i hm
    by_cases h2 : i < t.size ∧ kindAt t i ∈ K
    · have hs := stepAt_size h2.1
      rw [spanE_step h2.1 h2.2, spanE_step (s := u) (i := k + i) (by omega) (by rw [(h.kind i).1]; exact h2.2), (h.kind i).2, Nat.add_assoc]
      exact ih _ (by omega)
    · rw [spanE_here h2, spanE_here (fun e => h2 ⟨by omega, by rw [← (h.kind i).1]; exact e.2⟩)]

set_option maxHeartbeats 4000000 in
theorem lex_skip {W w : World} {s : ByteArray} {i : Nat} {L C : Int} {l : List Tok} (h : Rd W w (s.extract i s.size) L C l) (hs : s.size ≤ 1000000) (hr : Reach s i L C) :
    Calls Try.prog 16 #[.pointer (some ⟨W.heap.size + 1, 0, none⟩)] w fun e w' => e = .returned (.tuple #[]) ∧ ∃ L' C', Rd W w' (s.extract (spanE [3] s i) s.size) L' C' l ∧ Reach s (spanE [3] s i) L' C' := by
  have hg := hr.range
  have hsh := shifted_rest s hg.1
  have hz : (s.extract i s.size).size = s.size - i := by rw [ByteArray.size_extract]; omega
  obtain ⟨p, c, hp⟩ := Reach.span (K := [3]) (by decide) _ 0 1 1 (Nat.le_refl _) (Reach.zero (s.extract i s.size))
  have hon := hr.on hsh hp
  have he := hsh.span (K := [3]) _ 0 (Nat.le_refl _)
  rw [Nat.add_zero] at he
  rw [he, ← extract_rest]
  have PS := fun v (q : Rd W v (s.extract i s.size) L C l) => lex_pass q (by omega) (by omega) (by omega) _ hp
  have S1 := lex_span1 (s.extract i s.size) (by omega) _ 3 _ (boxes1 w #[.int .i64 3] 3).1
  have R1 := h.more (boxes1 w #[.int .i64 3] 3).2.1
  obtain ⟨x0, x1, x2, y0, y1, y2, -, hk⟩ := h.cells
  generalize spanE [3] (s.extract i s.size) 0 = n at *
  have HO : Hid (Reach s (i + n) (L + (p - 1)) (if p = 1 then C + (c - 1) else c)) := hon
  generalize s.extract i s.size = t at *
  clear hg hsh hz hp hon he hr hs
  go_enter Try.func16, Try.ntmps16
  go_wp2_with (first
    | (go_at_call 28; (with_reducible refine Calls.mono S1 ?_); rintro e w1 ⟨rfl, d1⟩)
    | (go_at_call 27; (with_reducible refine Calls.mono (PS _ (R1.more d1)) ?_); rintro e w2 ⟨rfl, r2⟩))
  go_end0
  exact ⟨rfl, _, _, r2, HO.out⟩

/-- append(v, t), v the call's own, t in a new block: a step of a region that draws. -/
theorem stp_append_tok {ops : Array Oper} {o : Oper} {a : Act} {K : Act → World → Prop} {Q : Exit → Act → World → Prop} {E : Prop} (s x : Operand)
    (ho : o.op = .call { callee := .builtin .append, args := #[s, x], argTypes := #[23, 23] }) (hgd : Region.wanted o (yielded ops a.tmps) = true)
    (W w : World) (v : Value) (n : Nat) (l : List Tok) (t : Tok) (g : Nat) (hs : a.eval s = v) (hx : a.eval x = .slice (some ⟨g, 0, none⟩) 1 1) (hown : OwnT W w v n l) (hsrc : BoxC w g (tcA t) 32) (hle : n ≤ 1000000)
    (h : ∀ a' c' w', OwnT W w' (.slice a' (n + 1) c') (n + 1) (l ++ [t]) → w.grownBy w' v.ownBlock → K (a.put o.dst (.slice a' (n + 1) c')) w') : if Region.wanted o (yielded ops a.tmps) = true then Oper.wp Try.prog o a w K Q else E := by
  obtain ⟨i, hi, hz, hs1, hby⟩ := info_parts infoTok
  have hmax : n + 1 ≤ maxLen := by unfold maxLen; omega
  rw [if_pos hgd]
  refine wp_append_own (P := Try.prog) w s x 23 ho W.heap.size 32 i _ 4 40 Try.underlying23 hi hz hs1 hby rfl (by decide) v n _ hs hown.1 ⟨g, 0, none⟩ 1 1 (tcA t).toList hx rfl ?_ ?_ hmax (by omega) hown.2.size ?_
  · intro j u hj
    rw [Go.WideShapes.add_plain, Nat.zero_add, (hsrc.cell j).1]
    simpa using hj
  · intro u hu
    simp [tcA] at hu
    rcases hu with rfl | rfl | rfl | rfl <;> rfl
  · intro v' w' h1 h2 _
    have hnew : OwnT W w' v' (n + 1) (l ++ [t]) := ⟨by rw [tcs_append]; simpa [tcs] using h1, hown.2.grown h2 hown.2.size (fun k hk => (hown.1.lt k hk).1)⟩
    obtain ⟨a', c', rfl⟩ := hnew.lit
    exact h a' c' w' hnew h2
end Go.Proofs.Ytfdheodkipfpeaa
/-
  Contract of the method take of package lex's reader: a token is kept, and passed over. Memory that was there before the call of Lex stays.
-/
namespace Go.Proofs.Ytfdheodkipfpeaa
open Go.RowKit Go.Lib

theorem rd_new {W w : World} {t : ByteArray} {L C : Int} {l : List Tok} {x : Tok} {v0 : Value} {a' : Option Addr} {c' : Nat}
    (h1 : BoxC w W.heap.size #[.int .i64 0, .int .i64 0] 25) (h2 : BoxC w (W.heap.size + 1) #[.string t, .int .i64 L, .int .i64 C, v0] 40) (h3 : OwnT W w (.slice a' (l.length + 1) c') (l.length + 1) (l ++ [x])) :
    Rd W (w.setCell ⟨W.heap.size + 1, 3, none⟩ (.slice a' (l.length + 1) c')) t L C (l ++ [x]) := by
  have e : (l ++ [x]).length = l.length + 1 := by simp
  refine ⟨a', c', h1.other (by omega) _, ?_, ?_⟩
  · rw [e]; exact h2.set 3 (.slice a' (l.length + 1) c')
  · rw [e]; exact h3.box h2 reader_ne_tok (by omega) _ _

set_option maxHeartbeats 16000000 in
theorem lex_take {W w : World} {t : ByteArray} {L C : Int} {l : List Tok} (h : Rd W w t L C l) (ht : t.size ≤ 1000000) (hL : 1 ≤ L ∧ L ≤ 1000001) (hC : 1 ≤ C ∧ C ≤ 1000001) (hl : l.length ≤ 4000) (n : Nat) (k : Int) {p c : Int} (hr : Reach t n p c) :
    Calls Try.prog 45 #[.pointer (some ⟨W.heap.size + 1, 0, none⟩), .int .i64 k, .int .i64 n] w fun e w' => e = .returned (.tuple #[]) ∧ Rd W w' (t.extract n t.size) (L + (p - 1)) (if p = 1 then C + (c - 1) else c) (l ++ [(k, t.extract 0 n, L, C)]) := by
  have hn := hr.range.1
  have k1 : (n : Int) ≤ t.size := by omega
  have CL := fun v => lib_clone (t.extract 0 n) (by rw [ByteArray.size_extract]; omega) v
  have PS := fun v (q : Rd W v t L C (l ++ [(k, t.extract 0 n, L, C)])) => lex_pass q ht hL hC n hr
  obtain ⟨a, d, B1, B2, o⟩ := h
  have B2' := B2.lt
  have x0 := (B2.cell 0).1
  have x1 := (B2.cell 1).1
  have x2 := (B2.cell 2).1
  have x3 := (B2.cell 3).1
  have HX : Hid (OwnT W w (.slice a l.length d) l.length l ∧ l.length ≤ 4000) := ⟨o, hl⟩
  have HA : Hid ((Value.slice a l.length d).ownBlock ≠ some (W.heap.size + 1) ∧ (Value.slice a l.length d).ownBlock ≠ some W.heap.size) := ⟨o.apart B2 reader_ne_tok, o.apart B1 place_ne_tok⟩
  generalize L + (p - 1) = L' at *
  generalize (if p = 1 then C + (c - 1) else c) = C' at *
  generalize hN : l.length = N at *
  clear hr hn ht hL hC o hl
  go_enter Try.func45, Try.ntmps45
  go_wp2
  go_region_law (first
    | (go_simp; go_at_call 52; (with_reducible refine Calls.mono (CL _) ?_); rintro e w1 ⟨rfl, d1⟩; have B3 := BoxC.new w1 (tcA (k, t.extract 0 n, L, C)) 32; have hq : W.heap.size + 1 < w1.heap.size := Nat.lt_of_lt_of_le B2' d1.size; have C2 := B2.drew.more d1; have x0 := (C2.cell 0).1; have x1 := (C2.cell 1).1; have x2 := (C2.cell 2).1; have x3 := (C2.cell 3).1; have oo := fun z => ((HX.out.1.more (Below.refl _ _).drew).more d1).alloc z)
    | (refine stp_append_tok (.tmp 10) (.tmp 24) rfl rfl W _ _ N l (k, t.extract 0 n, L, C) w1.heap.size rfl rfl (oo _) B3 (by have := HX.out.2; omega) ?_; intro a3 c3 w3 o3 g3; have D2 := (C2.alloc _).grown g3 HA.out.1; have y3 := (D2.cell 3).2; have x3' := (D2.cell 3).1))
  all_goals
    subst hN
    have D1 := ((B1.drew.more d1).alloc _).grown g3 HA.out.2
    have RN := rd_new D1 D2 o3
    have P1 := PS _ RN
    clear B1 B2 C2 D1 D2 B3 o3 RN PS CL oo x0 x1 x2 x3 x3' y3 HX HA g3 d1
    go_wp2_with (go_at_call 27; (with_reducible refine Calls.mono P1 ?_); rintro e w5 ⟨rfl, r5⟩)
    go_end0
    exact ⟨rfl, r5⟩
end Go.Proofs.Ytfdheodkipfpeaa
/-
  Contracts of the methods word, number, mark, nothing and next of package lex's reader: what they read is the token that the text begins with, or its error; next tells which of these to call. Memory that was there before the call of Lex stays.
-/
namespace Go.Proofs.Ytfdheodkipfpeaa
open Go.RowKit Go.Lib

/-- What is read: the error is the token's; without one the token is kept and passed over. -/
def AnsR (W : World) (t : ByteArray) (L C : Int) (l : List Tok) (e : Ending) (w' : World) : Prop :=
  e = .returned (.int .i64 (tokenI t 0).2.2.2) ∧ ((tokenI t 0).2.2.2 = 0 → ∃ p c, Reach t (tokenI t 0).2.2.1 p c ∧ Rd W w' (t.extract (tokenI t 0).2.2.1 t.size) (L + (p - 1)) (if p = 1 then C + (c - 1) else c) (l ++ [((tokenI t 0).1, (tokenI t 0).2.1, L, C)])) ∧ ((tokenI t 0).2.2.2 ≠ 0 → Rd W w' t L C l)
theorem ansR_no {W w' : World} {t : ByteArray} {L C : Int} {l : List Tok} {k : Int} {x : ByteArray} {n : Nat} {er : Int} (h : tokenI t 0 = (k, x, n, er)) (he : er ≠ 0) (hr : Rd W w' t L C l) : AnsR W t L C l (.returned (.int .i64 er)) w' := by
  unfold AnsR
  rw [h]
  exact ⟨rfl, fun e => absurd e he, fun _ => hr⟩
theorem ansR_yes {W w' : World} {t : ByteArray} {L C : Int} {l : List Tok} {k : Int} {x : ByteArray} {n : Nat} (h : tokenI t 0 = (k, x, n, 0)) {p c : Int} (hp : Reach t n p c) (hr : Rd W w' (t.extract n t.size) (L + (p - 1)) (if p = 1 then C + (c - 1) else c) (l ++ [(k, x, L, C)])) : AnsR W t L C l (.returned (.int .i64 0)) w' := by
  unfold AnsR
  rw [h]
  exact ⟨rfl, fun _ => ⟨p, c, hp, hr⟩, fun e => absurd rfl e⟩

section
variable {W w : World} {t : ByteArray} {L C : Int} {l : List Tok}
set_option maxHeartbeats 4000000 in
theorem lex_word (h : Rd W w t L C l) (ht : t.size ≤ 1000000) (hL : 1 ≤ L ∧ L ≤ 1000001) (hC : 1 ≤ C ∧ C ≤ 1000001) (hl : l.length ≤ 4000) (hk : kindAt t 0 = 1) :
    Calls Try.prog 31 #[.pointer (some ⟨W.heap.size + 1, 0, none⟩)] w (AnsR W t L C l) := by
  have TK : tokenI t 0 = if 0 + 40 < wordEnd t 0 then (0, ⟨#[]⟩, wordEnd t 0, 4) else (0, t.extract 0 (wordEnd t 0), wordEnd t 0, 0) := by unfold tokenI; rw [if_pos hk]
  obtain ⟨p, c, hp⟩ := Reach.word _ 0 1 1 (Nat.le_refl _) (Reach.zero t)
  have TA := fun v (q : Rd W v t L C l) => lex_take q ht hL hC hl _ 0 hp
  have S2 := lex_span2 t ht _ 1 2 _ (boxes1 w #[.int .i64 1, .int .i64 2] 3).1
  rw [spanE_word] at S2
  have R1 := h.more (boxes1 w #[.int .i64 1, .int .i64 2] 3).2.1
  obtain ⟨x0, x1, x2, y0, y1, y2, -, hk2⟩ := h.cells
  generalize wordEnd t 0 = n at *
  by_cases h4 : 0 + 40 < n
  · rw [if_pos h4] at TK
    have HT : Hid (tokenI t 0 = (0, ⟨#[]⟩, n, 4)) := TK
    have k4 : 40 < (n : Int) := by omega
    clear TK TA hp h hk hl hL hC ht h4
    go_enter Try.func31, Try.ntmps31
    go_wp2_with (go_at_call 28; (with_reducible refine Calls.mono S2 ?_); rintro e w1 ⟨rfl, d1⟩)
    go_ret
    exact ansR_no HT.out (by decide) (R1.more d1)
  · rw [if_neg h4] at TK
    have HT : Hid (tokenI t 0 = (0, t.extract 0 n, n, 0)) := TK
    have HP : Hid (Reach t n p c) := hp
    have k4 : ¬ 40 < (n : Int) := by omega
    clear TK hp h hk hl hL hC ht h4
    go_enter Try.func31, Try.ntmps31
    go_wp2_with (first
      | (go_at_call 28; (with_reducible refine Calls.mono S2 ?_); rintro e w1 ⟨rfl, d1⟩)
      | (go_at_call 45; (with_reducible refine Calls.mono (TA _ (R1.more d1)) ?_); rintro e w2 ⟨rfl, r2⟩))
    go_ret
    exact ansR_yes HT.out HP.out r2

set_option maxHeartbeats 8000000 in
theorem lex_number (h : Rd W w t L C l) (ht : t.size ≤ 1000000) (hL : 1 ≤ L ∧ L ≤ 1000001) (hC : 1 ≤ C ∧ C ≤ 1000001) (hl : l.length ≤ 4000) (hk : kindAt t 0 = 2) :
    Calls Try.prog 32 #[.pointer (some ⟨W.heap.size + 1, 0, none⟩)] w (AnsR W t L C l) := by
  have TK := token_number hk
  obtain ⟨p, c, hp⟩ := (Reach.zero t).number
  have TA := fun v (q : Rd W v t L C l) => lex_take q ht hL hC hl _ 1 hp
  have NO := fun v => lex_numeral t ht v
  have ha := above_le t
  have hb := below_le t
  have SZ := fun v => lex_size (above t) (below t) (by omega) (by omega) (numEnd t 0) (numEnd_size t).symm v
  have MY := fun v => lex_may (above t) (below t) (by omega) (by omega) _ rfl v
  have LG := fun v => lex_long (above t) (below t) _ rfl v
  obtain ⟨x0, x1, x2, y0, y1, y2, -, hk2⟩ := h.cells
  have HH : Hid (Rd W w t L C l ∧ Reach t (numEnd t 0) p c) := ⟨h, hp⟩
  generalize longB (above t) (below t) = g at *
  generalize mayB (above t) (below t) = m at *
  generalize numEnd t 0 = n at *
  generalize above t = a at *
  generalize below t = b at *
  clear h hp hk hl hL hC ht ha hb
  cases g with
  | true =>
    rw [if_pos rfl] at TK
    have HT : Hid (tokenI t 0 = (0, ⟨#[]⟩, n, 4)) := TK
    clear TK TA SZ MY
    go_enter Try.func32, Try.ntmps32
    go_wp2_with (first
      | (go_at_call 21; (with_reducible refine Calls.mono (NO _) ?_); rintro e w1 ⟨rfl, d1⟩; have N := boxes1 w1 #[.string a, .string b] 48; obtain ⟨n0, n1, n2, n3⟩ := N.1.cells2)
      | (go_at_call 40; (with_reducible refine Calls.mono (LG _) ?_); rintro e w2 ⟨rfl, d2⟩))
    go_ret
    exact ansR_no HT.out (by decide) (((HH.out.1.more d1).more N.2.1).more d2)
  | false =>
    rw [if_neg (by decide)] at TK
    cases m with
    | false =>
      rw [if_neg (by decide)] at TK
      have HT : Hid (tokenI t 0 = (0, ⟨#[]⟩, n, 5)) := TK
      clear TK TA SZ
      go_enter Try.func32, Try.ntmps32
      go_wp2_with (first
        | (go_at_call 21; (with_reducible refine Calls.mono (NO _) ?_); rintro e w1 ⟨rfl, d1⟩; have N := boxes1 w1 #[.string a, .string b] 48; obtain ⟨n0, n1, n2, n3⟩ := N.1.cells2)
        | (go_at_call 40; (with_reducible refine Calls.mono (LG _) ?_); rintro e w2 ⟨rfl, d2⟩; obtain ⟨n0, n1, n2, n3⟩ := (N.1.more d2).cells2)
        | (go_at_call 22; (with_reducible refine Calls.mono (MY _) ?_); rintro e w3 ⟨rfl, d3⟩))
      go_ret
      exact ansR_no HT.out (by decide) ((((HH.out.1.more d1).more N.2.1).more d2).more d3)
    | true =>
      rw [if_pos rfl] at TK
      have HT : Hid (tokenI t 0 = (1, t.extract 0 n, n, 0)) := TK
      clear TK
      go_enter Try.func32, Try.ntmps32
      go_wp2_with (first
        | (go_at_call 21; (with_reducible refine Calls.mono (NO _) ?_); rintro e w1 ⟨rfl, d1⟩; have N := boxes1 w1 #[.string a, .string b] 48; obtain ⟨n0, n1, n2, n3⟩ := N.1.cells2)
        | (go_at_call 40; (with_reducible refine Calls.mono (LG _) ?_); rintro e w2 ⟨rfl, d2⟩; obtain ⟨n0, n1, n2, n3⟩ := (N.1.more d2).cells2)
        | (go_at_call 22; (with_reducible refine Calls.mono (MY _) ?_); rintro e w3 ⟨rfl, d3⟩; obtain ⟨n0, n1, n2, n3⟩ := ((N.1.more d2).more d3).cells2)
        | (go_at_call 23; (with_reducible refine Calls.mono (SZ _) ?_); rintro e w4 ⟨rfl, d4⟩)
        | (go_at_call 45; (with_reducible refine Calls.mono (TA _ (((((HH.out.1.more d1).more N.2.1).more d2).more d3).more d4)) ?_); rintro e w5 ⟨rfl, r5⟩))
      go_ret
      exact ansR_yes HT.out HH.out.2 r5

set_option maxHeartbeats 4000000 in
theorem lex_mark (h : Rd W w t L C l) (ht : t.size ≤ 1000000) (hL : 1 ≤ L ∧ L ≤ 1000001) (hC : 1 ≤ C ∧ C ≤ 1000001) (hl : l.length ≤ 4000) (hk : kindAt t 0 = 4) :
    Calls Try.prog 33 #[.pointer (some ⟨W.heap.size + 1, 0, none⟩)] w (AnsR W t L C l) := by
  have h0 := kindAt_in (s := t) (i := 0) (by omega)
  have TK : tokenI t 0 = (2, t.extract 0 (0 + stepAt t 0), 0 + stepAt t 0, 0) := by unfold tokenI; rw [if_neg (by omega), if_neg (by omega), if_pos hk]
  obtain ⟨p, c, hp⟩ := (Reach.zero t).step (by omega)
  have TA := fun v (q : Rd W v t L C l) => lex_take q ht hL hC hl _ 2 hp
  have NX : ∀ v, Calls Try.prog 29 #[.string t, .int .i64 0] v fun e w' => e = .returned (.tuple #[.int .i32 (nextR t 0), .int .i64 (stepAt t 0)]) ∧ Below v.heap.size v w' := fun v => by
    have := sign_next t 0 v ht h0
    unfold stepAt
    rw [if_pos h0]; exact this
  rw [Nat.zero_add] at TK hp TA
  obtain ⟨x0, x1, x2, y0, y1, y2, -, hk2⟩ := h.cells
  have HH : Hid (Rd W w t L C l ∧ Reach t (stepAt t 0) p c ∧ tokenI t 0 = (2, t.extract 0 (stepAt t 0), stepAt t 0, 0)) := ⟨h, hp, TK⟩
  generalize stepAt t 0 = n at *
  generalize nextR t 0 = R at *
  clear h hp TK hk hl hL hC ht h0
  go_enter Try.func33, Try.ntmps33
  go_wp2_with (first
    | (go_at_call 29; (with_reducible refine Calls.mono (NX _) ?_); rintro e w1 ⟨rfl, d1⟩)
    | (go_at_call 45; (with_reducible refine Calls.mono (TA _ (HH.out.1.more d1)) ?_); rintro e w5 ⟨rfl, r5⟩))
  go_ret
  exact ansR_yes HH.out.2.2 HH.out.2.1 r5

set_option maxHeartbeats 4000000 in
theorem lex_nothing (h : Rd W w t L C l) (hk : kindAt t 0 ≠ 1 ∧ kindAt t 0 ≠ 2 ∧ kindAt t 0 ≠ 4) :
    Calls Try.prog 34 #[.pointer (some ⟨W.heap.size + 1, 0, none⟩)] w (AnsR W t L C l) := by
  have TK : tokenI t 0 = (0, ⟨#[]⟩, 0, 5) := by unfold tokenI; rw [if_neg hk.1, if_neg hk.2.1, if_neg hk.2.2]
  have HH : Hid (Rd W w t L C l ∧ tokenI t 0 = (0, ⟨#[]⟩, 0, 5)) := ⟨h, TK⟩
  clear h TK hk
  go_enter Try.func34, Try.ntmps34
  go_wp2
  go_ret
  exact ansR_no HH.out.2 (by decide) HH.out.1

set_option maxHeartbeats 4000000 in
/-- Which of these is to be called. -/
theorem lex_next (h : Rd W w t L C l) (ht : t.size ≤ 1000000) (h0 : 0 < t.size) (N : Nat) (hN : kindAt t 0 = 1 ∧ N = 31 ∨ kindAt t 0 = 2 ∧ N = 32 ∨ kindAt t 0 = 4 ∧ N = 33 ∨ (kindAt t 0 ≠ 1 ∧ kindAt t 0 ≠ 2 ∧ kindAt t 0 ≠ 4) ∧ N = 34) :
    Calls Try.prog 17 #[.pointer (some ⟨W.heap.size + 1, 0, none⟩)] w fun e w' => e = .returned (.func (.func N) #[.pointer (some ⟨W.heap.size + 1, 0, none⟩)] #[]) ∧ Rd W w' t L C l := by
  have NX : ∀ v, Calls Try.prog 29 #[.string t, .int .i64 0] v fun e w' => e = .returned (.tuple #[.int .i32 (nextR t 0), .int .i64 (nextN t 0)]) ∧ Below v.heap.size v w' := fun v => sign_next t 0 v ht h0
  have e1 : kindAt t 0 = kindI (nextR t 0) := by unfold kindAt; rw [if_pos h0]
  have KD := fun v => sign_kind (nextR t 0) _ rfl v
  rw [← e1] at KD
  obtain ⟨x0, x1, x2, y0, y1, y2, -, hk2⟩ := h.cells
  have HH : Hid (Rd W w t L C l) := h
  have hmf : ∀ (fn : Fn) (first cap : Array Value) (v : World), (Instr.makeFunc fn first cap).run Try.prog v = .ok (.func fn first cap) v := fun _ _ _ _ => rfl
  generalize kindAt t 0 = k at *
  generalize nextR t 0 = R at *
  generalize nextN t 0 = M at *
  clear h ht h0 e1
  rcases hN with ⟨rfl, rfl⟩ | ⟨rfl, rfl⟩ | ⟨rfl, rfl⟩ | ⟨⟨q1, q2, q4⟩, rfl⟩
  case' inr.inr.inr =>
    have f1 : (k == 1) = false := by rw [beq_eq_false_iff_ne]; exact q1
    have f2 : (k == 2) = false := by rw [beq_eq_false_iff_ne]; exact q2
    have f4 : (k == 4) = false := by rw [beq_eq_false_iff_ne]; exact q4
    clear q1 q2 q4
  all_goals
    go_enter Try.func17, Try.ntmps17
    go_wp2_with (first
      | (go_at_call 29; (with_reducible refine Calls.mono (NX _) ?_); rintro e w1 ⟨rfl, d1⟩)
      | (go_at_call 30; (with_reducible refine Calls.mono (KD _) ?_); rintro e w2 ⟨rfl, rfl⟩))
    go_ret
    exact ⟨rfl, HH.out.more d1⟩
end
end Go.Proofs.Ytfdheodkipfpeaa
/-
  Contract of package lex's Lex: the tokens of a text, or why there are none, and where; memory that was there stays; and package lex's contracts together.
-/
namespace Go.Proofs.Ytfdheodkipfpeaa
open Go.RowKit Go.Lib

theorem Rd.reach {W w : World} {t : ByteArray} {L C : Int} {l : List Tok} (h : Rd W w t L C l) : ∃ a c, BoxC w W.heap.size #[.int .i64 0, .int .i64 0] 25 ∧ BoxC w (W.heap.size + 1) #[.string t, .int .i64 L, .int .i64 C, .slice a l.length c] 40 ∧ OwnT W w (.slice a l.length c) l.length l := h
theorem stay_no {W w : World} {t : ByteArray} {L C : Int} {l : List Tok} (h : Rd W w t L C l) (x y : Value) : Below W.heap.size W ((w.setCell ⟨W.heap.size, 0, none⟩ x).setCell ⟨W.heap.size, 1, none⟩ y) :=
  (h.below.setCell (p := ⟨W.heap.size, 0, none⟩) (Nat.le_refl _) x).setCell (p := ⟨W.heap.size, 1, none⟩) (Nat.le_refl _) y

set_option maxRecDepth 100000 in
set_option maxHeartbeats 20000000 in
theorem lex_Lex (s : ByteArray) (hs : s.size ≤ 1000000) (w : World) : Calls Try.prog 9 #[.string s] w (AnsX w (lexI s)) := by
  obtain ⟨b1, b2, bV, hV⟩ := boxes2 w #[.int .i64 0, .int .i64 0] #[.string s, .int .i64 1, .int .i64 1, .slice none 0 0] 25 40
  have x0 := (b1.cell 0).2
  have x1 := (b1.cell 1).2
  have z0 := (b2.cell 0).1
  have z1 := (b2.cell 1).1
  have z2 := (b2.cell 2).1
  unfold lexI
  by_cases h6 : 60000 < s.size
  · rw [if_pos h6]
    have k6 : 60000 < (s.size : Int) := by omega
    clear hs h6
    go_enter Try.func9, Try.ntmps9
    go_wp2
    go_region
    all_goals go_wp2
    obtain ⟨q1, q2, qV, -⟩ := boxes2 w #[.int .i64 1, .int .i64 1] #[.string s, .int .i64 1, .int .i64 1, .slice none 0 0] 25 40
    obtain ⟨y0, y1, -, -⟩ := q1.drew.cells2
    exact bodyPost_ret (v := .tuple #[.slice none 0 0, .agg #[.int .i64 1, .int .i64 1], .int .i64 4]) (by simp [results, Try.results9, go_sem, y0, y1]) rfl (ansX_no qV.drew)
  rw [if_neg h6]
  have k6 : ¬ 60000 < (s.size : Int) := by omega
  have hs6 : s.size ≤ 60000 := Nat.not_lt.1 h6
  clear x0 x1 z0 z1 z2
  have R0 : Rd w ((w.alloc (.cells #[.int .i64 0, .int .i64 0] 25)).alloc (.cells #[.string s, .int .i64 1, .int .i64 1, .slice none 0 0] 40)) (s.extract 0 s.size) 1 1 [] := by
    rw [extract_all]
    exact ⟨none, 0, b1, b2, OwnT.nil bV⟩
  have SK := fun v i L C l (q : Rd w v (s.extract i s.size) L C l) (r : Reach s i L C) => lex_skip q hs r
  have S0 := SK _ 0 1 1 [] R0 (Reach.zero s)
  have HS : Hid (s.size ≤ 60000) := hs6
  have HP : Hid (lexF s (s.size + 1) 0 [] = lexF s (s.size + 1) (spanE [3] s 0) []) := lexF_blanks s [] _ 0 (Nat.le_refl _)
  have HK : Hid (kindAt s (spanE [3] s 0) ≠ 3) := blanks_end s _ 0 (Nat.le_refl _)
  have HG : Hid (spanE [3] s 0 ≤ s.size) := (spanE_range [3] s 0).2 (Nat.zero_le _)
  generalize lexF s (s.size + 1) 0 [] = P at *
  generalize spanE [3] s 0 = E0 at *
  clear h6 hs6 b1 b2 bV hV
  go_enter Try.func9, Try.ntmps9
  go_wp2_with (go_at_call 16; (with_reducible refine Calls.mono S0 ?_); rintro e V ⟨rfl, L0, C0, r0, c0⟩)
  go_loopg [] (s.size - E0) (fun g v => ∃ (i : Nat) (L C : Int) (l : List Tok), i + g = s.size ∧ kindAt s i ≠ 3 ∧ l.length ≤ 4000 ∧ Rd w v (s.extract i s.size) L C l ∧ Reach s i L C ∧ lexF s (s.size + 1) i l = P)
  case atStart => exact ⟨E0, L0, C0, [], by have := HG.out; omega, HK.out, by simp, r0, c0, HP.out.symm⟩
  case round =>
    obtain ⟨i, L, C, l, hg, hk, hl, hR, hr, hF⟩ := hrel
    clear HP HK HG r0 c0 S0 R0
    have hi0 := hr.range.1
    have hz : (s.extract i s.size).size = s.size - i := by rw [ByteArray.size_extract]; omega
    have sh := shifted_rest s hi0
    have hS := HS.out
    obtain ⟨a, c, B1, B2, o⟩ := hR.reach
    have z0 := (B2.cell 0).1
    have z1 := (B2.cell 1).1
    have z2 := (B2.cell 2).1
    have z3 := (B2.cell 3).1
    have x0 := (B1.cell 0).2
    have x1 := (B1.cell 1).2
    have x2 := (B1.cell 0).1
    have x3 := (B1.cell 1).1
    rcases Nat.lt_or_ge i s.size with hi | hi
    · have e0 : ((s.extract i s.size).toList == []) = false := text_full (by omega)
      have hT := lexF_step (out := l) hi
      rw [hF, if_neg hk] at hT
      have hpl := hr.here hi
      by_cases h4 : 4000 ≤ l.length
      · rw [if_pos h4, hpl] at hT
        have HT : Hid (P = ([], (L, C), 4)) := hT
        have e4 : ((l.length : Int) == 4000) = true := by rw [beq_iff_eq]; omega
        have HR : Hid (Rd w wr (s.extract i s.size) L C l) := hR
        have hq : w.heap.size < wr.heap.size := B1.lt
        generalize s.extract i s.size = t at *
        generalize l.length = n at *
        clear hF hT hpl h4 hg hk hl hR hr hi0 hz sh hS B1 B2 o hi SK hs
        go_wp2
        go_region
        all_goals go_wp2
        have HT2 := HT.out
        subst HT2
        obtain ⟨a', c', B1', B2', o'⟩ := HR.out.reach
        obtain ⟨y0, y1, -, -⟩ := ((B1'.set 0 (.int .i64 L)).set 1 (.int .i64 C)).drew.cells2
        exact bodyPost_ret (v := .tuple #[.slice none 0 0, .agg #[.int .i64 L, .int .i64 C], .int .i64 4]) (by simp [results, Try.results9, go_sem, y0, y1]) rfl (ansX_no (stay_no HR.out _ _).drew)
      · rw [if_neg h4] at hT
        have e4 : ((l.length : Int) == 4000) = false := by rw [beq_eq_false_iff_ne]; omega
        have hkt := (sh.kind 0).1
        have htk := sh.token 0
        rw [Nat.add_zero] at hkt htk
        have hL := hr.range
        have hl3 : l.length ≤ 4000 := hl
        have hrd : ∃ N, (N = 31 ∨ N = 32 ∨ N = 33 ∨ N = 34) ∧ (∀ v, Rd w v (s.extract i s.size) L C l → Calls Try.prog 17 #[.pointer (some ⟨w.heap.size + 1, 0, none⟩)] v fun e w' => e = .returned (.func (.func N) #[.pointer (some ⟨w.heap.size + 1, 0, none⟩)] #[]) ∧ Rd w w' (s.extract i s.size) L C l) ∧
            (∀ v, Rd w v (s.extract i s.size) L C l → Calls Try.prog N #[.pointer (some ⟨w.heap.size + 1, 0, none⟩)] v (AnsR w (s.extract i s.size) L C l)) := by
          by_cases q1 : kindAt (s.extract i s.size) 0 = 1
          · exact ⟨_, .inl rfl, fun v q => lex_next q (by omega) (by omega) _ (.inl ⟨q1, rfl⟩), fun v q => lex_word q (by omega) (by omega) (by omega) hl3 q1⟩
          by_cases q2 : kindAt (s.extract i s.size) 0 = 2
          · exact ⟨_, .inr (.inl rfl), fun v q => lex_next q (by omega) (by omega) _ (.inr (.inl ⟨q2, rfl⟩)), fun v q => lex_number q (by omega) (by omega) (by omega) hl3 q2⟩
          by_cases q4 : kindAt (s.extract i s.size) 0 = 4
          · exact ⟨_, .inr (.inr (.inl rfl)), fun v q => lex_next q (by omega) (by omega) _ (.inr (.inr (.inl ⟨q4, rfl⟩))), fun v q => lex_mark q (by omega) (by omega) (by omega) hl3 q4⟩
          · exact ⟨_, .inr (.inr (.inr rfl)), fun v q => lex_next q (by omega) (by omega) _ (.inr (.inr (.inr ⟨⟨q1, q2, q4⟩, rfl⟩))), fun v q => lex_nothing q ⟨q1, q2, q4⟩⟩
        obtain ⟨N, hN, NX, RD⟩ := hrd
        have hend := tokenI_end hi
        rw [htk] at hT hend
        dsimp only at hT hend
        by_cases her : (tokenI (s.extract i s.size) 0).2.2.2 = 0
        · rw [if_neg (fun e => e her), hpl] at hT
          obtain ⟨q1, q2⟩ := hend her
          have RD2 : ∀ v, Rd w v (s.extract i s.size) L C l → Calls Try.prog N #[.pointer (some ⟨w.heap.size + 1, 0, none⟩)] v fun e w' => e = .returned (.int .i64 0) ∧ ∃ L' C', Rd w w' (s.extract (i + (tokenI (s.extract i s.size) 0).2.2.1) s.size) L' C' (l ++ [((tokenI (s.extract i s.size) 0).1, (tokenI (s.extract i s.size) 0).2.1, L, C)]) ∧ Reach s (i + (tokenI (s.extract i s.size) 0).2.2.1) L' C' := by
            intro v q
            refine (RD v q).mono ?_
            rintro e w' ⟨h1, h2, -⟩
            obtain ⟨p', c', h3, h5⟩ := h2 her
            rw [her] at h1
            rw [extract_rest] at h5
            exact ⟨h1, _, _, h5, hr.on sh h3⟩
          generalize (tokenI (s.extract i s.size) 0).2.2.1 = E at *
          generalize (tokenI (s.extract i s.size) 0).1 = k0 at *
          generalize (tokenI (s.extract i s.size) 0).2.1 = u at *
          rw [lexF_blanks s _ _ (i + E) (Nat.le_refl _)] at hT
          have HT : Hid (P = lexF s (s.size + 1) (spanE [3] s (i + E)) (l ++ [(k0, u, L, C)])) := hT
          have hr2 := spanE_range [3] s (i + E)
          have HI : Hid (kindAt s (spanE [3] s (i + E)) ≠ 3 ∧ i < spanE [3] s (i + E) ∧ spanE [3] s (i + E) ≤ s.size ∧ i + gk = s.size ∧ l.length < 4000) := ⟨blanks_end s _ (i + E) (Nat.le_refl _), by omega, hr2.2 (by omega), hg, by omega⟩
          have HR : Hid (Rd w wr (s.extract i s.size) L C l) := hR
          have SK2 := fun v L' C' (q : Rd w v (s.extract (i + E) s.size) L' C' (l ++ [(k0, u, L, C)])) (r : Reach s (i + E) L' C') => SK v (i + E) L' C' _ q r
          generalize spanE [3] s (i + E) = I at *
          generalize s.extract i s.size = t at *
          generalize hn : l.length = n at *
          have HN : Hid (l.length = n) := hn
          clear hF hT hpl h4 hg hk hl hl3 hR hr hi0 hz sh hS B1 B2 o hi SK hs hend hr2 q1 q2 RD hL hkt htk her hn x0 x1 x2 x3
          rcases hN with rfl | rfl | rfl | rfl
          all_goals
            go_wp2_with (first
              | (go_at_call 17; (with_reducible refine Calls.mono (NX _ HR.out) ?_); rintro e w1 ⟨rfl, r1⟩)
              | (go_at_call 31; (with_reducible refine Calls.mono (RD2 _ r1) ?_); rintro e w2 ⟨rfl, L1, C1, r2, g2⟩)
              | (go_at_call 32; (with_reducible refine Calls.mono (RD2 _ r1) ?_); rintro e w2 ⟨rfl, L1, C1, r2, g2⟩)
              | (go_at_call 33; (with_reducible refine Calls.mono (RD2 _ r1) ?_); rintro e w2 ⟨rfl, L1, C1, r2, g2⟩)
              | (go_at_call 34; (with_reducible refine Calls.mono (RD2 _ r1) ?_); rintro e w2 ⟨rfl, L1, C1, r2, g2⟩)
              | (go_at_call 16; (with_reducible refine Calls.mono (SK2 _ _ _ r2 g2) ?_); rintro e w3 ⟨rfl, L2, C2, r3, g3⟩))
            obtain ⟨j1, j2, j3, j4, j5⟩ := HI.out
            go_roundg (s.size - I)
            case measure => omega
            case rel => exact ⟨I, L2, C2, _, by omega, j1, by rw [List.length_append, HN.out]; exact j5, r3, g3, HT.out.symm⟩
        · rw [if_pos her, hpl] at hT
          have HT : Hid (P = ([], (L, C), (tokenI (s.extract i s.size) 0).2.2.2)) := hT
          have RD2 : ∀ v, Rd w v (s.extract i s.size) L C l → Calls Try.prog N #[.pointer (some ⟨w.heap.size + 1, 0, none⟩)] v fun e w' => e = .returned (.int .i64 (tokenI (s.extract i s.size) 0).2.2.2) ∧ Rd w w' (s.extract i s.size) L C l := by
            intro v q
            refine (RD v q).mono ?_
            rintro e w' ⟨h1, -, h2⟩
            exact ⟨h1, h2 her⟩
          generalize (tokenI (s.extract i s.size) 0).2.2.2 = er at *
          have e5 : (er != 0) = true := by rw [bne_iff_ne]; exact her
          have HR : Hid (Rd w wr (s.extract i s.size) L C l) := hR
          generalize s.extract i s.size = t at *
          generalize hn : l.length = n at *
          clear hF hT hpl h4 hg hk hl hl3 hR hr hi0 hz sh hS B1 B2 o hi SK hs hend RD hL hkt htk her hn x0 x1 x2 x3
          rcases hN with rfl | rfl | rfl | rfl
          all_goals
            go_wp2_with (first
              | (go_at_call 17; (with_reducible refine Calls.mono (NX _ HR.out) ?_); rintro e w1 ⟨rfl, r1⟩)
              | (go_at_call 31; (with_reducible refine Calls.mono (RD2 _ r1) ?_); rintro e w2 ⟨rfl, r2⟩)
              | (go_at_call 32; (with_reducible refine Calls.mono (RD2 _ r1) ?_); rintro e w2 ⟨rfl, r2⟩)
              | (go_at_call 33; (with_reducible refine Calls.mono (RD2 _ r1) ?_); rintro e w2 ⟨rfl, r2⟩)
              | (go_at_call 34; (with_reducible refine Calls.mono (RD2 _ r1) ?_); rintro e w2 ⟨rfl, r2⟩))
            obtain ⟨a2, c2, D1, D2, o2⟩ := r2.reach
            have z0 := (D2.cell 0).1
            have z1 := (D2.cell 1).1
            have z2 := (D2.cell 2).1
            have x0 := (D1.cell 0).2
            have x1 := (D1.cell 1).2
            have x2 := (D1.cell 0).1
            have x3 := (D1.cell 1).1
            have hq : w.heap.size < w2.heap.size := D1.lt
            go_region
            all_goals go_wp2
            have HT2 := HT.out
            subst HT2
            obtain ⟨y0, y1, -, -⟩ := ((D1.set 0 (.int .i64 L)).set 1 (.int .i64 C)).drew.cells2
            exact bodyPost_ret (v := .tuple #[.slice none 0 0, .agg #[.int .i64 L, .int .i64 C], .int .i64 er]) (by simp [results, Try.results9, go_sem, y0, y1]) rfl (ansX_no (stay_no r2 _ _).drew)
    · have e0 : ((s.extract i s.size).toList == []) = true := text_empty (by omega)
      rw [lexF_end (out := l) (Nat.not_lt.2 hi)] at hF
      subst hF
      have HO : Hid (OwnT w wr (.slice a l.length c) l.length l ∧ BoxC wr w.heap.size #[.int .i64 0, .int .i64 0] 25) := ⟨o, B1⟩
      generalize s.extract i s.size = t at *
      generalize hn : l.length = n at *
      clear hg hk hl hR hr hi0 hz sh hS B1 B2 o hi SK hs
      go_wp2
      subst hn
      obtain ⟨o', B1'⟩ := HO.out
      obtain ⟨y0, y1, -, -⟩ := ((B1'.set 0 (.int .i64 0)).set 1 (.int .i64 0)).cells2
      exact bodyPost_ret (v := .tuple #[.slice a l.length c, .agg #[.int .i64 0, .int .i64 0], .int .i64 0]) (by simp [results, Try.results9, go_sem, y0, y1]) rfl ⟨a, c, rfl, (o'.box B1' place_ne_tok (Nat.le_refl _) 0 _).box (B1'.set 0 _) place_ne_tok (Nat.le_refl _) 1 _⟩

/-- Package lex keeps its contracts. -/
theorem lex_ok : LexOk where
  lexO := fun s w hs => (lex_Lex s hs w).mono fun _ _ h => h.z
  number := fun s w hs r hr => lex_Number s hs r hr w
end Go.Proofs.Ytfdheodkipfpeaa
/-
  The chapter's example and the walk of the statement LexTells, for whatever package lex keeps its contracts: both return true; memory that was there stays.
-/
namespace Go.Proofs.Ytfdheodkipfpeaa
open Go.RowKit Go.Lib

theorem toks3 {w : World} {g : Nat} {t0 t1 t2 : Tok} (h : IsToks w (some ⟨g, 0, none⟩) 3 [t0, t1, t2]) :
    w.cell? ⟨g, 0, none⟩ = some (.int .i64 t0.1) ∧ w.cell? ⟨g, 1, none⟩ = some (.string t0.2.1) ∧ w.cell? ⟨g, 4, none⟩ = some (.int .i64 t1.1) ∧ w.cell? ⟨g, 5, none⟩ = some (.string t1.2.1) ∧ w.cell? ⟨g, 8, none⟩ = some (.int .i64 t2.1) ∧ w.cell? ⟨g, 9, none⟩ = some (.string t2.2.1) ∧ w.cell? ⟨g, 10, none⟩ = some (.int .i64 t2.2.2.1) ∧ w.cell? ⟨g, 11, none⟩ = some (.int .i64 t2.2.2.2) := by
  obtain ⟨g', e, hc⟩ := h.2.resolve_left (by simp)
  obtain rfl : g = g' := by simpa using e
  have h0 := hc 0 (by simp)
  have h1 := hc 1 (by simp)
  have h2 := hc 2 (by simp)
  exact ⟨h0.1, h0.2.1, h1.1, h1.2.1, h2.1, h2.2.1, h2.2.2.1, h2.2.2.2⟩

set_option maxRecDepth 100000 in
set_option maxHeartbeats 8000000 in
theorem lex_awake (K : LexOk) (w : World) : Calls Try.prog 8 #[] w fun e w' => e = .returned (.bool true) ∧ Below w.heap.size w w' := by
  have c1 := fun v => K.lex ⟨#[120, 49, 42, 50, 124, 51]⟩ v (by decide)
  rw [ex_lex] at c1
  unfold AnsY at c1
  dsimp only at c1
  have c2 := fun v => K.number ⟨#[50, 124, 51]⟩ v (by decide) _ ex_num
  clear K
  simp only [List.length_cons, List.length_nil, Nat.zero_add, Nat.reduceAdd] at c1
  go_enter Try.func8, Try.ntmps8
  go_wp2_with (first
    | (go_at_call 9; (with_reducible refine Calls.mono (c1 _) ?_); rintro e w1 ⟨a1, d1, rfl, t1, b1⟩; have b2 := fun o => b1.alloc b1.size o; have t2 := fun o => t1.below ((Below.refl _ w1).alloc (Nat.le_refl _) o); obtain ⟨g, rfl, -⟩ := t1.2.resolve_left (by simp); have z := fun o => toks3 (t2 o); have z0 := fun o => (z o).1; have z1 := fun o => (z o).2.1; have z2 := fun o => (z o).2.2.1; have z3 := fun o => (z o).2.2.2.1; have z4 := fun o => (z o).2.2.2.2.1; have z5 := fun o => (z o).2.2.2.2.2.1; have z6 := fun o => (z o).2.2.2.2.2.2.1; have z7 := fun o => (z o).2.2.2.2.2.2.2; clear z t2)
    | (go_at_call 12; (with_reducible refine Calls.mono (c2 _) ?_); rintro e w2 ⟨rfl, b3⟩))
  go_ret
  exact ⟨rfl, below_more (b2 _) b3⟩

set_option maxHeartbeats 8000000 in
theorem walk_LexTells (K : LexOk) (AW : ∀ v, Calls Try.prog 8 #[] v fun e w' => e = .returned (.bool true) ∧ Below v.heap.size v w') (s : ByteArray) (w : World) (_hs : s.size ≤ maxLen) :
    Calls Try.prog 3 #[.string s] w fun e w' => e = .returned (.bool true) ∧ Below w.heap.size w w' := by
  by_cases h2 : 200 < s.size
  · have k2 : 200 < (s.size : Int) := by omega
    clear _hs K
    go_enter Try.func3, Try.ntmps3
    go_wp2_with (go_at_call 8; (with_reducible refine Calls.mono (AW _) ?_); rintro e w1 ⟨rfl, b1⟩)
    go_ret
    exact ⟨rfl, b1⟩
  have k2 : ¬ 200 < (s.size : Int) := by omega
  have c1 := fun v => K.lex s v (by omega)
  have c2 := fun v => (ref_llex (s := s) (by omega) v).mono (fun _ _ h => AnsX.y h)
  have c3 := fun v => K.number s v (by omega) _ rfl
  have c4 := fun v => ref_lNumber (s := s) (by omega) _ rfl v
  have hlen := lexI_length s
  unfold AnsY at c1 c2
  generalize lexI s = P at *
  obtain ⟨l, ⟨L, C⟩, E⟩ := P
  dsimp only at c1 c2 hlen
  generalize numB s = nb at *
  have S1 := fun v a c b d (p : IsToks v a l.length l) (q : IsToks v b l.length l) => ref_lsame (c := c) (d := d) p q true (decide_eq_true rfl) (by omega)
  generalize l.length = n at *
  clear _hs K h2 hlen
  go_enter Try.func3, Try.ntmps3
  go_wp2_with (first
    | (go_at_call 8; (with_reducible refine Calls.mono (AW _) ?_); rintro e w1 ⟨rfl, b1⟩)
    | (go_at_call 9; (with_reducible refine Calls.mono (c1 _) ?_); rintro e w2 ⟨a1, d1, rfl, t1, b2⟩; replace b1 := below_more b1 b2; have b3 := fun o => b1.alloc b1.size o; have t2 := fun o => t1.below ((Below.refl _ w2).alloc (Nat.le_refl _) o); have BP := BoxC.new w2 #[.int .i64 L, .int .i64 C] 25)
    | (go_at_call 10; (with_reducible refine Calls.mono (c2 _) ?_); rintro e w3 ⟨a3, d3, rfl, t3, b4⟩; have b5 := below_more (b3 _) b4; have b6 := fun o => b5.alloc b5.size o; have t4 := fun o => ((t2 _).below b4).below ((Below.refl _ w3).alloc (Nat.le_refl _) o); have t5 := fun o => t3.below ((Below.refl _ w3).alloc (Nat.le_refl _) o); have x0 := fun o => ((BP.more b4).alloc o).cells2.1; have x1 := fun o => ((BP.more b4).alloc o).cells2.2.1)
    | (go_at_call 11; (with_reducible refine Calls.mono (S1 _ _ _ _ _ (t4 _) (t5 _)) ?_); rintro e w4 ⟨rfl, b7⟩; have b8 := below_more (b6 _) b7)
    | (go_at_call 12; (with_reducible refine Calls.mono (c3 _) ?_); rintro e w5 ⟨rfl, b9⟩)
    | (go_at_call 13; (with_reducible refine Calls.mono (c4 _) ?_); rintro e w6 ⟨rfl, rfl⟩))
  go_ret
  exact ⟨by simp, below_more b8 b9⟩
end Go.Proofs.Ytfdheodkipfpeaa
/-
  The statement LexTells, out of package lex's contracts. Memory that was there stays.
-/
namespace Go.Proofs.Ytfdheodkipfpeaa
open Go.RowKit

theorem law_LexTells (s : ByteArray) (w : World) (_hs : s.size ≤ maxLen) :
    Calls Try.prog 3 #[.string s] w fun e w' => e = .returned (.bool true) ∧ Below w.heap.size w w' := walk_LexTells lex_ok (lex_awake lex_ok) s w _hs
end Go.Proofs.Ytfdheodkipfpeaa
/-
  Laws of no function: how an Int, and a Rat, that came in reads: a bool, and slices of words. No conditions of the program.
-/
namespace Go.Proofs.Ytfdheodkipfpeaa
open Go.ChangeShapes Go.WideShapes Go.ChangeAt Go.RowKit Go.Joins

end Go.Proofs.Ytfdheodkipfpeaa
/-
  Laws of no function: each token stands where it says, one behind the other. No conditions of the program.
-/
namespace Go.Proofs.Ytfdheodkipfpeaa
open Go.Lib

/-- These tokens stand in s one behind the other, from the byte i on, each at its place. -/
def Stand (s : ByteArray) : Nat → List Tok → Prop
  | _, [] => True
  | i, t :: l => ∃ j, i ≤ j ∧ j < s.size ∧ Reach s j t.2.2.1 t.2.2.2 ∧ j + t.2.1.size ≤ s.size ∧ 0 < t.2.1.size ∧ s.extract j (j + t.2.1.size) = t.2.1 ∧ Stand s (j + t.2.1.size) l
theorem Stand.from {s : ByteArray} {i k : Nat} (h : i ≤ k) : ∀ {l : List Tok}, Stand s k l → Stand s i l := by
  intro l hl
  cases l with
  | nil => trivial
  | cons t l =>
    obtain ⟨j, h1, h2⟩ := hl
    exact ⟨j, by omega, h2⟩
theorem lexF_stand (s : ByteArray) : ∀ f i out L C, Reach s i L C → (lexF s f i out).2.2 = 0 → ∃ r, (lexF s f i out).1 = out ++ r ∧ Stand s i r := by
  intro f
  induction f with
  | zero => intro i out L C _ _; exact ⟨[], by rw [List.append_nil]; rfl, trivial⟩
  | succ f ih =>
    intro i out L C hR h
    unfold lexF at h ⊢
    by_cases hi : i < s.size
    · rw [if_pos hi] at h ⊢
      by_cases h3 : kindAt s i = 3
      · rw [if_pos h3] at h ⊢
        obtain ⟨L', C', hR'⟩ := hR.step (by omega)
        rw [stepAt_blank h3] at hR'
        obtain ⟨r, e, hr⟩ := ih _ _ _ _ hR' h
        exact ⟨r, e, hr.from (by omega)⟩
      rw [if_neg h3] at h ⊢
      by_cases h4 : 4000 ≤ out.length
      · rw [if_pos h4] at h; exact absurd h (by simp)
      rw [if_neg h4] at h ⊢
      by_cases h5 : (tokenI s i).2.2.2 ≠ 0
      · rw [if_pos h5] at h; exact absurd h h5
      rw [if_neg h5] at h ⊢
      have h5' := Decidable.not_not.1 h5
      have hend := tokenI_end hi h5'
      have htx := (tokenI_ok h5').2
      have hz : (tokenI s i).2.1.size = (tokenI s i).2.2.1 - i := by rw [htx, ByteArray.size_extract]; omega
      obtain ⟨L', C', hR'⟩ := hR.token h5'
      obtain ⟨r, e, hr⟩ := ih _ _ _ _ hR' h
      refine ⟨_ :: r, by rw [e, List.append_assoc, List.singleton_append], i, Nat.le_refl _, hi, ?_, ?_, ?_, ?_, ?_⟩
      · show Reach s i (placeI s i).1 (placeI s i).2
        rw [hR.here hi]; exact hR
      · show i + (tokenI s i).2.1.size ≤ s.size; omega
      · show 0 < (tokenI s i).2.1.size; omega
      · show s.extract i (i + (tokenI s i).2.1.size) = (tokenI s i).2.1
        rw [hz, show i + ((tokenI s i).2.2.1 - i) = (tokenI s i).2.2.1 by omega]; exact htx.symm
      · show Stand s (i + (tokenI s i).2.1.size) r
        rw [hz, show i + ((tokenI s i).2.2.1 - i) = (tokenI s i).2.2.1 by omega]; exact hr
    · rw [if_neg hi]; exact ⟨[], by rw [List.append_nil], trivial⟩
theorem lexI_stand {s : ByteArray} (hs : s.size ≤ 200) (h : (lexI s).2.2 = 0) : Stand s 0 (lexI s).1 := by
  rw [lexI_short (by omega)] at h ⊢
  obtain ⟨r, e, hr⟩ := lexF_stand s _ 0 [] 1 1 (Reach.zero s) h
  rw [e, List.nil_append]; exact hr

theorem joinB_snoc (l : List (Int × ByteArray)) (t : Int × ByteArray) : joinB (l ++ [t]) = joinB l ++ t.2 ++ ⟨#[32]⟩ := by
  induction l with
  | nil =>
    show t.2 ++ (⟨#[32]⟩ ++ ⟨#[]⟩) = ⟨#[]⟩ ++ t.2 ++ ⟨#[32]⟩
    refine ByteArray.ext ?_
    simp [ByteArray.data_append]
  | cons x l ih =>
    show x.2 ++ (⟨#[32]⟩ ++ joinB (l ++ [t])) = x.2 ++ (⟨#[32]⟩ ++ joinB l) ++ t.2 ++ ⟨#[32]⟩
    rw [ih]
    simp only [ByteArray.append_assoc]
theorem joinB_size {m : Nat} : ∀ (l : List (Int × ByteArray)), (∀ t ∈ l, t.2.size ≤ m) → (joinB l).size ≤ l.length * (m + 1) := by
  intro l
  induction l with
  | nil => intro _; exact Nat.zero_le _
  | cons x l ih =>
    intro h
    have h1 := ih (fun t ht => h t (List.mem_cons_of_mem _ ht))
    have h2 := h x (List.mem_cons_self ..)
    show (x.2 ++ (⟨#[32]⟩ ++ joinB l)).size ≤ _
    rw [ByteArray.size_append, ByteArray.size_append, List.length_cons, Nat.succ_mul]
    show x.2.size + (1 + (joinB l).size) ≤ _
    omega
theorem lexI_right (s : ByteArray) : ∀ t ∈ (lexI s).1, RightT t.1 t.2.1 ∧ t.2.1.size ≤ s.size := by
  unfold lexI
  split
  · intro t ht; exact absurd ht (by simp)
  · exact lexF_right s _ _ _ (fun t ht => absurd ht (by simp))
theorem lexI_count {s : ByteArray} (hs : s.size ≤ 200) : (lexI s).1.length ≤ 200 := by
  rw [lexI_short (by omega)]
  have := lexF_count s (s.size + 1) 0 []
  simp at this
  omega
/-- TOKENS WITH ONE BLANK BETWEEN ARE THE SAME TOKENS. -/
theorem lex_again {s : ByteArray} (hs : s.size ≤ 200) : (joinB (ktx (lexI s).1)).size ≤ 40200 ∧ (lexI (joinB (ktx (lexI s).1))).2.2 = 0 ∧ ktx (lexI (joinB (ktx (lexI s).1))).1 = ktx (lexI s).1 := by
  have hc := lexI_count hs
  have hr := lexI_right s
  generalize (lexI s).1 = l at *
  have hk : ∀ t ∈ ktx l, RightT t.1 t.2 ∧ t.2.size ≤ 200 := by
    intro t ht
    unfold ktx at ht
    obtain ⟨x, hx, rfl⟩ := List.mem_map.1 ht
    have := hr x hx
    exact ⟨this.1, Nat.le_trans this.2 hs⟩
  have hz := joinB_size (m := 200) (ktx l) (fun t ht => (hk t ht).2)
  rw [ktx_length] at hz
  have hz2 : (joinB (ktx l)).size ≤ 40200 := Nat.le_trans hz (by omega)
  obtain ⟨r, e1, e2⟩ := lex_blanks (ktx l) ⟨#[]⟩ [] (fun t ht => (hk t ht).1) (by rw [ktx_length]; simp; omega)
  have e0 : (⟨#[]⟩ : ByteArray) ++ joinB (ktx l) = joinB (ktx l) := by
    refine ByteArray.ext ?_
    simp [ByteArray.data_append]
  rw [e0] at e1
  have e3 : lexI (joinB (ktx l)) = (r, (0, 0), 0) := by
    rw [lexI_short (by omega)]
    rw [List.nil_append] at e1
    exact e1
  rw [e3]
  exact ⟨hz2, rfl, e2⟩
/-- Where something is wrong there are no tokens. -/
theorem lexF_err (s : ByteArray) : ∀ f i out, (lexF s f i out).2.2 ≠ 0 → (lexF s f i out).1 = [] := by
  intro f
  induction f with
  | zero => intro i out h; exact absurd rfl h
  | succ f ih =>
    intro i out h
    unfold lexF at h ⊢
    by_cases hi : i < s.size
    · rw [if_pos hi] at h ⊢
      by_cases h3 : kindAt s i = 3
      · rw [if_pos h3] at h ⊢; exact ih _ _ h
      rw [if_neg h3] at h ⊢
      by_cases h4 : 4000 ≤ out.length
      · rw [if_pos h4]
      rw [if_neg h4] at h ⊢
      by_cases h5 : (tokenI s i).2.2.2 ≠ 0
      · rw [if_pos h5]
      rw [if_neg h5] at h ⊢
      exact ih _ _ h
    · rw [if_neg hi] at h; exact absurd rfl h
theorem lexI_err {s : ByteArray} (h : (lexI s).2.2 ≠ 0) : (lexI s).1 = [] := by
  unfold lexI at h ⊢
  split
  · rfl
  · rename_i hc
    rw [if_neg hc] at h
    exact lexF_err s _ _ _ h
/-- Cut off behind its n-th token a text has its first tokens. -/
theorem lex_front {s : ByteArray} (hs : s.size ≤ 200) (h : (lexI s).2.2 = 0) (n : Nat) (hn : n < (lexI s).1.length) : ∃ j t, (lexI s).1[n]? = some t ∧ j < s.size ∧ Reach s j t.2.2.1 t.2.2.2 ∧ j + t.2.1.size ≤ s.size ∧ lexI (s.extract 0 (j + t.2.1.size)) = ((lexI s).1.take (n + 1), (0, 0), 0) := by
  rw [lexI_short (by omega)] at h hn ⊢
  obtain ⟨j, -, q2, ⟨L, C, q3⟩, q4, q5, q6⟩ := front_lex n s.size 0 [] 1 1 (by omega) (Reach.zero s) (by simp) h hn
  have hend := tokenI_end q2 q4
  have htx := (tokenI_ok q4).2
  have hz : (tokenI s j).2.1.size = (tokenI s j).2.2.1 - j := by rw [htx, ByteArray.size_extract]; omega
  refine ⟨j, _, q5, q2, ?_, ?_, ?_⟩
  · show Reach s j (placeI s j).1 (placeI s j).2
    rw [q3.here q2]; exact q3
  · show j + (tokenI s j).2.1.size ≤ s.size; omega
  · show lexI (s.extract 0 (j + (tokenI s j).2.1.size)) = _
    have e : j + (tokenI s j).2.1.size = (tokenI s j).2.2.1 := by omega
    rw [e]
    have hsz : (s.extract 0 (tokenI s j).2.2.1).size = (tokenI s j).2.2.1 := by rw [ByteArray.size_extract]; omega
    rw [lexI_short (by omega)]
    exact q6 _ (front s hend.2) hsz
end Go.Proofs.Ytfdheodkipfpeaa
/-
  The walk of the statement LexFront, for whatever packages lex and sign keep their contracts: it returns true; memory that was there stays.
-/
namespace Go.Proofs.Ytfdheodkipfpeaa
open Go.RowKit Go.Lib

theorem IsToks.take {w : World} {a : Option Addr} {n : Nat} {l : List Tok} (h : IsToks w a n l) {m : Nat} (hm : m ≤ n) : IsToks w a m (l.take m) := by
  have hl := h.1
  refine ⟨by rw [List.length_take]; omega, ?_⟩
  rcases h.2 with h0 | ⟨g, e, hc⟩
  · left; rw [h0]; simp
  · refine .inr ⟨g, e, fun i hi => ?_⟩
    have hi2 : i < l.length := by rw [List.length_take] at hi; omega
    have := hc i hi2
    rw [List.getElem_take]
    exact this
theorem IsToks.get {w : World} {a : Option Addr} {n : Nat} {l : List Tok} (h : IsToks w a n l) {i : Nat} {t : Tok} (ht : l[i]? = some t) : ∃ g, a = some ⟨g, 0, none⟩ ∧ w.cell? ⟨g, i * 4, none⟩ = some (.int .i64 t.1) ∧ w.cell? ⟨g, i * 4 + 1, none⟩ = some (.string t.2.1) ∧ w.cell? ⟨g, i * 4 + 2, none⟩ = some (.int .i64 t.2.2.1) ∧ w.cell? ⟨g, i * 4 + 3, none⟩ = some (.int .i64 t.2.2.2) := by
  obtain ⟨hi, e⟩ := List.getElem?_eq_some_iff.1 ht
  rcases h.2 with h0 | ⟨g, ea, hc⟩
  · rw [h0] at hi; exact absurd hi (by simp)
  · have := hc i hi
    rw [e] at this
    exact ⟨g, ea, this⟩
theorem wrap_i64t {x : Int} (h0 : 0 ≤ x) (h1 : x < 1000000) : IntKind.i64.wrap x = x := by rw [IntKind.wrap_i64]; omega
theorem wf_u8' {a : Int} (h : (Lit.int .u8 a).wf = true) : 0 ≤ a ∧ a < 256 := by
  simp [Lit.wf, IntKind.min, IntKind.max, IntKind.signed, IntKind.bits] at h; omega

set_option maxRecDepth 100000 in
set_option maxHeartbeats 8000000 in
theorem walk_LexFront (K : LexOk) (S : SignOk) (AW : ∀ v, Calls Try.prog 8 #[] v fun e w' => e = .returned (.bool true) ∧ Below v.heap.size v w') (s : ByteArray) (k : Int) (w : World) (_hs : s.size ≤ maxLen) (h0 : (Lit.int .u8 k).wf = true) :
    Calls Try.prog 7 #[.string s, .int .u8 k] w fun e w' => e = .returned (.bool true) ∧ Below w.heap.size w w' := by
  obtain ⟨k0, k1⟩ := wf_u8' h0
  by_cases h2 : 200 < s.size
  · have k2 : 200 < (s.size : Int) := by omega
    clear _hs K S h0
    go_enter Try.func7, Try.ntmps7
    go_wp2_with (go_at_call 8; (with_reducible refine Calls.mono (AW _) ?_); rintro e w1 ⟨rfl, b1⟩)
    go_ret
    exact ⟨rfl, b1⟩
  have k2 : ¬ 200 < (s.size : Int) := by omega
  have c1 := fun v => K.lexO s v (by omega)
  have hlen := lexI_count (s := s) (by omega)
  unfold AnsZ at c1
  by_cases hE : (lexI s).2.2 = 0
  case neg =>
    have e1 : ((lexI s).2.2 != 0) = true := by rw [bne_iff_ne]; exact hE
    generalize lexI s = P at *
    obtain ⟨l, ⟨L, C⟩, E⟩ := P
    dsimp only at c1 e1
    clear _hs K S h0 hE hlen
    go_enter Try.func7, Try.ntmps7
    go_wp2_with (first
      | (go_at_call 8; (with_reducible refine Calls.mono (AW _) ?_); rintro e w1 ⟨rfl, b1⟩)
      | (go_at_call 9; (with_reducible refine Calls.mono (c1 _) ?_); rintro e w2 ⟨a1, d1, rfl, t1, b2, -⟩; replace b1 := below_more b1 b2; have b3 := fun o => b1.alloc b1.size o))
    go_ret
    exact ⟨rfl, b3 _⟩
  by_cases hn : (lexI s).1.length = 0
  case pos =>
    generalize lexI s = P at *
    obtain ⟨l, ⟨L, C⟩, E⟩ := P
    dsimp only at c1 hn hE
    subst hE
    rw [hn] at c1
    clear _hs K S h0 hlen
    go_enter Try.func7, Try.ntmps7
    go_wp2_with (first
      | (go_at_call 8; (with_reducible refine Calls.mono (AW _) ?_); rintro e w1 ⟨rfl, b1⟩)
      | (go_at_call 9; (with_reducible refine Calls.mono (c1 _) ?_); rintro e w2 ⟨a1, d1, rfl, t1, b2, -⟩; replace b1 := below_more b1 b2; have b3 := fun o => b1.alloc b1.size o))
    go_ret
    exact ⟨rfl, b3 _⟩
  obtain ⟨n, hkn⟩ : ∃ n : Nat, n = k.toNat % (lexI s).1.length := ⟨_, rfl⟩
  have hnl : n < (lexI s).1.length := by rw [hkn]; exact Nat.mod_lt _ (by omega)
  obtain ⟨j, t, ht, hj, hR, hje, hF⟩ := lex_front (s := s) (by omega) hE n hnl
  have c2 := fun v => K.lex (s.extract 0 (j + t.2.1.size)) v (by rw [ByteArray.size_extract]; omega)
  unfold AnsY at c2
  rw [hF] at c2
  have eM : Int.tmod k ((lexI s).1.length : Int) = n := by
    rw [Int.tmod_eq_emod_of_nonneg k0, hkn, Int.natCast_emod, Int.toNat_of_nonneg k0]
  have hnz : ((lexI s).1.length : Int) ≠ 0 := by omega
  have hnz2 : (((lexI s).1.length : Int) == 0) = false := by rw [beq_eq_false_iff_ne]; exact hnz
  have PL := fun (i : Nat) (hi : i < s.size) v => S.place s i v (by omega) (by omega) (by omega)
  unfold AnsL at PL
  generalize lexI s = P at *
  obtain ⟨l, ⟨L, C⟩, E⟩ := P
  dsimp only at c1 c2 hE hn hnl ht eM hnz hnz2 hlen
  subst hE
  have hl2 : (l.take (n + 1)).length = n + 1 := by rw [List.length_take]; omega
  rw [hl2] at c2
  have S1 := fun v a c b d (p : IsToks v a (n + 1) (l.take (n + 1))) (q : IsToks v b (n + 1) (l.take (n + 1))) => ref_lsame (c := c) (d := d) p q true (decide_eq_true rfl) (by omega)
  obtain ⟨K1, x, L1, C1⟩ := t
  dsimp only at hR hje c2
  have HR : Hid (Reach s j L1 C1 ∧ j < s.size ∧ j + x.size ≤ s.size ∧ s.size ≤ 200 ∧ n < l.length ∧ l.length ≤ 200 ∧ l[n]? = some (K1, x, L1, C1)) := ⟨hR, hj, hje, by omega, hnl, hlen, ht⟩
  have n0 : 0 ≤ (n : Int) := by omega
  have n1 : (n : Int) < (l.length : Int) := by omega
  clear _hs K S h0 hF hkn hn hnl ht hj hR hje hlen hl2 h2
  go_enter Try.func7, Try.ntmps7
  go_wp2_with (first
    | (go_at_call 8; (with_reducible refine Calls.mono (AW _) ?_); rintro e w1 ⟨rfl, b1⟩)
    | (go_at_call 9; (with_reducible refine Calls.mono (c1 _) ?_); rintro e w2 ⟨a1, d1, rfl, t1, b2, z1, z2⟩; obtain ⟨g, rfl, -⟩ := t1.get HR.out.2.2.2.2.2.2; replace b1 := below_more b1 b2))
  have bV := b1.alloc b1.size (.cells #[.int .i64 L, .int .i64 C] 25)
  have T := t1.below ((Below.refl _ w2).alloc (Nat.le_refl _) (.cells #[.int .i64 L, .int .i64 C] 25))
  clear b1 b2 t1 c1 z1
  generalize w2.alloc (.cells #[.int .i64 L, .int .i64 C] 25) = V at *
  go_loopg [10] j (fun h s10 v => ∃ i : Nat, s10 = .int .i64 i ∧ i + h = j ∧ Below V.heap.size V v)
  case atStart => exact ⟨0, rfl, by omega, Below.refl _ _⟩
  case round =>
    obtain ⟨i, rfl, hg, bw⟩ := hrel
    have hi : i < s.size := by have := HR.out; omega
    have hi' : (i : Int) < s.size := by omega
    have i0 : 0 ≤ (i : Int) := by omega
    have p1 := fun v => PL i hi v
    have hT := HR.out.2.2.2.2.2.2
    have SO : ∀ v, Below wr.heap.size wr v → v.cell? ⟨g, n * 4 + 2, none⟩ = some (.int .i64 L1) ∧ v.cell? ⟨g, n * 4 + 3, none⟩ = some (.int .i64 C1) := fun v hb => by
      obtain ⟨g', eg, -, -, q1, q2⟩ := ((T.below bw).below hb).get hT
      obtain rfl : g = g' := by simpa using eg
      exact ⟨q1, q2⟩
    have bs : Below wr.heap.size wr wr.drew := (Below.refl _ _).drew
    cases gk with
    | succ h =>
      obtain ⟨P1, P2, hP, hne⟩ : ∃ P1 P2, placeI s i = (P1, P2) ∧ (P1 < L1 ∨ P1 = L1 ∧ P2 < C1) := ⟨_, _, rfl, HR.out.1.ahead i i0 (by omega)⟩
      rw [hP] at p1
      dsimp only at p1
      have w1 : wrap64 ((i : Int) + 1) = (i : Int) + 1 := wrap_small (by omega) (by have := HR.out; omega)
      have HX : Hid (i + (h + 1) = j ∧ Below V.heap.size V wr) := ⟨hg, bw⟩
      clear PL hg bw hT T hi HR c2 S1 AW eM hnz hnz2 hP k0 k1 k2
      rcases hne with hne | ⟨he, hne⟩
      case' inl => have e1 : (P1 == L1) = false := by rw [beq_eq_false_iff_ne]; omega
      case' inr =>
        obtain rfl := he.symm
        have e1 : (P2 == C1) = false := by rw [beq_eq_false_iff_ne]; omega
      all_goals
        clear hne
        go_wp2
        go_region_held3 (fun v => v.cell? ⟨g, n * 4 + 2, none⟩ = some (.int .i64 L1) ∧ v.cell? ⟨g, n * 4 + 3, none⟩ = some (.int .i64 C1))
          (with_reducible exact SO _ bs)
          (first
          | (go_at_call 14; (with_reducible refine Calls.mono (p1 _) ?_); rintro e w4 ⟨rfl, b4⟩; replace bs := below_more bs b4))
        go_wp2
        obtain ⟨x1, x2⟩ := HX.out
        go_roundg h
        case measure => clear w1; omega
        case rel => exact ⟨i + 1, by go_num, by clear w1; omega, below_more x2 bs⟩
    | zero =>
      obtain rfl : i = j := by omega
      obtain ⟨r1, r2, r3, r4, r5, r6, r7⟩ := HR.out
      rw [r1.here r2] at p1
      dsimp only at p1
      have q1 : ¬ (s.size : Int) < (i : Int) + x.size := by omega
      have q2 : 0 ≤ (i : Int) + x.size := by omega
      have q3 : (i : Int) + x.size ≤ s.size := by omega
      have q4 : 0 ≤ (n : Int) + 1 := by omega
      have q5 : (n : Int) + 1 ≤ d1 := by omega
      have T3 := T.below bw
      have q6 : (i : Int) + x.size < 1000000 := by omega
      have q7 : (n : Int) + 1 < 1000000 := by omega
      have HX : Hid (n + 1 ≤ l.length ∧ IsToks wr (some ⟨g, 0, none⟩) l.length l ∧ Below w.heap.size w wr) := ⟨by omega, T3, below_more bV bw⟩
      have C0 : ∀ v, Below wr.heap.size wr v → v.cell? ⟨g, n * 4 + 1, none⟩ = some (.string x) := fun v hb => by
        obtain ⟨g', eg, -, q, -, -⟩ := (T3.below hb).get hT
        obtain rfl : g = g' := by simpa using eg
        exact q
      clear PL hg bw hT T T3 hi AW eM hnz hnz2 r1 r2 r3 r4 r5 r6 r7 HR k0 k1 bV z2
      have w1 : wrap64 ((i : Int) + x.size) = (i : Int) + x.size := wrap_small q2 q6
      have w2' : IntKind.i64.wrap ((n : Int) + 1) = (n : Int) + 1 := wrap_i64t q4 q7
      have w3 : wrap64 ((n : Int) + 1) = (n : Int) + 1 := wrap_small q4 q7
      clear q6 q7
      go_wp2
      go_region_held3 (fun v => v.cell? ⟨g, n * 4 + 2, none⟩ = some (.int .i64 L1) ∧ v.cell? ⟨g, n * 4 + 3, none⟩ = some (.int .i64 C1))
        (with_reducible exact SO _ bs)
        (first
        | (go_at_call 14; (with_reducible refine Calls.mono (p1 _) ?_); rintro e w4 ⟨rfl, b4⟩; replace bs := below_more bs b4))
      have c0 := C0 _ bs
      clear SO C0 p1
      go_wp2_with (first
        | (go_at_call 9; (with_reducible refine Calls.mono (c2 _) ?_); rintro e w5 ⟨a5, d5, rfl, t5, b5⟩; replace bs := below_more bs b5; have b6 := fun o => bs.alloc bs.size o; have t6 := fun o => t5.below ((Below.refl _ w5).alloc (Nat.le_refl _) o); have T6 := fun o => (HX.out.2.1.below (b6 o)).take HX.out.1)
        | (go_at_call 11; (with_reducible refine Calls.mono (S1 _ _ _ _ _ (t6 _) (T6 _)) ?_); rintro e w6 ⟨rfl, b7⟩))
      go_ret
      exact ⟨rfl, below_more HX.out.2.2 (below_more (b6 _) b7)⟩
end Go.Proofs.Ytfdheodkipfpeaa
/-
  Laws of no function: append of a whole list of tokens onto one that the call made; a token that is read out of a list. Conditions: Go's own limits on sizes.
-/
namespace Go.Proofs.Ytfdheodkipfpeaa
open Go.RowKit Go.Lib

theorem IsToks.cells {w : World} {g : Nat} {l : List Tok} (h : ∀ i (h : i < l.length), w.cell? ⟨g, i * 4, none⟩ = some (.int .i64 l[i].1) ∧ w.cell? ⟨g, i * 4 + 1, none⟩ = some (.string l[i].2.1) ∧ w.cell? ⟨g, i * 4 + 2, none⟩ = some (.int .i64 l[i].2.2.1) ∧ w.cell? ⟨g, i * 4 + 3, none⟩ = some (.int .i64 l[i].2.2.2)) (j : Nat) (u : Value) (hj : (tcs l)[j]? = some u) : w.cell? ⟨g, j, none⟩ = some u := by
  have hlt : j < (tcs l).length := (List.getElem?_eq_some_iff.1 hj).1
  rw [tcs_length] at hlt
  have hi : j / 4 < l.length := by omega
  have e : j / 4 * 4 + j % 4 = j := by omega
  have h1 := tcs_get l (j / 4) hi (j % 4) (by omega)
  rw [e, hj] at h1
  obtain ⟨c0, c1, c2, c3⟩ := h (j / 4) hi
  rcases (by omega : j % 4 = 0 ∨ j % 4 = 1 ∨ j % 4 = 2 ∨ j % 4 = 3) with r | r | r | r
  · rw [r] at h1 e; rw [← e, Nat.add_zero, c0, h1]; rfl
  · rw [r] at h1 e; rw [← e, c1, h1]; rfl
  · rw [r] at h1 e; rw [← e, c2, h1]; rfl
  · rw [r] at h1 e; rw [← e, c3, h1]; rfl
theorem tcs_one (l : List Tok) : ∀ u ∈ tcs l, u.oneCell' = true := by
  induction l with
  | nil => intro u hu; exact absurd hu (by simp [tcs])
  | cons t l ih =>
    intro u hu
    rcases List.mem_append.1 (show u ∈ (tcA t).toList ++ tcs l from hu) with h | h
    · simp [tcA] at h
      rcases h with rfl | rfl | rfl | rfl <;> rfl
    · exact ih u h

set_option maxHeartbeats 1000000 in
/-- append(v, x...), v the call's own, x a list of tokens. -/
theorem wpl_append_toks {ops : Array Oper} {rest : List Oper} {o : Oper} {a : Act} {Q : Exit → Act → World → Prop} (s x : Operand)
    (ho : o.op = .call { callee := .builtin .append, args := #[s, x], argTypes := #[23, 23] }) (hgd : o.guard = none)
    (W w : World) (v : Value) (n : Nat) (l : List Tok) (b : Option Addr) (m d : Nat) (l' : List Tok) (hs : a.eval s = v) (hx : a.eval x = .slice b m d) (hown : OwnT W w v n l) (hsrc : IsToks w b m l') (hd : b = none → d = 0) (hle : n + m ≤ 1000000)
    (h : ∀ a' c' w', OwnT W w' (.slice a' (n + m) c') (n + m) (l ++ l') → w.grownBy w' v.ownBlock → wpList Try.prog ops Q rest (a.put o.dst (.slice a' (n + m) c')) w') : wpList Try.prog ops Q (o :: rest) a w := by
  obtain ⟨i, hi, hz, hs1, hby⟩ := info_parts infoTok
  have hmax : n + m ≤ maxLen := by unfold maxLen; omega
  have hl := hsrc.1
  cases b with
  | none =>
    have hl0 : l' = [] := by
      rcases hsrc.2 with h0 | ⟨g, e, -⟩
      · exact h0
      · exact absurd e (by simp)
    subst hl0
    obtain rfl := hd rfl
    simp only [List.length_nil] at hl
    subst hl
    obtain ⟨a', c', rfl⟩ := hown.lit
    refine wpList_append_own_none hgd s x 23 ho W.heap.size 32 i 4 Try.underlying23 hi _ n _ hs hown.1 hx ?_
    exact h a' c' w (by rw [List.append_nil]; exact hown) ⟨rfl, rfl, rfl, Nat.le_refl _, fun _ _ _ => rfl⟩
  | some ad =>
    have hcells : ∀ j u, (tcs l')[j]? = some u → w.cell? (ad.add j) = some u := by
      intro j u hj
      rcases hsrc.2 with h0 | ⟨g, e, hc⟩
      · rw [h0] at hj; exact absurd hj (by simp [tcs])
      · obtain rfl := Option.some.inj e
        have := IsToks.cells hc j u hj
        rw [Go.WideShapes.add_plain, Nat.zero_add]; exact this
    refine wpList_append_own w hgd s x 23 ho W.heap.size 32 i _ 4 40 Try.underlying23 hi hz hs1 hby rfl (by decide) v n _ hs hown.1 ad m d (tcs l') hx (by rw [tcs_length, hl]) hcells (tcs_one l') hmax (by omega) hown.2.size ?_
    intro v' w' h1 h2 _
    have hnew : OwnT W w' v' (n + m) (l ++ l') := ⟨by rw [tcs_append]; exact h1, hown.2.grown h2 hown.2.size (fun k hk => (hown.1.lt k hk).1)⟩
    obtain ⟨a', c', rfl⟩ := hnew.lit
    exact h a' c' w' hnew h2
end Go.Proofs.Ytfdheodkipfpeaa
/-
  The walk of the statement LexJoins, for whatever package lex keeps its contracts: it returns true; memory that was there stays.
-/
namespace Go.Proofs.Ytfdheodkipfpeaa
open Go.RowKit Go.Lib

theorem place_range (s : ByteArray) (a : Int) : 1 ≤ (placeI s a).1 ∧ (placeI s a).1 ≤ 1 + ((s.size + 1 : Nat) : Int) := placeF_range s a (s.size + 1) 0 1 1
/-- Lines are few. -/
theorem lexF_lines (s : ByteArray) : ∀ f i out, (∀ t ∈ out, 0 ≤ t.2.2.1 ∧ t.2.2.1 ≤ (s.size : Int) + 2) → (0 ≤ (lexF s f i out).2.1.1 ∧ (lexF s f i out).2.1.1 ≤ (s.size : Int) + 2) ∧ ∀ t ∈ (lexF s f i out).1, 0 ≤ t.2.2.1 ∧ t.2.2.1 ≤ (s.size : Int) + 2 := by
  intro f
  induction f with
  | zero => intro i out h; exact ⟨⟨Int.le_refl _, by show (0 : Int) ≤ _; omega⟩, h⟩
  | succ f ih =>
    intro i out h
    have hp := place_range s i
    unfold lexF
    by_cases hi : i < s.size
    · rw [if_pos hi]
      by_cases h3 : kindAt s i = 3
      · rw [if_pos h3]; exact ih _ _ h
      rw [if_neg h3]
      by_cases h4 : 4000 ≤ out.length
      · rw [if_pos h4]; exact ⟨⟨by show 0 ≤ (placeI s i).1; omega, by show (placeI s i).1 ≤ _; omega⟩, fun t ht => absurd ht (by simp)⟩
      rw [if_neg h4]
      by_cases h5 : (tokenI s i).2.2.2 ≠ 0
      · rw [if_pos h5]; exact ⟨⟨by show 0 ≤ (placeI s i).1; omega, by show (placeI s i).1 ≤ _; omega⟩, fun t ht => absurd ht (by simp)⟩
      rw [if_neg h5]
      refine ih _ _ (fun t ht => ?_)
      rcases List.mem_append.1 ht with ht | ht
      · exact h t ht
      · obtain rfl := List.mem_singleton.1 ht
        exact ⟨by show 0 ≤ (placeI s i).1; omega, by show (placeI s i).1 ≤ _; omega⟩
    · rw [if_neg hi]; exact ⟨⟨Int.le_refl _, by show (0 : Int) ≤ _; omega⟩, h⟩
theorem lexI_lines {s : ByteArray} (hs : s.size ≤ 200) : (0 ≤ (lexI s).2.1.1 ∧ (lexI s).2.1.1 ≤ 202) ∧ ∀ t ∈ (lexI s).1, 0 ≤ t.2.2.1 ∧ t.2.2.1 ≤ 202 := by
  rw [lexI_short (by omega)]
  obtain ⟨h1, h2⟩ := lexF_lines s (s.size + 1) 0 [] (fun t ht => absurd ht (by simp))
  exact ⟨by omega, fun t ht => by have := h2 t ht; omega⟩
/-- A list without a token, in a block of its own behind another one. -/
theorem own_none (w : World) (o : Obj) : OwnT w ((w.alloc o).alloc (.cells #[] 32)) (.slice (some ⟨w.heap.size + 1, 0, none⟩) 0 0) 0 [] := by
  have b1 := (Below.refl w.heap.size w).alloc (Nat.le_refl _) o
  refine ⟨?_, b1.alloc b1.size _⟩
  have := World.ownsRow_lit (base := w.heap.size) (e := 32) (size := 4) (w.alloc o) #[] 0 b1.size (Nat.zero_le _) rfl
  rw [World.size_alloc] at this
  exact this
theorem shift_get {n : Int} {l : List Tok} {i : Nat} {t : Tok} (h : l[i]? = some t) : shiftT n (l.take (i + 1)) = shiftT n (l.take i) ++ [(t.1, t.2.1, t.2.2.1 + n, t.2.2.2)] := by
  rw [List.take_add_one, h]
  unfold shiftT
  rw [List.map_append]; rfl

set_option maxRecDepth 100000 in
set_option maxHeartbeats 8000000 in
theorem walk_LexJoins (K : LexOk) (AW : ∀ v, Calls Try.prog 8 #[] v fun e w' => e = .returned (.bool true) ∧ Below v.heap.size v w') (s t : ByteArray) (w : World) (_hs : s.size ≤ maxLen) (_ht : t.size ≤ maxLen) :
    Calls Try.prog 4 #[.string s, .string t] w fun e w' => e = .returned (.bool true) ∧ Below w.heap.size w w' := by
  rcases (by omega : 200 < s.size ∨ (¬ 200 < s.size ∧ 200 < t.size) ∨ (¬ 200 < s.size ∧ ¬ 200 < t.size)) with h | ⟨h, h2⟩ | ⟨h, h2⟩
  · have k2 : 200 < (s.size : Int) := by omega
    clear _hs _ht K
    go_enter Try.func4, Try.ntmps4
    go_wp2_with (go_at_call 8; (with_reducible refine Calls.mono (AW _) ?_); rintro e w1 ⟨rfl, b1⟩)
    go_ret
    exact ⟨rfl, b1⟩
  · have k2 : ¬ 200 < (s.size : Int) := by omega
    have k3 : 200 < (t.size : Int) := by omega
    clear _hs _ht K
    go_enter Try.func4, Try.ntmps4
    go_wp2_with (go_at_call 8; (with_reducible refine Calls.mono (AW _) ?_); rintro e w1 ⟨rfl, b1⟩)
    go_ret
    exact ⟨rfl, b1⟩
  have k2 : ¬ 200 < (s.size : Int) := by omega
  have k3 : ¬ 200 < (t.size : Int) := by omega
  have hz : (s ++ ⟨#[10]⟩ ++ t).size = s.size + 1 + t.size := by rw [ByteArray.size_append, ByteArray.size_append]; rfl
  have c1 := fun v => K.lexO s v (by omega)
  have c2 := fun v => K.lexO t v (by omega)
  have c3 := fun v => K.lexO (s ++ ⟨#[10]⟩ ++ t) v (by omega)
  have hJ := lex_joins s t (by omega) (by omega)
  rw [← ByteArray.append_assoc] at hJ
  have hn := lines_le s s.size
  have hc1 := lexI_count (s := s) (by omega)
  have hc2 := lexI_count (s := t) (by omega)
  have hl2 := lexI_lines (s := t) (by omega)
  have he1 := lexI_err (s := s)
  have he2 := lexI_err (s := t)
  generalize hLL : lines s s.size = LL at *
  generalize lexI (s ++ ⟨#[10]⟩ ++ t) = P3 at *
  generalize lexI s = P1 at *
  generalize lexI t = P2 at *
  obtain ⟨l, ⟨L, C⟩, E⟩ := P1
  obtain ⟨m, ⟨L2, C2⟩, E2⟩ := P2
  unfold AnsZ at c1 c2 c3
  dsimp only at c1 c2 hc1 hc2 hl2 he1 he2 hJ
  have HH : Hid (¬ 200 < s.size ∧ lines s s.size = LL ∧ LL ≤ s.size ∧ l.length ≤ 200 ∧ m.length ≤ 200 ∧ (0 ≤ L2 ∧ L2 ≤ 202) ∧ ∀ t ∈ m, 0 ≤ t.2.2.1 ∧ t.2.2.1 ≤ 202) := ⟨h, hLL, hn, hc1, hc2, hl2.1, hl2.2⟩
  have HJ : Hid (E ≠ 0 ∧ l = [] ∧ P3 = ([], (L, C), E) ∨ E = 0 ∧ E2 ≠ 0 ∧ m = [] ∧ P3 = ([], (L2 + (1 + (LL : Int)), C2), E2) ∨ E = 0 ∧ E2 = 0 ∧ P3 = (l ++ shiftT (1 + (LL : Int)) m, (0, 0), 0)) := by
    show _ ∨ _
    by_cases q1 : E = 0
    · by_cases q2 : E2 = 0
      · refine .inr (.inr ⟨q1, q2, ?_⟩)
        rw [hJ, if_neg (fun e => e q1), if_neg (fun e => e q2)]
      · refine .inr (.inl ⟨q1, q2, he2 q2, ?_⟩)
        rw [hJ, if_neg (fun e => e q1), if_pos q2]
    · refine .inl ⟨q1, he1 q1, ?_⟩
      rw [hJ, if_pos q1, he1 q1]
  clear _hs _ht K hz hJ hn hc1 hc2 hl2 he1 he2 h2 h hLL
  go_enter Try.func4, Try.ntmps4
  go_wp2_with (go_at_call 8; (with_reducible refine Calls.mono (AW _) ?_); rintro e V ⟨rfl, b1⟩)
  go_loopg [6, 7] s.size (fun g s6 s7 v => ∃ i L : Nat, s6 = .int .i64 (1 + (L : Int)) ∧ s7 = .int .i64 i ∧ i + g = s.size ∧ L ≤ i ∧ lines s i = L ∧ V = v)
  case atStart => exact ⟨0, 0, rfl, rfl, by omega, Nat.le_refl _, rfl, rfl⟩
  case round =>
    obtain ⟨i, M, rfl, rfl, hg, hL, hE, rfl⟩ := hrel
    have HE : Hid (lines s i = M) := hE
    clear hE
    rcases Nat.lt_or_ge i s.size with hi | hi
    · have hi' : (i : Int) < s.size := by omega
      have hH := HH.out.1
      have v1 : wrap64 ((i : Int) + 1) = (i : Int) + 1 := wrap_small (by omega) (by omega)
      have v2 : wrap64 (1 + (M : Int) + 1) = 1 + (M : Int) + 1 := wrap_two M (Nat.le_trans hL (Nat.le_trans (Nat.le_of_lt hi) (Nat.not_lt.1 HH.out.1)))
      have hS : lines s (i + 1) = lines s i + (if bt s i = 10 then 1 else 0) := rfl
      rw [bt_get hi, HE.out] at hS
      clear hH c1 c2 c3 AW HJ
      by_cases h10 : s[i].toNat = 10
      · have e10 : ((s[i].toNat : Int) == 10) = true := by rw [beq_iff_eq]; omega
        rw [if_pos h10] at hS
        have HS : Hid (lines s (i + 1) = M + 1) := hS
        clear hS h10 HE
        go_wp2
        go_roundg (s.size - (i + 1))
        case measure => omega
        case rel => exact ⟨i + 1, M + 1, by congr 1, by go_num, by omega, by omega, HS.out, rfl⟩
      · have e10 : ((s[i].toNat : Int) == 10) = false := by rw [beq_eq_false_iff_ne]; omega
        rw [if_neg h10] at hS
        have HS : Hid (lines s (i + 1) = M + 0) := hS
        clear hS h10 HE
        go_wp2
        go_roundg (s.size - (i + 1))
        case measure => omega
        case rel => exact ⟨i + 1, M, rfl, by go_num, by omega, by omega, HS.out, rfl⟩
    · have hi' : ¬ (i : Int) < s.size := by omega
      obtain rfl : i = s.size := by omega
      obtain rfl : LL = M := HH.out.2.1.symm.trans HE.out
      clear hg hi HE hL AW
      rcases HJ.out with ⟨q1, rfl, rfl⟩ | ⟨rfl, q2, rfl, rfl⟩ | ⟨rfl, rfl, rfl⟩
      · have e1 : (E != 0) = true := by rw [bne_iff_ne]; exact q1
        clear HJ HH q1
        dsimp only at c3
        simp only [List.length_nil] at c1 c3
        go_wp2_with (first
          | (go_at_call 9; (with_reducible refine Calls.mono (c1 _) ?_); rintro e w2 ⟨a2, d2, rfl, t2, b2, -⟩; have b3 := fun o => (below_more b1 b2).alloc (below_more b1 b2).size o; have BP := BoxC.new w2 #[.int .i64 L, .int .i64 C] 25)
          | (go_at_call 9; (with_reducible refine Calls.mono (c2 _) ?_); rintro e w3 ⟨a3, d3, rfl, t3, b4, -⟩; have b5 := fun o => (below_more (b3 _) b4).alloc (below_more (b3 _) b4).size o; have BQ := fun o => (BP.more b4).alloc o)
          | (go_at_call 9; (with_reducible refine Calls.mono (c3 _) ?_); rintro e w4 ⟨a4, d4, rfl, t4, b6, -⟩; have b7 := fun o => (below_more (b5 _) b6).alloc (below_more (b5 _) b6).size o; have x0 := fun o => (((BQ _).more b6).alloc o).cells2.1; have x1 := fun o => (((BQ _).more b6).alloc o).cells2.2.1))
        go_ret
        exact ⟨by simp, b7 _⟩
      · have e1 : (E2 != 0) = true := by rw [bne_iff_ne]; exact q2
        have v0 : 0 ≤ L2 + (1 + (LL : Int)) := by have := HH.out; omega
        have v1 : L2 + (1 + (LL : Int)) < 1000000 := by have := HH.out; omega
        clear HJ HH q2
        have w1 : wrap64 (L2 + (1 + (LL : Int))) = L2 + (1 + (LL : Int)) := wrap_small v0 v1
        clear v0 v1
        dsimp only at c3
        simp only [List.length_nil] at c2 c3
        go_wp2_with (first
          | (go_at_call 9; (with_reducible refine Calls.mono (c1 _) ?_); rintro e w2 ⟨a2, d2, rfl, t2, b2, -⟩; have b3 := fun o => (below_more b1 b2).alloc (below_more b1 b2).size o)
          | (go_at_call 9; (with_reducible refine Calls.mono (c2 _) ?_); rintro e w3 ⟨a3, d3, rfl, t3, b4, -⟩; have b5 := fun o => (below_more (b3 _) b4).alloc (below_more (b3 _) b4).size o; have BP := BoxC.new w3 #[.int .i64 L2, .int .i64 C2] 25; have hk := (below_more (b3 (.cells #[.int .i64 L, .int .i64 C] 25)) b4).size)
          | (go_at_call 9; (with_reducible refine Calls.mono (c3 _) ?_); rintro e w4 ⟨a4, d4, rfl, t4, b6, -⟩; have b7 := fun o => (below_more (b5 _) b6).alloc (below_more (b5 _) b6).size o; have hk4 := (BP.more b6).lt; have x0 := fun o => ((BP.more b6).alloc o).cells2.1; have x1 := fun o => ((BP.more b6).alloc o).cells2.2.1; have x2 := fun o => ((BP.more b6).alloc o).cells2.2.2.1; have x3 := fun o => ((BP.more b6).alloc o).cells2.2.2.2; have BS : BoxC (w4.setCell ⟨w3.heap.size, 0, none⟩ (.int .i64 (L2 + (1 + (LL : Int))))) w3.heap.size #[.int .i64 (L2 + (1 + (LL : Int))), .int .i64 C2] 25 := (BP.more b6).set 0 _; have y0 := fun o => (BS.alloc o).cells2.1; have y1 := fun o => (BS.alloc o).cells2.2.1; have b8 := (below_more (b5 (.cells #[.int .i64 L2, .int .i64 C2] 25)) b6).setCell (p := ⟨w3.heap.size, 0, none⟩) hk (.int .i64 (L2 + (1 + (LL : Int)))); have b9 := fun o => b8.alloc b8.size o))
        go_ret
        exact ⟨by simp, b9 _⟩
      · clear HJ
        dsimp only at c3
        rw [List.length_append, shiftT_length] at c3
        have S1 := fun v a c b d (p : IsToks v a (l.length + m.length) (l ++ shiftT (1 + (LL : Int)) m)) (q : IsToks v b (l.length + m.length) (l ++ shiftT (1 + (LL : Int)) m)) => ref_lsame (c := c) (d := d) p q true (decide_eq_true rfl) (by have := HH.out; omega)
        go_wp2_with (first
          | (go_at_call 9; (with_reducible refine Calls.mono (c1 _) ?_); rintro e w2 ⟨a2, d2, rfl, t2, b2, z2, -⟩; have b3 := fun o => (below_more b1 b2).alloc (below_more b1 b2).size o)
          | (go_at_call 9; (with_reducible refine Calls.mono (c2 _) ?_); rintro e w3 ⟨a3, d3, rfl, t3, b4, -⟩; have b5 := fun o => (below_more (b3 _) b4).alloc (below_more (b3 _) b4).size o; replace t2 := (t2.below ((Below.refl _ w2).alloc (Nat.le_refl _) _)).below b4)
          | (go_at_call 9; (with_reducible refine Calls.mono (c3 _) ?_); rintro e w4 ⟨a4, d4, rfl, t4, b6, -⟩; have b7 := below_more (b5 _) b6; replace t2 := (t2.below ((Below.refl _ w3).alloc (Nat.le_refl _) _)).below b6; replace t3 := (t3.below ((Below.refl _ w3).alloc (Nat.le_refl _) _)).below b6; have OW := own_none w4 (.cells #[.int .i64 0, .int .i64 0] 25); have SRC := t2.below OW.below)
          | (at_builtin; refine wpl_append_toks (.tmp 104) (.tmp 105) rfl rfl w4 _ _ 0 [] a2 l.length d2 l rfl rfl OW SRC z2 (by have := HH.out; omega) ?_; intro a6 c6 w6 o6 g6; simp only [Nat.zero_add, List.nil_append] at o6 ⊢))
        clear c1 c2 c3 t2 z2 OW SRC g6 b3 b4 b5 b6 b2 b1
        go_loopg [17, 18] m.length (fun h s17 s18 v => ∃ (i : Nat) (a : Option Addr) (c : Nat), s17 = .slice a (l.length + i) c ∧ s18 = .int .i64 i ∧ i + h = m.length ∧ OwnT w4 v (.slice a (l.length + i) c) (l.length + i) (l ++ shiftT (1 + (LL : Int)) (m.take i)))
        case atStart => exact ⟨0, a6, c6, rfl, rfl, by omega, by rw [List.take_zero]; show OwnT w4 w6 (.slice a6 (l.length + 0) c6) (l.length + 0) (l ++ []); rw [List.append_nil]; exact o6⟩
        case round =>
          clear o6
          obtain ⟨j, a, c, rfl, rfl, hg, oT⟩ := hrel
          rcases Nat.lt_or_ge j m.length with hj | hj
          · have hj' : (j : Int) < m.length := by omega
            have j0 : 0 ≤ (j : Int) := by omega
            obtain ⟨u, hu⟩ : ∃ u, m[j]? = some u := ⟨_, List.getElem?_eq_getElem hj⟩
            have hul := HH.out.2.2.2.2.2.2 u (List.mem_of_getElem? hu)
            obtain ⟨g, rfl, x0, x1, x2, x3⟩ := (t3.below oT.below).get hu
            have hsh := shift_get (n := 1 + (LL : Int)) hu
            obtain ⟨K1, y, L1, C1⟩ := u
            dsimp only at hul hsh x0 x1 x2 x3
            have v0 : 0 ≤ L1 + (1 + (LL : Int)) := by omega
            have v1 : L1 + (1 + (LL : Int)) < 1000000 := by have := HH.out; omega
            have v2 : 0 ≤ (j : Int) + 1 := by omega
            have v3 : (j : Int) + 1 < 1000000 := by have := HH.out; omega
            have hle : l.length + j ≤ 1000000 := by have := HH.out; omega
            have HX : Hid (j + gk = m.length ∧ j < m.length ∧ shiftT (1 + (LL : Int)) (m.take (j + 1)) = shiftT (1 + (LL : Int)) (m.take j) ++ [(K1, y, L1 + (1 + (LL : Int)), C1)]) := ⟨hg, hj, hsh⟩
            have OW := fun o1 o2 => (oT.alloc o1).alloc o2
            have SRC := boxes2 wr #[.int .i64 K1, .string y, .int .i64 (L1 + (1 + (LL : Int))), .int .i64 C1] #[.int .i64 K1, .string y, .int .i64 (L1 + (1 + (LL : Int))), .int .i64 C1] 32 32
            clear hg hj hu hul hsh t3 HH S1 t4 b7 oT
            have w1 : wrap64 (L1 + (1 + (LL : Int))) = L1 + (1 + (LL : Int)) := wrap_small v0 v1
            have w2' : wrap64 ((j : Int) + 1) = (j : Int) + 1 := wrap_small v2 v3
            clear v0 v1 v2 v3
            go_wp2_with (at_builtin; refine wpl_append_tok (.tmp 124) (.tmp 126) rfl rfl w4 _ _ (l.length + j) (l ++ shiftT (1 + (LL : Int)) (m.take j)) (K1, y, L1 + (1 + (LL : Int)), C1) (wr.heap.size + 1) rfl rfl (OW _ _) SRC.2.1 hle ?_; intro a7 c7 w7 o7 g7)
            obtain ⟨y1, y2, y3⟩ := HX.out
            go_roundg (m.length - (j + 1))
            case measure => clear w1 w2'; omega
            case rel => exact ⟨j + 1, a7, c7, rfl, by go_num, by clear w1 w2'; omega, by rw [y3, ← List.append_assoc]; exact o7⟩
          · have hj' : ¬ (j : Int) < m.length := by omega
            obtain rfl : j = m.length := by omega
            rw [List.take_length] at oT
            have t5 := t4.below oT.below
            have t6 := oT.toks
            have b8 := below_more b7 oT.below
            clear hg hj t3 t4 b7 oT HH
            go_wp2_with (go_at_call 11; (with_reducible refine Calls.mono (S1 _ _ _ _ _ t5 t6) ?_); rintro e w8 ⟨rfl, b9⟩)
            go_ret
            exact ⟨rfl, below_more b8 b9⟩
end Go.Proofs.Ytfdheodkipfpeaa
/-
  The statement LexJoins, out of package lex's contracts. Memory that was there stays.
-/
namespace Go.Proofs.Ytfdheodkipfpeaa
open Go.RowKit

theorem law_LexJoins (s t : ByteArray) (w : World) (_hs : s.size ≤ maxLen) (_ht : t.size ≤ maxLen) :
    Calls Try.prog 4 #[.string s, .string t] w fun e w' => e = .returned (.bool true) ∧ Below w.heap.size w w' := walk_LexJoins lex_ok (lex_awake lex_ok) s t w _hs _ht
end Go.Proofs.Ytfdheodkipfpeaa
