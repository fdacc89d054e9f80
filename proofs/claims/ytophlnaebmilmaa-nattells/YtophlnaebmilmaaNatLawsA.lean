/-
  The walks of the statements NatTells and NatReckons: for all lists of words and every number they return true; memory that was there stays.
-/
import Derived.Test.YtophlnaebmilmaaNatAwake
import Derived.Test.YtophlnaebmilmaaNatRefC
namespace Go.Proofs.Ytophlnaebmilmaa
open Go.RowKit

theorem wf_u64 {a : Int} (h : (Lit.int .u64 a).wf = true) : 0 ≤ a ∧ a < 18446744073709551616 := by
  simp [Lit.wf, IntKind.min, IntKind.max, IntKind.signed, IntKind.bits] at h; omega

/-- Small and the document's Small answer one and the same. -/
theorem small_both (a : Option Addr) (n c : Nat) (zs : List Int) (hz : Wd zs) :
    ∃ (x : Int) (r : Bool), (∀ v, IsWords v (.slice a n c) zs → Calls Try.prog 10 #[.slice a n c] v fun e w' => e = .returned (.tuple #[.int .u64 x, .bool r]) ∧ v = w') ∧
      ∀ v, IsWords v (.slice a n c) zs → Calls Try.prog 11 #[.slice a n c] v fun e w' => e = .returned (.tuple #[.int .u64 x, .bool r]) ∧ v = w' := by
  rcases Nat.lt_or_ge (val zs) 18446744073709551616 with h | h
  · exact ⟨val zs, true, fun v p => nat_small a n c zs v p hz h, fun v p => ref_small a n c zs v p hz h⟩
  · exact ⟨0, false, fun v p => nat_small_no a n c zs v p hz h, fun v p => ref_small_no a n c zs v p hz h⟩

set_option maxHeartbeats 4000000 in
theorem law_NatTells (a : Option Addr) (len cap : Nat) (zs : List Int) (n : Int) (w : World) (h0 : CameIn .u32 w a len cap zs) (h1 : (Lit.int .u64 n).wf = true) :
    Calls Try.prog 3 #[.slice a len cap, .int .u64 n] w fun e w' => e = .returned (.bool true) ∧ Below w.heap.size w w' := by
  obtain ⟨n0, n1⟩ := wf_u64 h1
  have P := came_words h0
  have hw := came_wd h0
  have hlen := P.len
  generalize zs.take len = xs at P hw hlen
  have hm := P.reads.2
  clear h0 h1
  by_cases h40 : 40 < len
  · clear P hw hlen
    go_enter Try.func3, Try.ntmps3
    go_wp2_with (go_at_call 9; refine (nat_awake _).mono ?_; rintro e u0 ⟨rfl, b0⟩)
    go_ret
    exact ⟨rfl, b0⟩
  · obtain ⟨x, r, S1, S2⟩ := small_both a len cap xs hw
    have R := fun v (p : IsWords v (.slice a len cap) xs) => nat_Right a len cap xs v p ((lowN xs len : Int) == (len : Int)) (by rw [Bool.eq_iff_iff]; simp; omega)
    have L := fun v (p : IsWords v (.slice a len cap) xs) => ref_low a len cap xs v p.reads.1 p.reads.2
    have T1 := fun v (p : IsWords v (.slice a len cap) xs) => nat_trim a len cap xs v p hw (by omega)
    have T2 := fun v (p : IsWords v (.slice a len cap) xs) => ref_trim a len cap xs v p hw (by omega)
    have B1 := fun v (p : IsWords v (.slice a len cap) xs) => nat_bits a len cap xs v p hw (by omega)
    have B2 := fun v (p : IsWords v (.slice a len cap) xs) => ref_nbits a len cap xs v p hw (by omega)
    have hlo := lowN_le xs len
    generalize lowN xs len = lo at R L hlo
    generalize val xs = N at T1 T2 B1 B2
    generalize nbits N = nb at B1 B2
    clear hlen
    go_enter Try.func3, Try.ntmps3
    go_wp2_with (first
      | (go_at_call 9; refine (nat_awake _).mono ?_; rintro e u0 ⟨rfl, b0⟩; have p0 := P.below b0)
      | (go_at_call 10; (with_reducible refine Calls.mono (S1 _ p0) ?_); rintro e v1 ⟨rfl, rfl⟩)
      | (go_at_call 11; (with_reducible refine Calls.mono (S2 _ p0) ?_); rintro e v1 ⟨rfl, rfl⟩)
      | (go_at_call 12; (with_reducible refine Calls.mono (L _ p0) ?_); rintro e v1 ⟨rfl, rfl⟩)
      | (go_at_call 13; (with_reducible refine Calls.mono (R _ p0) ?_); rintro e v1 ⟨rfl, rfl⟩)
      | (go_at_call 15; (with_reducible refine Calls.mono (T1 _ p0) ?_); rintro e w1 ⟨a1, c1, rfl, o1⟩; have p1 := p0.below o1.below)
      | (go_at_call 16; (with_reducible refine Calls.mono (T2 _ p1) ?_); rintro e w2 ⟨a2, c2, rfl, o2⟩; have q1 := o1.more o2.below)
      | (go_at_call 14; (with_reducible refine Calls.mono (ref_words _ _ _ _ _ _ _ _ _ q1.words o2.words true (by simp)) ?_); rintro e w3 ⟨rfl, b3⟩; have q3 := (q1.more b3).below)
      | (go_at_call 17; (with_reducible refine Calls.mono (nat_of n _ n0 n1) ?_); rintro e w4 ⟨a4, c4, rfl, o4⟩)
      | (go_at_call 18; (with_reducible refine Calls.mono (ref_of n _ n0 n1) ?_); rintro e w5 ⟨a5, c5, rfl, o5⟩; have q4 := o4.more o5.below)
      | (go_at_call 14; (with_reducible refine Calls.mono (ref_words _ _ _ _ _ _ _ _ _ q4.words o5.words true (by simp)) ?_); rintro e w6 ⟨rfl, b6⟩; have bb := below_more (below_more b0 q3) (q4.more b6).below; have p6 := P.below bb)
      | (go_at_call 19; (with_reducible refine Calls.mono (B1 _ p6) ?_); rintro e v1 ⟨rfl, rfl⟩)
      | (go_at_call 20; (with_reducible refine Calls.mono (B2 _ p6) ?_); rintro e v1 ⟨rfl, rfl⟩))
    go_ret
    exact ⟨ret_bool (by simp), bb⟩

set_option maxHeartbeats 4000000 in
theorem law_NatReckons (a : Option Addr) (len cap : Nat) (zs : List Int) (b : Option Addr) (len1 cap1 : Nat) (zs1 : List Int) (w : World) (h0 : CameIn .u32 w a len cap zs) (h1 : CameIn .u32 w b len1 cap1 zs1) :
    Calls Try.prog 4 #[.slice a len cap, .slice b len1 cap1] w fun e w' => e = .returned (.bool true) ∧ Below w.heap.size w w' := by
  have P := came_words h0
  have hw := came_wd h0
  have Q := came_words h1
  have gw := came_wd h1
  generalize zs.take len = xs at P hw
  generalize zs1.take len1 = ys at Q gw
  clear h0 h1
  by_cases hf : len ≤ 40 ∧ len1 ≤ 40
  · have F := fun v => ref_few a len cap b len1 cap1 40 v true (by simpa using hf)
    have C1 := fun v (p : IsWords v (.slice a len cap) xs) (q : IsWords v (.slice b len1 cap1) ys) => nat_cmp _ _ _ _ _ _ _ _ v p hw q gw
    have C2 := fun v (p : IsWords v (.slice a len cap) xs) (q : IsWords v (.slice b len1 cap1) ys) => ref_cmp _ _ _ _ _ _ _ _ v p hw q gw (by omega) (by omega)
    have A1 := fun v (p : IsWords v (.slice a len cap) xs) (q : IsWords v (.slice b len1 cap1) ys) => nat_add _ _ _ _ _ _ _ _ v p hw q gw (by omega) (by omega)
    have A2 := fun v (p : IsWords v (.slice a len cap) xs) (q : IsWords v (.slice b len1 cap1) ys) => ref_nadd _ _ _ _ _ _ _ _ v p hw q gw (by omega) (by omega)
    generalize sgn (val xs) (val ys) = sg at C1 C2
    generalize val xs + val ys = N at A1 A2
    rcases Nat.lt_or_ge (val xs) (val ys) with hlt | hge
    · have S1 := fun v (p : IsWords v (.slice a len cap) xs) (q : IsWords v (.slice b len1 cap1) ys) => nat_sub_no _ _ _ _ _ _ _ _ v p hw q gw hlt
      have S2 := fun v (p : IsWords v (.slice a len cap) xs) (q : IsWords v (.slice b len1 cap1) ys) => ref_nsub_no _ _ _ _ _ _ _ _ v p hw q gw (by omega) (by omega) hlt
      have WN := fun v => ref_words none 0 0 [] none 0 0 [] v (.inl ⟨rfl, rfl⟩) (.inl ⟨rfl, rfl⟩) true (by simp)
      clear hlt
      go_enter Try.func4, Try.ntmps4
      go_wp2_with (first
        | (go_at_call 9; refine (nat_awake _).mono ?_; rintro e u0 ⟨rfl, b0⟩; have p0 := P.below b0; have q0 := Q.below b0)
        | (go_at_call 21; (with_reducible refine Calls.mono (F _) ?_); rintro e v1 ⟨rfl, rfl⟩)
        | (go_at_call 22; (with_reducible refine Calls.mono (S1 _ p0 q0) ?_); rintro e w1 ⟨rfl, b1⟩; have p1 := p0.below b1; have q1 := q0.below b1)
        | (go_at_call 23; (with_reducible refine Calls.mono (S2 _ p1 q1) ?_); rintro e v1 ⟨rfl, rfl⟩)
        | (go_at_call 24; (with_reducible refine Calls.mono (C1 _ p1 q1) ?_); rintro e w2 ⟨rfl, b2⟩; have p2 := p1.below b2; have q2 := q1.below b2)
        | (go_at_call 25; (with_reducible refine Calls.mono (C2 _ p2 q2) ?_); rintro e v1 ⟨rfl, rfl⟩)
        | (go_at_call 26; (with_reducible refine Calls.mono (A1 _ p2 q2) ?_); rintro e w3 ⟨a3, c3, rfl, o3⟩; have p3 := p2.below o3.below; have q3 := q2.below o3.below)
        | (go_at_call 27; (with_reducible refine Calls.mono (A2 _ p3 q3) ?_); rintro e w4 ⟨a4, c4, rfl, o4⟩; have r3 := o3.more o4.below)
        | (go_at_call 14; (with_reducible refine Calls.mono (ref_words _ _ _ _ _ _ _ _ _ r3.words o4.words true (by simp)) ?_); rintro e w5 ⟨rfl, b5⟩; have bb := below_more (below_more (below_more b0 b1) b2) (r3.more b5).below)
        | (go_at_call 14; (with_reducible refine Calls.mono (WN _) ?_); rintro e w6 ⟨rfl, b6⟩))
      go_ret
      exact ⟨ret_bool (by simp), below_more bb b6⟩
    · have S1 := fun v (p : IsWords v (.slice a len cap) xs) (q : IsWords v (.slice b len1 cap1) ys) => nat_sub _ _ _ _ _ _ _ _ v p hw q gw (by omega) hge
      have S2 := fun v (p : IsWords v (.slice a len cap) xs) (q : IsWords v (.slice b len1 cap1) ys) => ref_nsub _ _ _ _ _ _ _ _ v p hw q gw (by omega) (by omega) hge
      generalize val xs - val ys = D at S1 S2
      clear hge
      go_enter Try.func4, Try.ntmps4
      go_wp2_with (first
        | (go_at_call 9; refine (nat_awake _).mono ?_; rintro e u0 ⟨rfl, b0⟩; have p0 := P.below b0; have q0 := Q.below b0)
        | (go_at_call 21; (with_reducible refine Calls.mono (F _) ?_); rintro e v1 ⟨rfl, rfl⟩)
        | (go_at_call 22; (with_reducible refine Calls.mono (S1 _ p0 q0) ?_); rintro e w1 ⟨a1, c1, rfl, o1⟩; have b1 := o1.below; have p1 := p0.below b1; have q1 := q0.below b1)
        | (go_at_call 23; (with_reducible refine Calls.mono (S2 _ p1 q1) ?_); rintro e w2 ⟨a2, c2, rfl, o2⟩; have r1 := o1.more o2.below; have p2 := p1.below o2.below; have q2 := q1.below o2.below)
        | (go_at_call 24; (with_reducible refine Calls.mono (C1 _ p2 q2) ?_); rintro e w3 ⟨rfl, b3⟩; have p3 := p2.below b3; have q3 := q2.below b3; have s1 := r1.more b3; have s2 := o2.more b3)
        | (go_at_call 25; (with_reducible refine Calls.mono (C2 _ p3 q3) ?_); rintro e v1 ⟨rfl, rfl⟩)
        | (go_at_call 26; (with_reducible refine Calls.mono (A1 _ p3 q3) ?_); rintro e w4 ⟨a4, c4, rfl, o4⟩; have p4 := p3.below o4.below; have q4 := q3.below o4.below)
        | (go_at_call 27; (with_reducible refine Calls.mono (A2 _ p4 q4) ?_); rintro e w5 ⟨a5, c5, rfl, o5⟩; have r5 := o4.more o5.below)
        | (go_at_call 14; (with_reducible refine Calls.mono (ref_words _ _ _ _ _ _ _ _ _ r5.words o5.words true (by simp)) ?_); rintro e w6 ⟨rfl, b6⟩; have b36 := (r5.more b6).below; have t1 := s1.more b36; have t2 := s2.more b36)
        | (go_at_call 14; (with_reducible refine Calls.mono (ref_words _ _ _ _ _ _ _ _ _ t1.words t2.words true (by simp)) ?_); rintro e w7 ⟨rfl, b7⟩))
      go_ret
      exact ⟨ret_bool (by simp), below_more b0 (t1.more b7).below⟩
  · have F := fun v => ref_few a len cap b len1 cap1 40 v false (by simpa using hf)
    clear P Q hf
    go_enter Try.func4, Try.ntmps4
    go_wp2_with (first
      | (go_at_call 9; refine (nat_awake _).mono ?_; rintro e u0 ⟨rfl, b0⟩)
      | (go_at_call 21; (with_reducible refine Calls.mono (F _) ?_); rintro e v1 ⟨rfl, rfl⟩))
    go_ret
    exact ⟨rfl, b0⟩
end Go.Proofs.Ytophlnaebmilmaa
