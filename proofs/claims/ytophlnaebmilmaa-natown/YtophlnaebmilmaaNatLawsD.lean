/-
  The walk of the statement NatOwn: for all two lists of words and every small number it returns true; memory that was there stays.
-/
import Derived.Test.YtophlnaebmilmaaNatLawsB
namespace Go.Proofs.Ytophlnaebmilmaa
open Go.RowKit

set_option maxHeartbeats 8000000 in
theorem law_NatOwn (a : Option Addr) (len cap : Nat) (zs : List Int) (b : Option Addr) (len1 cap1 : Nat) (zs1 : List Int) (q : Int) (w : World) (h0 : CameIn .u32 w a len cap zs) (h1 : CameIn .u32 w b len1 cap1 zs1) (h2 : (Lit.int .u8 q).wf = true) :
    Calls Try.prog 8 #[.slice a len cap, .slice b len1 cap1, .int .u8 q] w fun e w' => e = .returned (.bool true) ∧ Below w.heap.size w w' := by
  obtain ⟨q0, q1⟩ := wf_u8 h2
  have P := came_words h0
  have hw := came_wd h0
  have Q := came_words h1
  have gw := came_wd h1
  have l1 := P.len
  have l2 := Q.len
  generalize zs.take len = xs at P hw l1
  generalize zs1.take len1 = ys at Q gw l2
  clear h0 h1 h2
  by_cases hf : len ≤ 40 ∧ len1 ≤ 40
  · have F := fun v => ref_few a len cap b len1 cap1 40 v true (by simpa using hf)
    obtain ⟨hf1, hf2⟩ := hf
    obtain ⟨M, hM, hM8⟩ : ∃ M : Nat, q % 9 = M ∧ M ≤ 8 := ⟨(q % 9).toNat, by omega, by omega⟩
    have HM : Hid (q % 9 = M) := hM
    clear hM
    have L1 : Hid (xs.length = len) := l1
    have lw : Wd (xs ++ List.replicate M 0) := wd_append hw (wd_zeros M)
    have A1 := fun v (p : IsWords v (.slice a len cap) xs) (q : IsWords v (.slice b len1 cap1) ys) => nat_add' p hw q gw (by omega) (by omega) _ rfl
    have A2 := fun v a1 c1 (p : IsWords v (.slice a1 (len + M) c1) (xs ++ List.replicate M 0)) (q : IsWords v (.slice b len1 cap1) ys) => nat_add' p lw q gw (by omega) (by omega) (val xs + val ys) (by rw [val_append_zeros])
    have D1 := fun v a1 c1 (p : IsWords v (.slice a1 (len + M) c1) (xs ++ List.replicate M 0)) (q : IsWords v (.slice b len1 cap1) ys) => nat_sub_any p lw q gw (by omega) (val xs) (val ys) (by rw [val_append_zeros]) rfl
    have D2 := fun v (p : IsWords v (.slice a len cap) xs) (q : IsWords v (.slice b len1 cap1) ys) => nat_sub_any p hw q gw (by omega) (val xs) (val ys) rfl rfl
    have B1 := fun v a1 c1 (p : IsWords v (.slice a1 (len + M) c1) (xs ++ List.replicate M 0)) => nat_bits a1 (len + M) c1 _ v p lw (by omega)
    have B2 := fun v (p : IsWords v (.slice a len cap) xs) => nat_bits a len cap xs v p hw (by omega)
    have T := fun v (p : IsWords v (.slice a len cap) xs) => nat_trim a len cap xs v p hw (by omega)
    have A3 := fun v (p : IsWords v (.slice a len cap) xs) => nat_add' (w := v) p hw (b := none) (m := 0) (d := 0) (ys := []) (.inl ⟨rfl, rfl⟩) wd_nil (by omega) (by omega) (val xs) rfl
    rw [val_append_zeros] at B1
    have kX := nl_small hw 40 (by omega)
    generalize val xs + val ys = S at A1 A2
    generalize val xs - val ys = D at D1 D2
    generalize decide (val ys ≤ val xs) = r at D1 D2
    generalize nbits (val xs) = nb at B1 B2
    generalize val xs = X at T A3 kX
    clear hw gw lw l1 l2
    go_enter Try.func8, Try.ntmps8
    go_wp2_with (first
      | (go_at_call 9; refine (nat_awake _).mono ?_; rintro e u0 ⟨rfl, b0⟩)
      | (go_at_call 21; (with_reducible refine Calls.mono (F _) ?_); rintro e v1 ⟨rfl, rfl⟩)
      | (at_builtin; refine wpl_append_words (.tmp 29) (.tmp 30) rfl rfl w _ _ _ 0 len [] xs rfl rfl (own_lit w u0 [] 0 b0 rfl (by decide)) ((P.below b0).below ((Below.refl _ _).alloc (Nat.le_refl _) _)) L1.out len (Nat.zero_add _) (by omega) ?_; intro a1 c1 w1 o1 g1)
      | (at_builtin; refine wpl_append_words (.tmp 32) (.tmp 33) rfl rfl w1 _ _ _ 0 len [] xs rfl rfl (own_lit w1 w1 [] 0 (Below.refl _ _) rfl (by decide)) ((P.below o1.below).below ((Below.refl _ _).alloc (Nat.le_refl _) _)) L1.out len (Nat.zero_add _) (by omega) ?_; intro a2 c2 w2 o2 g2)
      | (at_builtin; refine wpl_append_zeros (.tmp 34) (.tmp 37) rfl rfl w1 _ _ len M xs _ rfl rfl HM.out o2 (len + M) rfl (by omega) ?_; intro a3 c3 w3 o3 g3; have k3 := o1.more o3.below; have p3 := P.below k3.below; have q3 := Q.below k3.below)
      | (go_at_call 26; (with_reducible refine Calls.mono (A1 _ p3 q3) ?_); rintro e w4 ⟨a4, c4, rfl, o4⟩; have b4 := o4.below; have p4 := p3.below b4; have q4 := q3.below b4; have k4 := k3.more b4; have n4 := o3.more b4)
      | (go_at_call 26; (with_reducible refine Calls.mono (A2 _ _ _ n4.words q4) ?_); rintro e w5 ⟨a5, c5, rfl, o5⟩; have b5 := o5.below; have p5 := p4.below b5; have q5 := q4.below b5; have k5 := k4.more b5; have n5 := n4.more b5; have s5 := o4.more b5)
      | (go_at_call 22; (with_reducible refine Calls.mono (D1 _ _ _ n5.words q5) ?_); rintro e w6 ⟨a6, c6, rfl, o6⟩; have b6 := o6.below; have p6 := p5.below b6; have q6 := q5.below b6; have k6 := k5.more b6; have n6 := n5.more b6; have s6 := s5.more b6; have t6 := o5.more b6)
      | (go_at_call 22; (with_reducible refine Calls.mono (D2 _ p6 q6) ?_); rintro e w7 ⟨a7, c7, rfl, o7⟩; have b7 := o7.below; have p7 := p6.below b7; have k7 := k6.more b7; have n7 := n6.more b7; have s7 := s6.more b7; have t7 := t6.more b7; have d7 := o6.more b7)
      | (go_at_call 14; (with_reducible refine Calls.mono (ref_words _ _ _ _ _ _ _ _ _ s7.words t7.words true (by simp)) ?_); rintro e w8 ⟨rfl, b8⟩; have p8 := p7.below b8; have k8 := k7.more b8; have n8 := n7.more b8; have d8 := d7.more b8; have e8 := o7.more b8)
      | (go_at_call 14; (with_reducible refine Calls.mono (ref_words _ _ _ _ _ _ _ _ _ d8.words e8.words true (by simp)) ?_); rintro e w9 ⟨rfl, b9⟩; have p9 := p8.below b9; have k9 := k8.more b9; have n9 := n8.more b9)
      | (go_at_call 19; (with_reducible refine Calls.mono (B1 _ _ _ n9.words) ?_); rintro e v1 ⟨rfl, rfl⟩)
      | (go_at_call 19; (with_reducible refine Calls.mono (B2 _ p9) ?_); rintro e v1 ⟨rfl, rfl⟩)
      | (go_at_call 15; (with_reducible refine Calls.mono (T _ p9) ?_); rintro e w10 ⟨a10, c10, rfl, o10⟩; have p10 := p9.below o10.below)
      | (go_at_call 26; (with_reducible refine Calls.mono (A3 _ p10) ?_); rintro e w11 ⟨a11, c11, rfl, o11⟩; have x11 := o10.more o11.below; have y11 := o11.outer o10.below))
    have hdis : 0 < nl X → ∀ g g', a10 = some ⟨g, 0, none⟩ → a11 = some ⟨g', 0, none⟩ → g' ≠ g := by
      rintro hpos g g' rfl rfl
      have e1 := (o10.cell 0 hpos).2.2.2
      have e2 := (o11.cell 0 hpos).2.2.1
      omega
    have k9' : Own w w9 (.slice a1 len c1) len xs := k9
    clear A1 A2 D1 D2 B1 B2 T A3 F k3 k4 k5 k6 k7 k8 k9 n4 n5 n6 n7 n8 n9 s5 s6 s7 t6 t7 d7 d8 e8 o1 o2 o3 o4 o5 o6 o7 g1 g2 g3 p3 p4 p5 p6 p7 p8 p10 q3 q4 q5 q6 b4 b5 b6 b7 b8 b9 o10 o11 HM Q
    generalize natOf X = ts at x11 y11
    generalize nl X = L at x11 y11 hdis kX
    go_loopw [20] (fun i v => ∃ (k : Nat) (ss : List Int), k ≤ L ∧ i = .int .i64 k ∧ Own w9 v (.slice a10 L c10) L ss ∧ Own w9 v (.slice a11 L c11) L ts) (fun i _ => L - (intOf i).toNat)
    case atStart => exact ⟨0, _, by omega, rfl, x11, y11⟩
    case round =>
      obtain ⟨k, ss, hk, rfl, ox, oy⟩ := hrel
      clear x11 y11
      by_cases hlt : k < L
      · obtain ⟨g, rfl⟩ := ox.at0 (by omega)
        have hne := hdis (by omega) g
        obtain ⟨hc, hf, hg1, -⟩ := ox.cell k hlt
        generalize ss.getD k 0 = z at hc
        clear P p9 k9' hdis
        go_wp2
        go_roundw
        case rel => exact ⟨k + 1, _, by omega, by go_num, ox.set k _, oy.other hg1 (fun g' e => hne g' rfl e) _⟩
        case measure => simp [intOf]; omega
      · clear hdis ox
        go_wp2
        go_loopw [21] (fun i v => ∃ (k : Nat) (ss : List Int), k ≤ L ∧ i = .int .i64 k ∧ Own w9 v (.slice a11 L c11) L ss) (fun i _ => L - (intOf i).toNat)
        case atStart => exact ⟨0, _, by omega, rfl, oy⟩
        case round =>
          obtain ⟨k, ss, hk, rfl, oy⟩ := hrel
          by_cases hlt : k < L
          · obtain ⟨g, rfl⟩ := oy.at0 (by omega)
            obtain ⟨hc, hf, hg1, -⟩ := oy.cell k hlt
            generalize ss.getD k 0 = z at hc
            clear P p9 k9'
            go_wp2
            go_roundw
            case rel => exact ⟨k + 1, _, by omega, by go_num, oy.set k _⟩
            case measure => simp [intOf]; omega
          · have bz := oy.below
            have WW := ref_words _ _ _ _ _ _ _ _ _ (p9.below bz) (k9'.more bz).words true (by simp)
            go_wp2_with (first
              | (go_at_call 14; (with_reducible refine Calls.mono WW ?_); rintro e wz ⟨rfl, bw⟩))
            go_ret
            exact ⟨ret_bool (by simp), below_more (k9'.more bz).below bw⟩
  · have F := fun v => ref_few a len cap b len1 cap1 40 v false (by simpa using hf)
    clear P Q hf
    go_enter Try.func8, Try.ntmps8
    go_wp2_with (first
      | (go_at_call 9; refine (nat_awake _).mono ?_; rintro e u0 ⟨rfl, b0⟩)
      | (go_at_call 21; (with_reducible refine Calls.mono (F _) ?_); rintro e v1 ⟨rfl, rfl⟩))
    go_ret
    exact ⟨rfl, b0⟩
end Go.Proofs.Ytophlnaebmilmaa
