/-
  Contract of package split's function digits, for every two lists of words, the second one's last word not 0: how often it goes in, and what is left in its place. Nothing older than the caller's turns.
-/
import Derived.Test.YtapfoefeplmgnaaSplitB
import Derived.Test.YtapfoefeplmgnaaSplitC
import Derived.Deep.LoopGhost
namespace Go.Proofs.Ytapfoefeplmgnaa
open Go.RowKit

/-- The first line taken: what is left, with the guess e above the digit. -/
theorem take_first {S S1 d e b P Y q V : Nat} (hS : S = d * (Y * q) + V) (hV : V < Y * q) (h1 : S1 < P) (hb : b ≤ 1) (h : S1 + Y * (d + e) * q = S + b * P) :
    e = 0 ∧ b = 0 ∧ S1 = V ∨ 0 < e ∧ b = 1 ∧ S1 + e * (Y * q) = V + P := by
  have e1 : Y * (d + e) * q = d * (Y * q) + e * (Y * q) := by rw [Nat.mul_comm Y, Nat.mul_assoc, Nat.add_mul]
  rw [e1, hS] at h
  rcases Nat.eq_zero_or_pos e with rfl | he
  · rcases (by omega : b = 0 ∨ b = 1) with rfl | rfl
    · exact .inl ⟨rfl, rfl, by omega⟩
    · omega
  · have h2 : 1 * (Y * q) ≤ e * (Y * q) := Nat.mul_le_mul_right _ he
    rcases (by omega : b = 0 ∨ b = 1) with rfl | rfl
    · omega
    · exact .inr ⟨he, rfl, by omega⟩
/-- One line put back. -/
theorem back_first {S1 S2 e b P p V : Nat} (hV : V < p) (h1 : S1 + (e + 1) * p = V + P) (h2 : S2 + b * P = S1 + p) (hb : b ≤ 1) (h3 : S2 < P) :
    e = 0 ∧ b = 1 ∧ S2 = V ∨ 0 < e ∧ b = 0 ∧ S2 + e * p = V + P := by
  rw [Nat.add_mul, Nat.one_mul] at h1
  rcases Nat.eq_zero_or_pos e with rfl | he
  · rcases (by omega : b = 0 ∨ b = 1) with rfl | rfl
    · omega
    · exact .inl ⟨rfl, rfl, by omega⟩
  · have h2 : 1 * p ≤ e * p := Nat.mul_le_mul_right _ he
    rcases (by omega : b = 0 ∨ b = 1) with rfl | rfl
    · exact .inr ⟨he, rfl, by omega⟩
    · omega

/-- All digits are found. -/
theorem digits_end {A S Y Q R : Nat} (h : A * Y + S = Q * Y + R) (hS : S < Y) (hR : R < Y) : A = Q ∧ S = R := by
  have h1 : (Y * A + S) / Y = (Y * Q + R) / Y := by rw [Nat.mul_comm Y A, Nat.mul_comm Y Q, h]
  rw [Nat.mul_add_div (by omega), Nat.mul_add_div (by omega), Nat.div_eq_of_lt hS, Nat.div_eq_of_lt hR] at h1
  have h2 : A = Q := by omega
  subst h2
  exact ⟨rfl, by omega⟩

theorem getD_top (Y n : Nat) (h : nl Y = n + 1) : (natOf Y).getD n 0 ≠ 0 := by
  have h1 := right_nat Y
  have h2 := lowN_top (natOf Y) (nl Y)
  rw [h1] at h2
  rcases h2 with h2 | h2
  · omega
  · rw [h] at h2; exact h2

theorem IsWords.block {w : World} {a : Option Addr} {n c : Nat} {zs : List Int} (h : IsWords w (.slice a n c) zs) (hn : 0 < n) (x : Addr) (hx : a = some x) : x.block < w.heap.size := by
  rcases h with ⟨e, -⟩ | ⟨y, cap, e, -, -, hc⟩
  · simp only [Value.slice.injEq] at e; omega
  · simp only [Value.slice.injEq] at e
    have h0 := World.block_lt_of_cell? w _ (hc 0 (by omega))
    rw [add_block] at h0
    have : y = x := by have := e.1; rw [hx] at this; simpa using this.symm
    rw [← this]; exact h0

set_option maxHeartbeats 4000000 in
theorem split_digits (W : World) (g M n N L c : Nat) (ss : List Int) (a : Option Addr) (ys : List Int) (Q R : Nat) (w : World) (o : Own W w (.slice (some ⟨g, 0, none⟩) M M) M ss) (wS : Wd ss)
    (h : IsWords w (.slice a N c) ys) (hz : Wd ys) (ha : Apart g a) (hn : N = n + 1) (htop : ys.getD n 0 ≠ 0) (hM : M = L + N) (hL : 0 < L) (hM2 : M ≤ 35184372088832) (hv : val ss = Q * val ys + R) (hR : R < val ys) (hQ : Q < 4294967296 ^ L) :
    Calls Try.prog 30 #[.slice (some ⟨g, 0, none⟩) M M, .slice a N c] w fun e w' => ∃ (a1 : Option Addr) (c1 : Nat) (ss' : List Int), e = .returned (.slice a1 (nl Q) c1) ∧ Own W w' (.slice a1 (nl Q) c1) (nl Q) (natOf Q) ∧
      Own W w' (.slice (some ⟨g, 0, none⟩) M M) M ss' ∧ Wd ss' ∧ val ss' = R := by
  have hgl : g < w.heap.size := (o.cell 0 (by omega)).2.2.2
  have hgW : W.heap.size ≤ g := (o.cell 0 (by omega)).2.2.1
  have hbl := h.block (by omega)
  have hYB : val ys < 4294967296 ^ N := by have := val_lt ys hz; rw [h.len] at this; exact this
  have HN : Hid (N = n + 1) := hn
  have n1 : 1 ≤ N := by omega
  have m1 : L + N ≤ M := by omega
  have m2 : M ≤ L + N := by omega
  have HV : Hid (val ss = Q * val ys + R) := hv
  have HR : Hid (R < val ys) := hR
  have HS : Hid (val ss < val ys * 4294967296 ^ L) := by
    show _ < _
    have h1 : (Q + 1) * val ys ≤ 4294967296 ^ L * val ys := Nat.mul_le_mul_right _ hQ
    rw [Nat.add_mul, Nat.one_mul, Nat.mul_comm (4294967296 ^ L)] at h1
    omega
  have HTOP : Hid (ys.getD n 0 ≠ 0) := htop
  have HYB : Hid (val ys < 4294967296 ^ N) := hYB
  clear hn hv hR hM htop hYB hQ
  have eL : (M : Int) - N = L := by omega
  go_enter Try.func30, Try.ntmps30
  go_wp2
  go_step3
  go_wp2_with (first
    | (at_make; refine wpl_make_words (.tmp 14) rfl rfl w w L _ rfl (by omega) (by omega) (Below.refl _ _) ?_; intro gq w1 hgq o1))
  clear eL
  have hne : g ≠ gq := by omega
  have hAq : Apart gq a := fun x hx => by have := hbl x hx; omega
  have hBq : Apart g (some ⟨gq, 0, none⟩) := fun x hx => by simp only [Option.some.injEq] at hx; rw [← hx]; exact fun e => hne e.symm
  have hCq : Apart gq (some ⟨g, 0, none⟩) := fun x hx => by simp only [Option.some.injEq] at hx; rw [← hx]; exact hne
  have hgq2 : W.heap.size ≤ gq := by have := o.below.size; omega
  have p1 := o.more o1.below
  have q1 := o1.outer o.below
  have h1 := h.below o1.below
  clear o h hbl hgl
  go_step3
  go_wp2
  clear o1
  go_loopg [6] L (fun k i v => ∃ (rs qs : List Int), k ≤ L ∧ i = .int .i64 ((k : Int) - 1) ∧ Own W v (.slice (some ⟨g, 0, none⟩) M M) M rs ∧ Wd rs ∧ Own W v (.slice (some ⟨gq, 0, none⟩) L L) L qs ∧ Wd qs ∧ IsWords v (.slice a N c) ys ∧ Low0 k qs ∧ val rs < val ys * 4294967296 ^ k ∧ val qs * val ys + val rs = Q * val ys + R)
  case atStart => exact ⟨ss, _, by omega, rfl, p1, wS, q1, wd_zeros L, h1, low0_zeros L L, HS.out, by rw [val_zeros, Nat.zero_mul, Nat.zero_add]; exact HV.out⟩
  case round =>
    obtain ⟨rs, qs, hk, rfl, oR, wR, oQ, wQ, hY, hL0, hlt, hI⟩ := hrel
    have HI : Hid (val qs * val ys + val rs = Q * val ys + R) := hI
    have HL : Hid (Low0 gk qs) := hL0
    have HLT : Hid (val rs < val ys * 4294967296 ^ gk) := hlt
    clear hI hL0 hlt p1 q1 h1
    have hql := oQ.length
    cases gk with
    | zero =>
      rw [show ((0 : Nat) : Int) - 1 = -1 from rfl]
      have HE : val qs = Q ∧ val rs = R := digits_end HI.out (by have := HLT.out; simpa using this) HR.out
      have R3 := split_right _ _ _ qs wr oQ.words wQ
      have OR := oQ.right wQ
      rw [HE.1] at R3 OR
      have HE2 : Hid (val rs = R) := HE.2
      clear HE HI HL HLT HV HS HR HTOP HYB
      go_wp2_with (first
        | (go_at_call 27; with_reducible refine Calls.mono R3 ?_; rintro e w2 ⟨rfl, rfl⟩))
      try rw [Exit.noGoto_ret]
      go_ret
      exact ⟨_, _, rs, rfl, OR, oR, wR, HE2.out⟩
    | succ t =>
      rw [show ((t + 1 : Nat) : Int) - 1 = t by omega]
      have hYpos : 0 < val ys := by have := HR.out; omega
      have hp : 0 < val ys * 4294967296 ^ t := Nat.mul_pos hYpos (Nat.pow_pos (by omega))
      obtain ⟨d, V, HD, HVd, hd⟩ : ∃ d V : Nat, Hid (val rs = d * (val ys * 4294967296 ^ t) + V) ∧ Hid (V < val ys * 4294967296 ^ t) ∧ Hid (d < 4294967296) := by
        refine ⟨val rs / (val ys * 4294967296 ^ t), val rs % (val ys * 4294967296 ^ t), ?_, Nat.mod_lt _ hp, ?_⟩
        · show _ = _
          rw [Nat.mul_comm]; exact (Nat.div_add_mod _ _).symm
        · show _ < _
          rw [Nat.div_lt_iff_lt_mul hp]
          have := HLT.out
          rw [Nat.pow_succ] at this
          rw [Nat.mul_comm 4294967296, Nat.mul_assoc]; exact this
      have HF : Hid (val rs < 4294967296 ^ (t + N + 1)) := by
        show _ < _
        have h1 := HLT.out
        have h2 : val ys * 4294967296 ^ (t + 1) ≤ 4294967296 ^ N * 4294967296 ^ (t + 1) := Nat.mul_le_mul_right _ (Nat.le_of_lt HYB.out)
        rw [show t + N + 1 = N + (t + 1) by omega, Nat.pow_add]
        omega
      have GS := fun v C (oo : Own W v (.slice (some ⟨g, 0, none⟩) M M) M rs) (hy : IsWords v (.slice a N c) ys) => split_guess W g M t n N c C rs a ys v oo wR hy hz HN.out (by omega) hM2 HF.out HTOP.out
      have TK := fun v C (G : Int) (g0 : 0 ≤ G) (g1 : G < 4294967296) (oo : Own W v (.slice (some ⟨g, 0, none⟩) M M) M rs) (hy : IsWords v (.slice a N c) ys) => split_take W g M t N c C rs a ys G v oo wR hy hz ha g0 g1 (by omega) hM2 HF.out
      have BK := fun v C rs' (wR' : Wd rs') (hf : val rs' < 4294967296 ^ (t + N + 1)) (oo : Own W v (.slice (some ⟨g, 0, none⟩) M M) M rs') (hy : IsWords v (.slice a N c) ys) => split_back W g M t N c C rs' a ys v oo wR' hy hz ha (by omega) hM2 hf
      have e3 : t + N + 1 - t = N + 1 := by omega
      have htL : t < L := by omega
      have htM : t + N + 1 ≤ M := by omega
      have HDG : Hid (d * val ys * 4294967296 ^ t ≤ val rs) := by
        show _ ≤ _
        rw [HD.out, Nat.mul_assoc]; omega
      clear HLT HF HTOP HYB HS hYpos hp
      go_wp2_with (first
        | (go_at_call 48; (with_reducible refine Calls.mono (GS _ _ oR hY) ?_); rintro e w3 ⟨G, rfl, g0, g1, b3, hG⟩; have oR3 := oR.more b3; have oQ3 := oQ.more b3; have hY3 := hY.below b3; have HG : Hid ((d : Int) ≤ G) := hG d hd.out HDG.out; clear hG GS)
        | (go_at_call 49; (with_reducible refine Calls.mono (TK _ _ G g0 g1 oR3 hY3) ?_); rintro e w4 ⟨b, rs4, hb, rfl, oR4, wR4, bt4, l4, E4⟩; have oQ4 := oQ3.but hBq bt4 oR4.below; have hY4 := hY3.but ha bt4; clear TK))
      clear e3
      obtain ⟨e, HE⟩ : ∃ e : Nat, Hid (G.toNat = d + e) := ⟨G.toNat - d, by show _ = _; have := HG.out; omega⟩
      have HT := take_first (e := e) HD.out HVd.out l4 hb (by have := E4; rw [HE.out] at this; exact this)
      clear E4 oR oQ hY oR3 oQ3 hY3 HG
      go_loopg [8, 9] e (fun k s8 s9 v => ∃ (G2 : Int) (x : Bool) (rs5 : List Int), s8 = .int .u32 G2 ∧ s9 = .bool x ∧ 0 ≤ G2 ∧ G2 < 4294967296 ∧ G2.toNat = d + k ∧ Own W v (.slice (some ⟨g, 0, none⟩) M M) M rs5 ∧ Wd rs5 ∧ Own W v (.slice (some ⟨gq, 0, none⟩) L L) L qs ∧ IsWords v (.slice a N c) ys ∧ val rs5 < 4294967296 ^ (t + N + 1) ∧ (k = 0 ∧ x = false ∧ val rs5 = V ∨ 0 < k ∧ x = true ∧ val rs5 + k * (val ys * 4294967296 ^ t) = V + 4294967296 ^ (t + N + 1)))
      case atStart =>
        refine ⟨G, _, rs4, rfl, rfl, g0, g1, HE.out, oR4, wR4, oQ4, hY4, l4, ?_⟩
        rcases HT with ⟨h1, rfl, h3⟩ | ⟨h1, rfl, h3⟩
        · exact .inl ⟨h1, rfl, h3⟩
        · exact .inr ⟨h1, rfl, h3⟩
      case round =>
        obtain ⟨G2, x, rs5, rfl, rfl, p0, p1, hGk, oR5, wR5, oQ5, hY5, l5, hx⟩ := hrel
        have HGK : Hid (G2.toNat = d + gk) := hGk
        have HL5 : Hid (val rs5 < 4294967296 ^ (t + N + 1)) := l5
        clear hGk l5 HT oR4 oQ4 hY4 l4
        cases gk with
        | zero =>
          obtain ⟨rfl, HX⟩ : x = false ∧ Hid (val rs5 = V) := by
            rcases hx with ⟨-, h1, h2⟩ | ⟨h1, -⟩
            · exact ⟨h1, h2⟩
            · omega
          clear hx BK
          obtain ⟨hc, hf, -, -⟩ := oQ5.cell t htL
          have ES := val_set qs t G2 (by omega)
          rw [HL.out t (by omega)] at ES
          have HN2 : Hid (val (qs.set t G2) * val ys + val rs5 = Q * val ys + R) := by
            show _ = _
            have h1 := HI.out
            have h2 := HGK.out
            rw [HD.out] at h1
            rw [← h1, HX.out, show val (qs.set t G2) = val qs + d * 4294967296 ^ t by rw [h2] at ES; simpa using ES, Nat.add_mul, Nat.mul_assoc d, Nat.mul_comm (4294967296 ^ t)]
            omega
          have WN : Wd (qs.set t G2) := wd_set wQ t p0 p1
          have LN : Hid (Low0 t (qs.set t G2)) := fun j hj => by
            rw [List.getD_eq_getElem?_getD, List.getElem?_set_ne (by omega), ← List.getD_eq_getElem?_getD]
            exact HL.out j (by omega)
          have HLN : Hid (val rs5 < val ys * 4294967296 ^ t) := by show _ < _; rw [HX.out]; exact HVd.out
          have bq := (But.refl gq wr).set t (.int .u32 G2)
          have oQ6 := oQ5.set t G2
          have oR6 := oR5.but hCq bq oQ6.below
          have hY6 := hY5.but hAq bq
          clear ES HI HL HX HD HGK wQ
          go_wp2
          go_roundg t
          case measure => omega
          case rel => exact ⟨rs5, _, by omega, by go_num, oR6, wR5, oQ6, WN, hY6, LN.out, HLN.out, HN2.out⟩
        | succ k =>
          obtain ⟨rfl, HX⟩ : x = true ∧ Hid (val rs5 + (k + 1) * (val ys * 4294967296 ^ t) = V + 4294967296 ^ (t + N + 1)) := by
            rcases hx with ⟨h1, -⟩ | ⟨-, h1, h2⟩
            · omega
            · exact ⟨h1, h2⟩
          have BK5 := fun C => BK _ C rs5 wR5 HL5.out oR5 hY5
          have HG1 : 1 ≤ G2 := by have := HGK.out; omega
          clear hx BK
          go_wp2_with (first
            | (go_at_call 50; (with_reducible refine Calls.mono (BK5 _) ?_); rintro e w6 ⟨b6, rs6, hb6, rfl, oR6, wR6, bt6, l6, E6⟩; have oQ6 := oQ5.but hBq bt6 oR6.below; have hY6 := hY5.but ha bt6; clear BK5))
          go_roundg k
          case measure => omega
          case rel =>
            have HB := back_first HVd.out HX.out E6 hb6 l6
            refine ⟨G2 - 1, _, rs6, by go_num, rfl, by omega, by omega, by have := HGK.out; omega, oR6, wR6, oQ6, hY6, l6, ?_⟩
            rcases HB with ⟨h1, rfl, h3⟩ | ⟨h1, rfl, h3⟩
            · exact .inl ⟨h1, rfl, h3⟩
            · exact .inr ⟨h1, rfl, h3⟩
end Go.Proofs.Ytapfoefeplmgnaa
