/-
  Texts of mine in build order. No conditions of their own.
-/
import Derived.Laws.IdiomStrings
import Derived.Test.YtaeladkcmpdkhaaGreatDoorPack6
set_option maxHeartbeats 4000000
namespace Go.Proofs.YtaeladkcmpdkhaaGreatDoor
section
open Go.RowKit
theorem take_first {S S1 d e b P Y q V : Nat} (hS : S = d * (Y * q) + V) (hV : V < Y * q) (h1 : S1 < P) (hb : b ≤ 1) (h : S1 + Y * (d + e) * q = S + b * P) :
  e = 0 ∧ b = 0 ∧ S1 = V ∨ 0 < e ∧ b = 1 ∧ S1 + e * (Y * q) = V + P := by
 have e1 : Y * (d + e) * q = d * (Y * q) + e * (Y * q) := by rw [Nat.mul_comm Y, Nat.mul_assoc, Nat.add_mul]
 rw [e1, hS] at h
 rcases Nat.eq_zero_or_pos e with rfl | he
 ·rcases (by omega : b = 0 ∨ b = 1) with rfl | rfl
  ·exact .inl ⟨rfl, rfl, by omega⟩
  ·omega
 ·have h2 : 1 * (Y * q) ≤ e * (Y * q) := Nat.mul_le_mul_right _ he
  rcases (by omega : b = 0 ∨ b = 1) with rfl | rfl
  ·omega
  ·exact .inr ⟨he, rfl, by omega⟩
theorem back_first {S1 S2 e b P p V : Nat} (hV : V < p) (h1 : S1 + (e + 1) * p = V + P) (h2 : S2 + b * P = S1 + p) (hb : b ≤ 1) (h3 : S2 < P) :
  e = 0 ∧ b = 1 ∧ S2 = V ∨ 0 < e ∧ b = 0 ∧ S2 + e * p = V + P := by
 rw [Nat.add_mul, Nat.one_mul] at h1
 rcases Nat.eq_zero_or_pos e with rfl | he
 ·rcases (by omega : b = 0 ∨ b = 1) with rfl | rfl
  ·omega
  ·exact .inl ⟨rfl, rfl, by omega⟩
 ·have h2 : 1 * p ≤ e * p := Nat.mul_le_mul_right _ he
  rcases (by omega : b = 0 ∨ b = 1) with rfl | rfl
  ·exact .inr ⟨he, rfl, by omega⟩
  ·omega
theorem digits_end {A S Y Q R : Nat} (h : A * Y + S = Q * Y + R) (hS : S < Y) (hR : R < Y) : A = Q ∧ S = R := by
 have h1 : (Y * A + S) / Y = (Y * Q + R) / Y := by rw [Nat.mul_comm Y A, Nat.mul_comm Y Q, h]
 rw [Nat.mul_add_div (by omega), Nat.mul_add_div (by omega), Nat.div_eq_of_lt hS, Nat.div_eq_of_lt hR] at h1
 have h2 : A = Q := by omega
 subst h2
 exact ⟨rfl, by omega⟩
theorem getD_top (Y n : Nat) (h : nl Y = n + 1) : (natOf Y).getD n 0 ≠ 0 := by
 have h1 := right_nat Y
 have h2 := lowN_top (natOf Y) (nl Y)
 rw [h1] at h2
 rcases h2 with h2 | h2
 ·omega
 ·rw [h] at h2; exact h2
theorem IsWords.block {w : World} {a : Option Addr} {n c : Nat} {zs : List Int} (h : IsWords w (.slice a n c) zs) (hn : 0 < n) (x : Addr) (hx : a = some x) : x.block < w.heap.size := by
 rcases h with ⟨e, -⟩ | ⟨y, cap, e, -, -, hc⟩
 ·simp only [Value.slice.injEq] at e; omega
 ·simp only [Value.slice.injEq] at e
  have h0 := World.block_lt_of_cell? w _ (hc 0 (by omega))
  rw [add_block] at h0
  have : y = x := by have := e.1; rw [hx] at this; simpa using this.symm
  rw [← this]; exact h0
theorem split_digits (W : World) (g M n N L c : Nat) (ss : List Int) (a : Option Addr) (ys : List Int) (Q R : Nat) (w : World) (o : Own W w (.slice (some ⟨g, 0, none⟩) M M) M ss) (wS : Wd ss)
  (h : IsWords w (.slice a N c) ys) (hz : Wd ys) (ha : Apart g a) (hn : N = n + 1) (htop : ys.getD n 0 ≠ 0) (hM : M = L + N) (hL : 0 < L) (hM2 : M ≤ 35184372088832) (hv : val ss = Q * val ys + R) (hR : R < val ys) (hQ : Q < 4294967296 ^ L) :
  Calls Tryz.prog 194 #[.slice (some ⟨g, 0, none⟩) M M, .slice a N c] w fun e w' => ∃ (a1 : Option Addr) (c1 : Nat) (ss' : List Int), e = .returned (.slice a1 (nl Q) c1) ∧ Own W w' (.slice a1 (nl Q) c1) (nl Q) (natOf Q) ∧
   Own W w' (.slice (some ⟨g, 0, none⟩) M M) M ss' ∧ Wd ss' ∧ val ss' = R := by
 have hgl : g < w.heap.size := (o.cell 0 (by omega)).2.2.2
 have hgW : W.heap.size ≤ g := (o.cell 0 (by omega)).2.2.1
 have hbl := h.block (by omega)
 have hYB : val ys < 4294967296 ^ N := by have := val_lt ys hz; rw [h.len] at this; exact this
 have HN : Hid (N = n + 1) := hn
 have n1 : 1 ≤ N := by omega
 have m1 : L + N ≤ M := by omega
 have m2 : M ≤ L + N := by omega
 have HV : Hid (val ss = Q * val ys + R) := hv
 have HR : Hid (R < val ys) := hR
 have HS : Hid (val ss < val ys * 4294967296 ^ L) := by
  show _ < _
  have h1 : (Q + 1) * val ys ≤ 4294967296 ^ L * val ys := Nat.mul_le_mul_right _ hQ
  rw [Nat.add_mul, Nat.one_mul, Nat.mul_comm (4294967296 ^ L)] at h1
  omega
 have HTOP : Hid (ys.getD n 0 ≠ 0) := htop
 have HYB : Hid (val ys < 4294967296 ^ N) := hYB
 clear hn hv hR hM htop hYB hQ
 have eL : (M : Int) - N = L := by omega
 go_enter Tryz.func194, Tryz.ntmps194
 go_wp2
 go_step3
 go_wp2_with (first
  | (at_make; refine wpl_make_words (.tmp 14) rfl rfl w w L _ rfl (by omega) (by omega) (Below.refl _ _) ?_; intro gq w1 hgq o1))
 clear eL
 have hne : g ≠ gq := by omega
 have hAq : Apart gq a := fun x hx => by have := hbl x hx; omega
 have hBq : Apart g (some ⟨gq, 0, none⟩) := fun x hx => by simp only [Option.some.injEq] at hx; rw [← hx]; exact fun e => hne e.symm
 have hCq : Apart gq (some ⟨g, 0, none⟩) := fun x hx => by simp only [Option.some.injEq] at hx; rw [← hx]; exact hne
 have hgq2 : W.heap.size ≤ gq := by have := o.below.size; omega
 have p1 := o.more o1.below
 have q1 := o1.outer o.below
 have h1 := h.below o1.below
 clear o h hbl hgl
 go_step3
 go_wp2
 clear o1
 go_loopg [6] L (fun k i v => ∃ (rs qs : List Int), k ≤ L ∧ i = .int .i64 ((k : Int) - 1) ∧ Own W v (.slice (some ⟨g, 0, none⟩) M M) M rs ∧ Wd rs ∧ Own W v (.slice (some ⟨gq, 0, none⟩) L L) L qs ∧ Wd qs ∧ IsWords v (.slice a N c) ys ∧ Low0 k qs ∧ val rs < val ys * 4294967296 ^ k ∧ val qs * val ys + val rs = Q * val ys + R)
 case atStart => exact ⟨ss, _, by omega, rfl, p1, wS, q1, wd_zeros L, h1, low0_zeros L L, HS.out, by rw [val_zeros, Nat.zero_mul, Nat.zero_add]; exact HV.out⟩
 case round =>
  obtain ⟨rs, qs, hk, rfl, oR, wR, oQ, wQ, hY, hL0, hlt, hI⟩ := hrel
  have HI : Hid (val qs * val ys + val rs = Q * val ys + R) := hI
  have HL : Hid (Low0 gk qs) := hL0
  have HLT : Hid (val rs < val ys * 4294967296 ^ gk) := hlt
  clear hI hL0 hlt p1 q1 h1
  have hql := oQ.length
  cases gk with
  | zero =>
   rw [show ((0 : Nat) : Int) - 1 = -1 from rfl]
   have HE : val qs = Q ∧ val rs = R := digits_end HI.out (by have := HLT.out; simpa using this) HR.out
   have R3 := split_right _ _ _ qs wr oQ.words wQ
   have OR := oQ.right wQ
   rw [HE.1] at R3 OR
   have HE2 : Hid (val rs = R) := HE.2
   clear HE HI HL HLT HV HS HR HTOP HYB
   go_wp2_with (first
    | (go_at_call 172; with_reducible refine Calls.mono R3 ?_; rintro e w2 ⟨rfl, rfl⟩))
   try rw [Exit.noGoto_ret]
   go_ret
   exact ⟨_, _, rs, rfl, OR, oR, wR, HE2.out⟩
  | succ t =>
   rw [show ((t + 1 : Nat) : Int) - 1 = t by omega]
   have hYpos : 0 < val ys := by have := HR.out; omega
   have hp : 0 < val ys * 4294967296 ^ t := Nat.mul_pos hYpos (Nat.pow_pos (by omega))
   obtain ⟨d, V, HD, HVd, hd⟩ : ∃ d V : Nat, Hid (val rs = d * (val ys * 4294967296 ^ t) + V) ∧ Hid (V < val ys * 4294967296 ^ t) ∧ Hid (d < 4294967296) := by
    refine ⟨val rs / (val ys * 4294967296 ^ t), val rs % (val ys * 4294967296 ^ t), ?_, Nat.mod_lt _ hp, ?_⟩
    ·show _ = _
     rw [Nat.mul_comm]; exact (Nat.div_add_mod _ _).symm
    ·show _ < _
     rw [Nat.div_lt_iff_lt_mul hp]
     have := HLT.out
     rw [Nat.pow_succ] at this
     rw [Nat.mul_comm 4294967296, Nat.mul_assoc]; exact this
   have HF : Hid (val rs < 4294967296 ^ (t + N + 1)) := by
    show _ < _
    have h1 := HLT.out
    have h2 : val ys * 4294967296 ^ (t + 1) ≤ 4294967296 ^ N * 4294967296 ^ (t + 1) := Nat.mul_le_mul_right _ (Nat.le_of_lt HYB.out)
    rw [show t + N + 1 = N + (t + 1) by omega, Nat.pow_add]
    omega
   have GS := fun v C (oo : Own W v (.slice (some ⟨g, 0, none⟩) M M) M rs) (hy : IsWords v (.slice a N c) ys) => split_guess W g M t n N c C rs a ys v oo wR hy hz HN.out (by omega) hM2 HF.out HTOP.out
   have TK := fun v C (G : Int) (g0 : 0 ≤ G) (g1 : G < 4294967296) (oo : Own W v (.slice (some ⟨g, 0, none⟩) M M) M rs) (hy : IsWords v (.slice a N c) ys) => split_take W g M t N c C rs a ys G v oo wR hy hz ha g0 g1 (by omega) hM2 HF.out
   have BK := fun v C rs' (wR' : Wd rs') (hf : val rs' < 4294967296 ^ (t + N + 1)) (oo : Own W v (.slice (some ⟨g, 0, none⟩) M M) M rs') (hy : IsWords v (.slice a N c) ys) => split_back W g M t N c C rs' a ys v oo wR' hy hz ha (by omega) hM2 hf
   have e3 : t + N + 1 - t = N + 1 := by omega
   have htL : t < L := by omega
   have htM : t + N + 1 ≤ M := by omega
   have HDG : Hid (d * val ys * 4294967296 ^ t ≤ val rs) := by
    show _ ≤ _
    rw [HD.out, Nat.mul_assoc]; omega
   clear HLT HF HTOP HYB HS hYpos hp
   go_wp2_with (first
    | (go_at_call 212; (with_reducible refine Calls.mono (GS _ _ oR hY) ?_); rintro e w3 ⟨G, rfl, g0, g1, b3, hG⟩; have oR3 := oR.more b3; have oQ3 := oQ.more b3; have hY3 := hY.below b3; have HG : Hid ((d : Int) ≤ G) := hG d hd.out HDG.out; clear hG GS)
    | (go_at_call 213; (with_reducible refine Calls.mono (TK _ _ G g0 g1 oR3 hY3) ?_); rintro e w4 ⟨b, rs4, hb, rfl, oR4, wR4, bt4, l4, E4⟩; have oQ4 := oQ3.but hBq bt4 oR4.below; have hY4 := hY3.but ha bt4; clear TK))
   clear e3
   obtain ⟨e, HE⟩ : ∃ e : Nat, Hid (G.toNat = d + e) := ⟨G.toNat - d, by show _ = _; have := HG.out; omega⟩
   have HT := take_first (e := e) HD.out HVd.out l4 hb (by have := E4; rw [HE.out] at this; exact this)
   clear E4 oR oQ hY oR3 oQ3 hY3 HG
   go_loopg [8, 9] e (fun k s8 s9 v => ∃ (G2 : Int) (x : Bool) (rs5 : List Int), s8 = .int .u32 G2 ∧ s9 = .bool x ∧ 0 ≤ G2 ∧ G2 < 4294967296 ∧ G2.toNat = d + k ∧ Own W v (.slice (some ⟨g, 0, none⟩) M M) M rs5 ∧ Wd rs5 ∧ Own W v (.slice (some ⟨gq, 0, none⟩) L L) L qs ∧ IsWords v (.slice a N c) ys ∧ val rs5 < 4294967296 ^ (t + N + 1) ∧ (k = 0 ∧ x = false ∧ val rs5 = V ∨ 0 < k ∧ x = true ∧ val rs5 + k * (val ys * 4294967296 ^ t) = V + 4294967296 ^ (t + N + 1)))
   case atStart =>
    refine ⟨G, _, rs4, rfl, rfl, g0, g1, HE.out, oR4, wR4, oQ4, hY4, l4, ?_⟩
    rcases HT with ⟨h1, rfl, h3⟩ | ⟨h1, rfl, h3⟩
    ·exact .inl ⟨h1, rfl, h3⟩
    ·exact .inr ⟨h1, rfl, h3⟩
   case round =>
    obtain ⟨G2, x, rs5, rfl, rfl, p0, p1, hGk, oR5, wR5, oQ5, hY5, l5, hx⟩ := hrel
    have HGK : Hid (G2.toNat = d + gk) := hGk
    have HL5 : Hid (val rs5 < 4294967296 ^ (t + N + 1)) := l5
    clear hGk l5 HT oR4 oQ4 hY4 l4
    cases gk with
    | zero =>
     obtain ⟨rfl, HX⟩ : x = false ∧ Hid (val rs5 = V) := by
      rcases hx with ⟨-, h1, h2⟩ | ⟨h1, -⟩
      ·exact ⟨h1, h2⟩
      ·omega
     clear hx BK
     obtain ⟨hc, hf, -, -⟩ := oQ5.cell t htL
     have ES := val_set qs t G2 (by omega)
     rw [HL.out t (by omega)] at ES
     have HN2 : Hid (val (qs.set t G2) * val ys + val rs5 = Q * val ys + R) := by
      show _ = _
      have h1 := HI.out
      have h2 := HGK.out
      rw [HD.out] at h1
      rw [← h1, HX.out, show val (qs.set t G2) = val qs + d * 4294967296 ^ t by rw [h2] at ES; simpa using ES, Nat.add_mul, Nat.mul_assoc d, Nat.mul_comm (4294967296 ^ t)]
      omega
     have WN : Wd (qs.set t G2) := wd_set wQ t p0 p1
     have LN : Hid (Low0 t (qs.set t G2)) := fun j hj => by
      rw [List.getD_eq_getElem?_getD, List.getElem?_set_ne (by omega), ← List.getD_eq_getElem?_getD]
      exact HL.out j (by omega)
     have HLN : Hid (val rs5 < val ys * 4294967296 ^ t) := by show _ < _; rw [HX.out]; exact HVd.out
     have bq := (But.refl gq wr).set t (.int .u32 G2)
     have oQ6 := oQ5.set t G2
     have oR6 := oR5.but hCq bq oQ6.below
     have hY6 := hY5.but hAq bq
     clear ES HI HL HX HD HGK wQ
     go_wp2
     go_roundg t
     case measure => omega
     case rel => exact ⟨rs5, _, by omega, by go_num, oR6, wR5, oQ6, WN, hY6, LN.out, HLN.out, HN2.out⟩
    | succ k =>
     obtain ⟨rfl, HX⟩ : x = true ∧ Hid (val rs5 + (k + 1) * (val ys * 4294967296 ^ t) = V + 4294967296 ^ (t + N + 1)) := by
      rcases hx with ⟨h1, -⟩ | ⟨-, h1, h2⟩
      ·omega
      ·exact ⟨h1, h2⟩
     have BK5 := fun C => BK _ C rs5 wR5 HL5.out oR5 hY5
     have HG1 : 1 ≤ G2 := by have := HGK.out; omega
     clear hx BK
     go_wp2_with (first
      | (go_at_call 214; (with_reducible refine Calls.mono (BK5 _) ?_); rintro e w6 ⟨b6, rs6, hb6, rfl, oR6, wR6, bt6, l6, E6⟩; have oQ6 := oQ5.but hBq bt6 oR6.below; have hY6 := hY5.but ha bt6; clear BK5))
     go_roundg k
     case measure => omega
     case rel =>
      have HB := back_first HVd.out HX.out E6 hb6 l6
      refine ⟨G2 - 1, _, rs6, by go_num, rfl, by omega, by omega, by have := HGK.out; omega, oR6, wR6, oQ6, hY6, l6, ?_⟩
      rcases HB with ⟨h1, rfl, h3⟩ | ⟨h1, rfl, h3⟩
      ·exact .inl ⟨h1, rfl, h3⟩
      ·exact .inr ⟨h1, rfl, h3⟩
end
section
open Go.RowKit
attribute [local go_sem ↓] Go.wp_at_zero Go.wp_at_succ
theorem times_cut' (g M t n : Nat) (T : Int) (w : World) (hT : T = t) (h : t + n + 1 ≤ M) (hM : M ≤ 35184372088832) :
  Calls Tryz.prog 211 #[.slice (some ⟨g, 0, none⟩) M M, .int .i64 T, .int .i64 n] w fun e w' => e = .returned (.slice (some ⟨g, t, none⟩) (n + 1) (n + 1)) ∧ w = w' := by
 subst hT; exact times_cut g M t n w h hM
/-- N is the number of bits that counts. -/
theorem times_shift (a : Option Addr) (n c : Nat) (zs : List Int) (s : Int) (w : World) (h : IsWords w (.slice a n c) zs) (hz : Wd zs) (hn : n ≤ 1000000000000) (N : Int) (hN : s ≤ 0 ∧ N = 0 ∨ 0 ≤ s ∧ s ≤ 100000 ∧ N = s ∨ 100000 ≤ s ∧ N = 100000) :
  Calls Tryz.prog 193 #[.slice a n c, .int .i64 s] w (Ans w (val zs * 2 ^ N.toNat)) := by
 have R1 := times_right a n c zs w h hz
 have S1 := h.right hz
 have b1 := (h.low hz).2.2
 have hv := lt_nl (val zs)
 have wP := wd_natOf (val zs)
 have EV : Hid (val (natOf (val zs)) = val zs) := val_natOf (val zs)
 clear h hz
 generalize val zs = A at *
 generalize nl A = L at R1 S1 b1 hv
 generalize natOf A = ps at S1 wP EV
 have HV : Hid (A < 4294967296 ^ L) := hv
 clear hv
 obtain ⟨p, hp1, hp2⟩ : ∃ p : Nat, (p : Int) ≤ N / 32 ∧ N / 32 ≤ p := ⟨(N / 32).toNat, by omega, by omega⟩
 obtain ⟨r, hr1, hr2⟩ : ∃ r : Nat, (r : Int) ≤ N % 32 ∧ N % 32 ≤ r := ⟨(N % 32).toNat, by omega, by omega⟩
 obtain ⟨M, hM1, hM2⟩ : ∃ M : Nat, M ≤ p + L + 1 ∧ p + L + 1 ≤ M := ⟨_, Nat.le_refl _, Nat.le_refl _⟩
 have r32 : r < 32 := by omega
 have X1 : 2 ^ r < 4294967296 := Nat.pow_lt_pow_right (n := 32) (a := 2) (by omega) r32
 have HE : Hid (A * 2 ^ r * 4294967296 ^ p = A * 2 ^ N.toNat) := by
  show _ = _
  rw [pow_word, Nat.mul_assoc, ← Nat.pow_add]
  congr 2; omega
 have HF : Hid (A * 2 ^ r * 4294967296 ^ p < 4294967296 ^ (p + L + 1)) := by
  have h1 := one_fits (n := L) HV.out X1 (c := 0) (by omega)
  rw [Nat.zero_add] at h1
  rw [show p + L + 1 = (L + 1) + p by omega, Nat.pow_add _ (L + 1) p]
  exact Nat.mul_lt_mul_of_pos_right h1 (Nat.pow_pos (by omega))
 have CT := fun (T : Int) (hT : T = p) g v => times_cut' g M p L T v hT (by omega) (by omega)
 have K := fun g v (X : Int) (hX : X = (2 ^ r : Nat)) (o : Own w v (.slice (some ⟨g, 0, none⟩) M M) M (List.replicate M 0)) => times_line w g M p L c _ a ps X v o (wd_zeros M) S1 wP (by rw [hX]; exact Int.natCast_nonneg _) (by rw [hX]; exact Int.ofNat_lt.2 X1) (by omega) (by omega) (by rw [val_zeros, EV.out, hX, Int.toNat_natCast, Nat.zero_add]; exact HF.out)
 have RR := fun g v (rs : List Int) (o : Own w v (.slice (some ⟨g, 0, none⟩) M M) M rs) (hr : Wd rs) => times_right _ _ _ rs v o.words hr
 rcases (by omega : s < 0 ∧ N = 0 ∨ 0 ≤ s ∧ s ≤ 100000 ∧ N = s ∨ 100000 < s ∧ N = 100000) with ⟨hs, hN⟩ | ⟨hs0, hs1, hN⟩ | ⟨hs, hN⟩
 case' inl => have XW : Hid (IntKind.u32.wrap 1 = (2 ^ r : Nat)) := by show _ = _; rw [show r = 0 by omega]; rfl
 case' inr.inl =>
  have ht : s.tmod 32 = r := by rw [Int.tmod_eq_emod_of_nonneg hs0]; omega
  have XW : Hid (IntKind.u32.wrap (2 ^ r) = (2 ^ r : Nat)) := by
   show _ = _
   have e : ((2 ^ r : Nat) : Int) = 2 ^ r := by simp
   rw [← e, IntKind.wrap_u32]
   generalize 2 ^ r = x at X1 ⊢
   omega
 case' inr.inr => have XW : Hid (IntKind.u32.wrap 1 = (2 ^ r : Nat)) := by show _ = _; rw [show r = 0 by omega]; rfl
 all_goals
  have hN1 : s < 0 ∧ N ≤ 0 ∨ 0 ≤ s ∧ s ≤ 100000 ∧ N ≤ s ∧ s ≤ N ∨ 100000 < s ∧ 100000 ≤ N := by omega
  clear hN
  go_enter Tryz.func193, Tryz.ntmps193
  go_wp2_with (first
   | (go_at_call 209; with_reducible refine Calls.mono R1 ?_; rintro e w1 ⟨rfl, rfl⟩)
   | (at_make; refine wpl_make_words (.tmp 18) rfl rfl w w M _ rfl (by omega) (by omega) (Below.refl _ _) ?_; intro g w1 hg o1))
  go_region_with (first
   | (go_at_call 211; (with_reducible refine Calls.mono (CT _ (by omega) _ _) ?_); rintro e w3 ⟨rfl, rfl⟩)
   | (go_at_call 210; (with_reducible refine Calls.mono (K _ _ _ XW.out o1.drew) ?_); rintro e w4 ⟨rfl, rs, o4, h4, E4⟩; have E5 : Hid (val rs = A * 2 ^ N.toNat) := (by show _ = _; rw [E4, val_zeros, EV.out, XW.out, Int.toNat_natCast, Nat.zero_add]; exact HE.out); clear E4))
  all_goals
   go_wp2_with (first
    | (go_at_call 209; (with_reducible refine Calls.mono (RR _ _ _ o4 h4) ?_); rintro e w5 ⟨rfl, rfl⟩))
   go_ret
   have o6 := o4.right h4
   rw [E5.out] at o6 ⊢
   exact ⟨_, _, rfl, o6⟩
end
section
open Go.RowKit
def AnsDiv (W : World) (Q R : Nat) (e : Ending) (w' : World) : Prop := ∃ a1 c1 a2 c2, e = .returned (.tuple #[.slice a1 (nl Q) c1, .slice a2 (nl R) c2, .bool true]) ∧ Own W w' (.slice a1 (nl Q) c1) (nl Q) (natOf Q) ∧ Own W w' (.slice a2 (nl R) c2) (nl R) (natOf R)
theorem pow_le_nl {D n : Nat} (h : nl D = n + 1) : 4294967296 ^ n ≤ D := by
 rcases Nat.lt_or_ge D (4294967296 ^ n) with h1 | h1
 ·have := nl_le n D h1; omega
 ·exact h1
theorem nl_eq_zero {n : Nat} (h : nl n = 0) : n = 0 := by
 have := lt_nl n
 rw [h] at this
 simpa using this
theorem quot_lt {A D L n : Nat} (hA : A < 4294967296 ^ L) (hD : nl D = n + 1) (k : Nat) (hk : L ≤ k + n) : A / D < 4294967296 ^ k := by
 have h1 := pow_le_nl hD
 rw [Nat.div_lt_iff_lt_mul (by have : 0 < 4294967296 ^ n := Nat.pow_pos (by omega); omega)]
 have h2 : 4294967296 ^ k * 4294967296 ^ n ≤ 4294967296 ^ k * D := Nat.mul_le_mul_left _ h1
 rw [← Nat.pow_add] at h2
 have h3 : 4294967296 ^ L ≤ 4294967296 ^ (k + n) := Nat.pow_le_pow_right (by omega) hk
 omega
theorem up_fits {D n : Nat} (hD : nl D = n + 1) : ∃ u v : Nat, 1 ≤ v ∧ v ≤ 32 ∧ u + v = 32 ∧ nbits ((natOf D).getD n 0).toNat = v ∧ nl (D * 2 ^ u) = n + 1 := by
 have h0 := getD_top D n hD
 obtain ⟨z0, z1⟩ := wd_getD (wd_natOf D) n
 have h1 : nbits ((natOf D).getD n 0).toNat ≤ 32 := nbits_le 32 _ (by omega)
 have h2 : 1 ≤ nbits ((natOf D).getD n 0).toNat := by rw [nbits_pos (by omega)]; omega
 have h3 := nbits_top (natOf D) (wd_natOf D) n (by have := right_nat D; rw [show (natOf D).length = nl D from rfl, this, hD])
 rw [val_natOf] at h3
 refine ⟨32 - nbits ((natOf D).getD n 0).toNat, nbits ((natOf D).getD n 0).toNat, h2, h1, by omega, rfl, ?_⟩
 generalize nbits ((natOf D).getD n 0).toNat = v at *
 have h4 : nl D ≤ nl (D * 2 ^ (32 - v)) := nl_mono (Nat.le_mul_of_pos_right _ (Nat.pow_pos (by omega)))
 have h5 : nl (D * 2 ^ (32 - v)) ≤ n + 1 := by
  refine nl_le _ _ ?_
  have h6 := lt_nbits D
  rw [h3] at h6
  have h7 : D * 2 ^ (32 - v) < 2 ^ (32 * n + v) * 2 ^ (32 - v) := Nat.mul_lt_mul_of_pos_right h6 (Nat.pow_pos (by omega))
  rw [← Nat.pow_add] at h7
  rw [pow_word, show 32 * (n + 1) = 32 * n + v + (32 - v) by omega]
  exact h7
 omega
theorem own_apart {V w w' : World} {g n c : Nat} {xs : List Int} {a : Option Addr} {m d : Nat} {ys : List Int} (h : Own V w (.slice (some ⟨g, 0, none⟩) n c) n xs) (k : Own w w' (.slice a m d) m ys) (hn : 0 < n) (hm : 0 < m) : Apart g a := by
 obtain ⟨g', rfl⟩ := k.at0 hm
 have h1 := (h.cell 0 hn).2.2.2
 have h2 := (k.cell 0 hm).2.2.1
 intro x hx
 simp only [Option.some.injEq] at hx
 rw [← hx]
 show g' ≠ g
 omega
theorem div_up (A D k : Nat) (hk : 0 < k) : A * k = A / D * (D * k) + A % D * k ∧ (0 < D → A % D * k < D * k) ∧ A % D * k / k = A % D := by
 refine ⟨?_, fun hD => Nat.mul_lt_mul_of_pos_right (Nat.mod_lt _ hD) hk, Nat.mul_div_cancel _ hk⟩
 rw [← Nat.mul_assoc, ← Nat.add_mul, Nat.mul_comm (A / D), Nat.div_add_mod]
theorem split_div_no (a : Option Addr) (n c : Nat) (zs : List Int) (b : Option Addr) (m d : Nat) (ys : List Int) (w : World) (h : IsWords w (.slice a n c) zs) (hz : Wd zs) (g : IsWords w (.slice b m d) ys) (gz : Wd ys) (h0 : val ys = 0) :
  Calls Tryz.prog 171 #[.slice a n c, .slice b m d] w fun e w' => e = .returned (.tuple #[.slice none 0 0, .slice none 0 0, .bool false]) ∧ w = w' := by
 have R1 := split_right a n c zs w h hz
 have R2 := split_right b m d ys w g gz
 rw [h0, nl_zero] at R2
 clear h0 h g hz gz
 go_enter Tryz.func171, Tryz.ntmps171
 go_wp2_with (first
  | (go_at_call 172; with_reducible refine Calls.mono R1 ?_; rintro e w1 ⟨rfl, rfl⟩)
  | (go_at_call 172; with_reducible refine Calls.mono R2 ?_; rintro e w1 ⟨rfl, rfl⟩))
 go_ret3
 exact ⟨rfl, rfl⟩
theorem split_div_less (a : Option Addr) (n c : Nat) (zs : List Int) (b : Option Addr) (m d : Nat) (ys : List Int) (w : World) (h : IsWords w (.slice a n c) zs) (hz : Wd zs) (g : IsWords w (.slice b m d) ys) (gz : Wd ys) (hn : n ≤ 1000000000000) (hlt : val zs < val ys) :
  Calls Tryz.prog 171 #[.slice a n c, .slice b m d] w (AnsDiv w 0 (val zs)) := by
 have R1 := split_right a n c zs w h hz
 have R2 := split_right b m d ys w g gz
 have S1 := h.right hz
 have b1 := (h.low hz).2.2
 have C := nat_cmp' S1 (wd_natOf _) (g.right gz) (wd_natOf _) (-1) (by rw [val_natOf, val_natOf]; exact sgn_lt (by omega))
 have T := fun v (q : IsWords v (.slice a (nl (val zs)) c) (natOf (val zs))) => nat_trim _ _ _ _ v q (wd_natOf _) (by omega)
 rw [val_natOf] at T
 have hp : nl (val ys) ≠ 0 := fun e => by have := nl_eq_zero e; omega
 clear h g hz gz hlt
 generalize nl (val zs) = L at *
 generalize nl (val ys) = N at *
 go_enter Tryz.func171, Tryz.ntmps171
 go_wp2_with (first
  | (go_at_call 172; with_reducible refine Calls.mono R1 ?_; rintro e w1 ⟨rfl, rfl⟩)
  | (go_at_call 172; with_reducible refine Calls.mono R2 ?_; rintro e w1 ⟨rfl, rfl⟩)
  | (go_at_call 85; (with_reducible refine Calls.mono C ?_); rintro e w1 ⟨rfl, b3⟩; have S3 := S1.below b3)
  | (go_at_call 141; (with_reducible refine Calls.mono (T _ S3) ?_); rintro e w2 ⟨a2, c2, rfl, o2⟩))
 go_ret3
 refine ⟨none, 0, a2, c2, by rw [nl_zero]; rfl, ?_, o2.outer b3⟩
 rw [nl_zero, natOf_zero]
 exact Own.nil (o2.outer b3).below
theorem split_div_more (a : Option Addr) (n c : Nat) (zs : List Int) (b : Option Addr) (m d : Nat) (ys : List Int) (w : World) (h : IsWords w (.slice a n c) zs) (hz : Wd zs) (g : IsWords w (.slice b m d) ys) (gz : Wd ys) (hn : n ≤ 1000000000000) (hle : val ys ≤ val zs) (hpos : 0 < val ys) :
  Calls Tryz.prog 171 #[.slice a n c, .slice b m d] w (AnsDiv w (val zs / val ys) (val zs % val ys)) := by
 have R1 := split_right a n c zs w h hz
 have R2 := split_right b m d ys w g gz
 have S1 := h.right hz
 have S2 := g.right gz
 have b1 := (h.low hz).2.2
 obtain ⟨cs, C, hcs⟩ : ∃ cs : Int, Calls Tryz.prog 85 #[.slice a (nl (val zs)) c, .slice b (nl (val ys)) d] w (fun e w' => e = .returned (.int .i64 cs) ∧ Below w.heap.size w w') ∧ 0 ≤ cs := by
  refine ⟨_, nat_cmp' S1 (wd_natOf _) S2 (wd_natOf _) _ rfl, ?_⟩
  rw [val_natOf, val_natOf]
  rcases Nat.lt_or_ge (val ys) (val zs) with h | h
  ·rw [sgn_gt (by omega)]; omega
  ·rw [sgn_eq (by omega)]; omega
 clear h g hz gz
 generalize val zs = A at *
 generalize val ys = D at *
 have hne : nl D ≠ 0 := fun e => by have := nl_eq_zero e; omega
 obtain ⟨k, hk⟩ : ∃ k, nl D = k + 1 := ⟨nl D - 1, by omega⟩
 obtain ⟨u, v, v1, v2, huv, hnb, hnl⟩ := up_fits hk
 have hmono := nl_mono hle
 have hAL := lt_nl A
 obtain ⟨L, hL⟩ : ∃ L, nl A = L := ⟨_, rfl⟩
 obtain ⟨N, hN⟩ : ∃ N, nl D = N := ⟨_, rfl⟩
 obtain ⟨M, hM⟩ : ∃ M, M = L + 1 := ⟨_, rfl⟩
 obtain ⟨P, hP⟩ : ∃ P : Nat, P = 2 ^ u := ⟨_, rfl⟩
 have hPpos : 0 < P := by rw [hP]; exact Nat.pow_pos (by omega)
 have hP32 : P < 4294967296 := by rw [hP]; exact Nat.pow_lt_pow_right (n := 32) (a := 2) (by omega) (by omega)
 obtain ⟨U1, U2, U3⟩ := div_up A D P hPpos
 have U2 := U2 hpos
 have hQ : A / D < 4294967296 ^ (M - N) := quot_lt (L := L) (by rw [← hL]; exact hAL) hk _ (by omega)
 have hAP : nl (A * P) ≤ M := by
  refine nl_le _ _ ?_
  rw [hM, Nat.pow_succ]
  rw [hL] at hAL
  exact Nat.lt_of_lt_of_le (Nat.mul_lt_mul_of_pos_right hAL hPpos) (Nat.mul_le_mul_left _ (by omega))
 have T1 := fun w' (q : IsWords w' (.slice a L c) (natOf A)) => times_shift a L c (natOf A) u w' q (wd_natOf _) (by omega) u (by omega)
 have T2 := fun w' (q : IsWords w' (.slice b N d) (natOf D)) => times_shift b N d (natOf D) u w' q (wd_natOf _) (by omega) u (by omega)
 rw [val_natOf, Int.toNat_natCast, ← hP] at T1 T2
 rw [← hP] at hnl
 have T3 : ∀ w', IsWords w' (.slice b N d) (natOf D) → Calls Tryz.prog 193 #[.slice b N d, .int .i64 u] w' fun e w2 => ∃ a' c', e = .returned (.slice a' N c') ∧ Own w' w2 (.slice a' N c') N (natOf (D * P)) := fun w' q => by
  have := T2 w' q
  unfold Ans at this
  rw [hnl, ← hk, hN] at this
  exact this
 have WZ : Wd (natOf (A * P) ++ (List.replicate M 0).drop (nl (A * P))) := wd_append (wd_natOf _) (wd_drop (wd_zeros _) _)
 have VZ : Hid (val (natOf (A * P) ++ (List.replicate M 0).drop (nl (A * P))) = A * P) := by
  show _ = _
  rw [List.drop_replicate, val_append_zeros, val_natOf]
 have DG := fun g' w' ss a' c' (o : Own w w' (.slice (some ⟨g', 0, none⟩) M M) M ss) (wS : Wd ss) (q : IsWords w' (.slice a' N c') (natOf (D * P))) (ha : Apart g' a') (hv : val ss = A * P) =>
  split_digits w g' M k N (M - N) c' ss a' (natOf (D * P)) (A / D) (A % D * P) w' o wS q (wd_natOf _) ha (by omega) (getD_top _ _ hnl) (by omega) (by omega) (by omega) (by rw [hv, val_natOf]; exact U1) (by rw [val_natOf]; exact U2) hQ
 have SM := fun g' w' ss (q : IsWords w' (.slice (some ⟨g', 0, none⟩) M M) ss) (wS : Wd ss) (hv : val ss = A % D * P) (X : Int) (hX : X = P) => split_small _ _ _ ss X w' q wS (by omega) (by omega) (by omega)
 have SV : ∀ (X : Int) (S : Nat), X = P → S = A % D * P → S / X.toNat = A % D := fun X S hX hS => by rw [hX, hS, Int.toNat_natCast]; exact U3
 obtain ⟨z0, z1⟩ := wd_getD (wd_natOf D) k
 rcases S2.reads.1.2 with h0 | ⟨bb, off, rfl, hcz⟩
 ·omega
 have hck := hcz k (by omega)
 have BT := fun w' => limb_bits _ w' z0 z1
 rw [nbits_bitLen _ (by omega), hnb] at BT
 generalize (natOf D).getD k 0 = top at hck BT z0 z1
 rw [hL] at R1 S1 C b1 hmono
 rw [hN] at R2 S2 C hk hmono hne
 have HSV : Hid (∀ (X : Int) (S : Nat), X = P → S = A % D * P → S / X.toNat = A % D) := SV
 have eN : (N : Int) - 1 = k := by omega
 have eU : (32 : Int) - v = u := by omega
 have HM : Hid (M = L + 1) := hM
 have XW : Hid ((2 : Int) ^ u % 4294967296 = (P : Int)) := by
  show _ = _
  have e : ((2 ^ u : Nat) : Int) = 2 ^ u := by simp
  rw [← e, ← hP]
  omega
 have HAP : Hid (nl (A * P) ≤ M) := hAP
 have k1 : k < N := by omega
 have u1 : u < 32 := by omega
 have m1 : M ≤ L + 1 := by omega
 have m2 : L + 1 ≤ M := by omega
 have m3 : N ≤ L := by omega
 have nz : 0 < N := by omega
 clear SV U1 U2 U3 hQ hAP hM hP hk hL hN hnl hnb hcz hAL hle hpos hmono huv v1 v2 hPpos hP32
 go_enter Tryz.func171, Tryz.ntmps171
 go_wp2_with (first
  | (go_at_call 172; with_reducible refine Calls.mono R1 ?_; rintro e w1 ⟨rfl, rfl⟩)
  | (go_at_call 172; with_reducible refine Calls.mono R2 ?_; rintro e w1 ⟨rfl, rfl⟩)
  | (go_at_call 85; (with_reducible refine Calls.mono C ?_); rintro e w1 ⟨rfl, b3⟩; have S3 := S1.below b3; have S4 := S2.below b3; have hck1 : w1.cell? ⟨bb, off + k, none⟩ = some (.int .u32 top) := (b3.cell (p := ⟨bb, off + k, none⟩) (World.block_lt_of_cell? w _ hck)).trans hck)
  | (go_at_call 169; (with_reducible refine Calls.mono (BT _) ?_); rintro e w2 ⟨rfl, rfl⟩)
  | (at_make; refine wpl_make_words (.tmp 32) rfl rfl w w1 M _ rfl (by omega) (by omega) b3 ?_; intro g' w2 hg o2)
  | (go_at_call 193; (with_reducible refine Calls.mono (T1 _ (S1.below o2.below)) ?_); rintro e w3 ⟨a3, c3, rfl, o3⟩; have p3 := o2.more o3.below)
  | (with_reducible show wpList _ _ _ (Oper.mk _ (Op.call { callee := Callee.builtin Builtin.copy, args := _, argTypes := _ }) _ _ _ _ :: _) _ _; refine wpl_copy_words (.tmp 34) (.tmp 37) rfl rfl w w3 g' M M (nl (A * P)) _ (List.replicate M 0) (natOf (A * P)) p3 o3.words rfl rfl rfl HAP.out ?_; intro w4 o4)
  | (go_at_call 193; (with_reducible refine Calls.mono (T3 _ (S2.below o4.below)) ?_); rintro e w5 ⟨a5, c5, rfl, o5⟩; have p5 := o4.more o5.below; have ap5 := own_apart o4 o5 (by omega) (by omega))
  | (go_at_call 194; (with_reducible refine Calls.mono (DG _ _ _ _ _ p5 WZ o5.words ap5 VZ.out) ?_); rintro e w6 ⟨a6, c6, ss6, rfl, oQ6, oR6, wS6, E6⟩; have HE6 : Hid (val ss6 = A % D * P) := E6; clear E6)
  | (go_at_call 146; (with_reducible refine Calls.mono (SM _ _ _ oR6.words wS6 HE6.out _ XW.out) ?_); rintro e w7 ⟨a7, c7, rfl, o7⟩))
 go_ret3
 have e8 := HSV.out _ _ XW.out HE6.out
 rw [e8] at o7 ⊢
 exact ⟨_, _, _, _, rfl, oQ6.more o7.below, o7.outer oQ6.below⟩
theorem split_div {a : Option Addr} {n c : Nat} {zs : List Int} {b : Option Addr} {m d : Nat} {ys : List Int} {w : World} (h : IsWords w (.slice a n c) zs) (hz : Wd zs) (g : IsWords w (.slice b m d) ys) (gz : Wd ys) (hn : n ≤ 1000000000000) (A D : Nat) (hA : val zs = A) (hD : val ys = D) (hpos : 0 < D) :
  Calls Tryz.prog 171 #[.slice a n c, .slice b m d] w (AnsDiv w (A / D) (A % D)) := by
 subst hA hD
 rcases Nat.lt_or_ge (val zs) (val ys) with hlt | hge
 ·rw [Nat.div_eq_of_lt hlt, Nat.mod_eq_of_lt hlt]
  exact split_div_less a n c zs b m d ys w h hz g gz hn hlt
 ·exact split_div_more a n c zs b m d ys w h hz g gz hn hge hpos
end
section
open Go.RowKit
theorem times_one' {a : Option Addr} {n c : Nat} {zs : List Int} {x y : Int} {w : World} (h : IsWords w (.slice a n c) zs) (hz : Wd zs) (hn : n ≤ 1000000000000) (x0 : 0 ≤ x) (x1 : x < 4294967296) (y0 : 0 ≤ y) (y1 : y < 4294967296) (N : Nat) (hN : val zs * x.toNat + y.toNat = N) :
  Calls Tryz.prog 221 #[.slice a n c, .int .u32 x, .int .u32 y] w (Ans w N) := by
 subst hN; exact times_one a n c zs x y w h hz hn x0 x1 y0 y1
theorem nat_bits' {a : Option Addr} {n c : Nat} {zs : List Int} {w : World} (h : IsWords w (.slice a n c) zs) (hz : Wd zs) (hn : n ≤ 35184372088832) (N : Int) (hN : (nbits (val zs) : Int) = N) :
  Calls Tryz.prog 137 #[.slice a n c] w fun e w' => e = .returned (.int .i64 N) ∧ w = w' := by
 rw [← hN]; exact nat_bits a n c zs w h hz hn
theorem nat_trim' {a : Option Addr} {n c : Nat} {zs : List Int} {w : World} (h : IsWords w (.slice a n c) zs) (hz : Wd zs) (hn : n ≤ 35184372088832) (N : Nat) (hN : val zs = N) :
  Calls Tryz.prog 141 #[.slice a n c] w (Ans w N) := by
 rw [← hN]; exact nat_trim a n c zs w h hz hn
end
section
open Go.RowKit
def AnsDivB (W : World) (Q R : Nat) (r : Bool) (e : Ending) (w' : World) : Prop := ∃ a1 c1 a2 c2, e = .returned (.tuple #[.slice a1 (nl Q) c1, .slice a2 (nl R) c2, .bool r]) ∧ Own W w' (.slice a1 (nl Q) c1) (nl Q) (natOf Q) ∧ Own W w' (.slice a2 (nl R) c2) (nl R) (natOf R)
def rest (A D : Nat) : Nat := if D = 0 then 0 else A % D
theorem nil_nl {W w : World} (h : Below W.heap.size W w) : Own W w (.slice none (nl 0) 0) (nl 0) (natOf 0) := by
 rw [nl_zero, natOf_zero]; exact Own.nil h
theorem split_div_any {a : Option Addr} {n c : Nat} {zs : List Int} {b : Option Addr} {m d : Nat} {ys : List Int} {w : World} (h : IsWords w (.slice a n c) zs) (hz : Wd zs) (g : IsWords w (.slice b m d) ys) (gz : Wd ys) (hn : n ≤ 1000000000000) (A D : Nat) (hA : val zs = A) (hD : val ys = D) :
  Calls Tryz.prog 171 #[.slice a n c, .slice b m d] w (AnsDivB w (A / D) (rest A D) (decide (0 < D))) := by
 rcases Nat.eq_zero_or_pos D with h0 | h0
 ·subst h0
  refine (split_div_no a n c zs b m d ys w h hz g gz hD).mono ?_
  rintro e w1 ⟨rfl, rfl⟩
  rw [Nat.div_zero, show rest A 0 = 0 from rfl]
  exact ⟨none, 0, none, 0, by rw [nl_zero]; rfl, nil_nl (Below.refl _ _), nil_nl (Below.refl _ _)⟩
 ·have e : rest A D = A % D := if_neg (by omega)
  rw [e, show decide (0 < D) = true from decide_eq_true h0]
  exact split_div h hz g gz hn A D hA hD h0
end
section
open Go.RowKit
def iv (s : Bool) (m : Nat) : Int := if s then -(m : Int) else m
def AnsI (W : World) (z : Int) (e : Ending) (w' : World) : Prop :=
 ∃ a c, e = .returned (.agg #[.bool (decide (z < 0)), .slice a (nl z.natAbs) c]) ∧ Own W w' (.slice a (nl z.natAbs) c) (nl z.natAbs) (natOf z.natAbs)
theorem iv_abs (s : Bool) (m : Nat) : (iv s m).natAbs = m := by unfold iv; split <;> simp
theorem iv_neg (s : Bool) (m : Nat) : decide (iv s m < 0) = (s && decide (0 < m)) := by
 unfold iv; cases s <;> simp <;> omega
end
section
theorem snoc_ind {α : Type} {p : List α → Prop} (h0 : p []) (h1 : ∀ l a, p l → p (l ++ [a])) (l : List α) : p l := by
 rw [← List.reverse_reverse l]
 induction l.reverse with
 | nil => exact h0
 | cons a m ih => rw [List.reverse_cons]; exact h1 _ _ ih
def dg (n : Nat) : List UInt8 := if n = 0 then [] else dg (n / 10) ++ [UInt8.ofNat (48 + n % 10)]
def decOf (n : Nat) : List UInt8 := if n = 0 then [48] else dg n
def valD (l : List UInt8) : Nat := l.foldl (fun a c => 10 * a + (c.toNat - 48)) 0
abbrev DigS (l : List UInt8) : Prop := ∀ c ∈ l, 48 ≤ c.toNat ∧ c.toNat ≤ 57
abbrev Num (l : List UInt8) : Prop := l ≠ [] ∧ DigS l ∧ (l.head? = some 48 → l.length ≤ 1)
theorem dg_zero : dg 0 = [] := by unfold dg; simp
theorem dg_pos {n : Nat} (h : 0 < n) : dg n = dg (n / 10) ++ [UInt8.ofNat (48 + n % 10)] := by
 conv => lhs; unfold dg
 rw [if_neg (by omega)]
theorem decOf_zero : decOf 0 = [48] := rfl
theorem decOf_pos {n : Nat} (h : 0 < n) : decOf n = dg n := if_neg (by omega)
theorem digit_nat (n : Nat) : (UInt8.ofNat (48 + n % 10)).toNat = 48 + n % 10 := by
 simp; omega
theorem valD_nil : valD [] = 0 := rfl
theorem valD_snoc (l : List UInt8) (c : UInt8) : valD (l ++ [c]) = 10 * valD l + (c.toNat - 48) := by
 unfold valD; rw [List.foldl_append]; rfl
theorem valD_append (l m : List UInt8) : valD (l ++ m) = valD l * 10 ^ m.length + valD m := by
 refine snoc_ind (p := fun m => valD (l ++ m) = valD l * 10 ^ m.length + valD m) ?_ ?_ m
 ·simp [valD_nil]
 ·intro m c ih
  rw [← List.append_assoc, valD_snoc, ih, valD_snoc, List.length_append, List.length_singleton, Nat.pow_succ]; grind
theorem valD_one (c : UInt8) : valD [c] = c.toNat - 48 := by rw [← List.nil_append [c], valD_snoc, valD_nil]; omega
theorem valD_cons (c : UInt8) (l : List UInt8) : valD (c :: l) = (c.toNat - 48) * 10 ^ l.length + valD l := by
 rw [show c :: l = [c] ++ l from rfl, valD_append, valD_one]
theorem valD_dg (n : Nat) : valD (dg n) = n := by
 induction n using Nat.strongRecOn with
 | ind n ih =>
  rcases Nat.eq_zero_or_pos n with rfl | h
  ·rw [dg_zero]; rfl
  ·rw [dg_pos h, valD_snoc, ih _ (by omega), digit_nat]; omega
theorem valD_decOf (n : Nat) : valD (decOf n) = n := by
 rcases Nat.eq_zero_or_pos n with rfl | h
 ·rfl
 ·rw [decOf_pos h, valD_dg]
theorem digS_append {l m : List UInt8} : DigS (l ++ m) ↔ DigS l ∧ DigS m := by
 unfold DigS; simp only [List.mem_append]
 exact ⟨fun h => ⟨fun c hc => h c (.inl hc), fun c hc => h c (.inr hc)⟩, fun h c hc => hc.elim (h.1 c) (h.2 c)⟩
theorem digS_one {c : UInt8} : DigS [c] ↔ 48 ≤ c.toNat ∧ c.toNat ≤ 57 := by unfold DigS; simp
theorem digS_cons {c : UInt8} {l : List UInt8} : DigS (c :: l) ↔ (48 ≤ c.toNat ∧ c.toNat ≤ 57) ∧ DigS l := by
 rw [show c :: l = [c] ++ l from rfl, digS_append, digS_one]
theorem digS_dg (n : Nat) : DigS (dg n) := by
 induction n using Nat.strongRecOn with
 | ind n ih =>
  rcases Nat.eq_zero_or_pos n with rfl | h
  ·rw [dg_zero]; intro c hc; cases hc
  ·rw [dg_pos h, digS_append, digS_one, digit_nat]; exact ⟨ih _ (by omega), by omega⟩
theorem digS_decOf (n : Nat) : DigS (decOf n) := by
 rcases Nat.eq_zero_or_pos n with rfl | h
 ·rw [decOf_zero, digS_one]; decide
 ·rw [decOf_pos h]; exact digS_dg n
theorem dg_ne {n : Nat} (h : 0 < n) : dg n ≠ [] := by rw [dg_pos h]; simp
theorem decOf_ne (n : Nat) : decOf n ≠ [] := by
 rcases Nat.eq_zero_or_pos n with rfl | h
 ·rw [decOf_zero]; simp
 ·rw [decOf_pos h]; exact dg_ne h
theorem head_append {l m : List UInt8} (h : l ≠ []) : (l ++ m).head? = l.head? := by
 cases l with
 | nil => exact absurd rfl h
 | cons a l => rfl
theorem dg_head (n : Nat) : (dg n).head? ≠ some 48 := by
 induction n using Nat.strongRecOn with
 | ind n ih =>
  rcases Nat.eq_zero_or_pos n with rfl | h
  ·rw [dg_zero]; simp
  ·rw [dg_pos h]
   rcases Nat.eq_zero_or_pos (n / 10) with h0 | h0
   ·rw [h0, dg_zero, List.nil_append, List.head?_cons]
    intro e
    have e2 := congrArg UInt8.toNat (Option.some.inj e)
    rw [digit_nat] at e2
    have : (48 : UInt8).toNat = 48 := rfl
    omega
   ·rw [head_append (dg_ne h0)]; exact ih _ (by omega)
theorem num_decOf (n : Nat) : Num (decOf n) := by
 refine ⟨decOf_ne n, digS_decOf n, fun h => ?_⟩
 rcases Nat.eq_zero_or_pos n with rfl | h0
 ·simp [decOf_zero]
 ·rw [decOf_pos h0] at h; exact absurd h (dg_head n)
theorem ofNat_digit {c : UInt8} (h : 48 ≤ c.toNat) : UInt8.ofNat (48 + (c.toNat - 48)) = c := by
 rw [show 48 + (c.toNat - 48) = c.toNat by omega]; simp
theorem dg_valD {l : List UInt8} (h : DigS l) (h0 : l.head? ≠ some 48) : dg (valD l) = l := by
 revert h h0
 refine snoc_ind (p := fun l => DigS l → l.head? ≠ some 48 → dg (valD l) = l) ?_ ?_ l
 ·intro _ _; rw [valD_nil, dg_zero]
 ·intro l c ih h h0
  obtain ⟨h1, h2⟩ := digS_append.1 h
  rw [digS_one] at h2
  rw [valD_snoc]
  have hp : 0 < 10 * valD l + (c.toNat - 48) := by
   rcases Nat.eq_zero_or_pos (10 * valD l + (c.toNat - 48)) with e | e
   ·have e1 : valD l = 0 := by omega
    have e2 : c = 48 := by
     have : c.toNat = 48 := by omega
     exact UInt8.toNat_inj.1 this
    by_cases hl : l = []
    ·rw [hl, e2] at h0; simp at h0
    ·rw [head_append hl] at h0
     have := ih h1 h0
     rw [e1, dg_zero] at this
     exact absurd this.symm hl
   ·exact e
  rw [dg_pos hp, show (10 * valD l + (c.toNat - 48)) / 10 = valD l by omega, show (10 * valD l + (c.toNat - 48)) % 10 = c.toNat - 48 by omega, ofNat_digit h2.1]
  by_cases hl : l = []
  ·rw [hl, valD_nil, dg_zero]
  ·rw [head_append hl] at h0; rw [ih h1 h0]
theorem decOf_valD {l : List UInt8} (h : Num l) : decOf (valD l) = l := by
 obtain ⟨h1, h2, h3⟩ := h
 by_cases h0 : l.head? = some 48
 ·have hl := h3 h0
  match l, h1, h0, hl with
  | [c], _, h0, _ => simp at h0; subst h0; rfl
 ·have e := dg_valD h2 h0
  rw [decOf_pos ?_]
  ·exact e
  ·rcases Nat.eq_zero_or_pos (valD l) with e2 | e2
   ·rw [e2, dg_zero] at e; exact absurd e.symm h1
   ·exact e2
theorem valD_lt {l : List UInt8} (h : DigS l) : valD l < 10 ^ l.length := by
 revert h
 refine snoc_ind (p := fun l => DigS l → valD l < 10 ^ l.length) ?_ ?_ l
 ·intro _; simp [valD_nil]
 ·intro l c ih h
  obtain ⟨h1, h2⟩ := digS_append.1 h
  rw [digS_one] at h2
  have := ih h1
  rw [valD_snoc, List.length_append, List.length_singleton, Nat.pow_succ]
  omega
theorem lt_decOf (n : Nat) : n < 10 ^ (decOf n).length := by
 have := valD_lt (digS_decOf n)
 rwa [valD_decOf] at this
theorem dg_len_le {n k : Nat} (h : n < 10 ^ k) : (dg n).length ≤ k := by
  induction k generalizing n with
  | zero => rw [Nat.pow_zero] at h; obtain rfl : n = 0 := by omega
            rw [dg_zero]; simp
  | succ k ih =>
    rcases Nat.eq_zero_or_pos n with rfl | h0
    · rw [dg_zero]; simp
    · rw [dg_pos h0, List.length_append, List.length_singleton]
      have := ih (n := n / 10) (by rw [Nat.pow_succ] at h; omega)
      omega
theorem decOf_len_le {n k : Nat} (h : n < 10 ^ k) (hk : 1 ≤ k) : (decOf n).length ≤ k := by
 rcases Nat.eq_zero_or_pos n with rfl | h0
 ·simpa [decOf_zero] using hk
 ·rw [decOf_pos h0]; exact dg_len_le h
theorem decOf_len_pos (n : Nat) : 1 ≤ (decOf n).length := by
 have := List.length_pos_iff.2 (decOf_ne n); omega
theorem decOf_len_mono {n m : Nat} (h : n ≤ m) : (decOf n).length ≤ (decOf m).length :=
 decOf_len_le (Nat.lt_of_le_of_lt h (lt_decOf m)) (decOf_len_pos m)
end
section
open Go.RowKit
theorem dg_words (N : Nat) : (dg N).length ≤ 10 * nl N := by
 refine dg_len_le ?_
 have h := lt_nl N
 have h2 : 4294967296 ^ nl N ≤ (10 ^ 10) ^ nl N := Nat.pow_le_pow_left (by decide) _
 rw [← Nat.pow_mul] at h2
 omega
def pnum (l : List UInt8) : Nat := if l.length ≤ 1000 ∧ Num l then valD l else 0
def perr (l : List UInt8) : Int := if 1000 < l.length then 4 else if Num l then 0 else 2
def AnsP (W : World) (N : Nat) (E : Int) (e : Ending) (w' : World) : Prop := ∃ a c, e = .returned (.tuple #[.slice a (nl N) c, .int .i64 E]) ∧ Own W w' (.slice a (nl N) c) (nl N) (natOf N)
theorem ansP_no {W w' : World} {E : Int} (h : Below W.heap.size W w') : AnsP W 0 E (.returned (.tuple #[.slice none 0 0, .int .i64 E])) w' :=
 ⟨none, 0, by rw [nl_zero], by rw [nl_zero, natOf_zero]; exact Own.nil h⟩
theorem pnum_long {l : List UInt8} (h : 1000 < l.length) : pnum l = 0 := if_neg (by omega)
theorem perr_long {l : List UInt8} (h : 1000 < l.length) : perr l = 4 := if_pos h
theorem pnum_no {l : List UInt8} (h : ¬ Num l) : pnum l = 0 := if_neg (by rintro ⟨-, e⟩; exact h e)
theorem perr_no {l : List UInt8} (h1 : l.length ≤ 1000) (h : ¬ Num l) : perr l = 2 := by unfold perr; rw [if_neg (by omega), if_neg h]
theorem pnum_ok {l : List UInt8} (h1 : l.length ≤ 1000) (h : Num l) : pnum l = valD l := if_pos ⟨h1, h⟩
theorem perr_ok {l : List UInt8} (h1 : l.length ≤ 1000) (h : Num l) : perr l = 0 := by unfold perr; rw [if_neg (by omega), if_pos h]
theorem drop_byte (s : ByteArray) (t : Nat) (h : t < s.size) : s.data.toList.drop t = s[t] :: s.data.toList.drop (t + 1) := by
 rw [List.drop_eq_getElem_cons (by simpa using h)]; rfl
theorem nl_ten (j : Nat) : nl (10 ^ j) ≤ j + 1 := by
 refine nl_le _ _ ?_
 have h : (10 : Nat) ^ j ≤ 4294967296 ^ j := Nat.pow_le_pow_left (by omega) j
 have h2 : (4294967296 : Nat) ^ j < 4294967296 ^ (j + 1) := Nat.pow_lt_pow_right (by omega) (by omega)
 omega
theorem nl_digits {l : List UInt8} (h : DigS l) : nl (valD l) ≤ l.length + 1 := Nat.le_trans (nl_mono (Nat.le_of_lt (valD_lt h))) (nl_ten _)
theorem decOf_words {A n : Nat} (h : nl A ≤ n) (hn : 1 ≤ n) : (decOf A).length ≤ 10 * n := by
 rcases Nat.eq_zero_or_pos A with rfl | h0
 ·rw [decOf_zero]; simp; omega
 ·rw [decOf_pos h0]; have := dg_words A; omega
theorem mk_data (s : ByteArray) : ByteArray.mk s.data.toList.toArray = s := by cases s; simp
end
end Go.Proofs.YtaeladkcmpdkhaaGreatDoor
