/-
  Contract of package split's function Div, for every two lists of words: what goes in and what is left, as numbers, or that it can't be told. Memory that was there stays, and what is answered is the call's own.
-/
import Derived.Test.YtapfoefeplmgnaaSplitD
import Derived.Test.YtapfoefeplmgnaaTimesD
import Derived.Test.YtapfoefeplmgnaaNatCmp
namespace Go.Proofs.Ytapfoefeplmgnaa
open Go.RowKit

/-- What Div answers: two slices of the call's own, the lists of Q and R. -/
def AnsDiv (W : World) (Q R : Nat) (e : Ending) (w' : World) : Prop := ∃ a1 c1 a2 c2, e = .returned (.tuple #[.slice a1 (nl Q) c1, .slice a2 (nl R) c2, .bool true]) ∧ Own W w' (.slice a1 (nl Q) c1) (nl Q) (natOf Q) ∧ Own W w' (.slice a2 (nl R) c2) (nl R) (natOf R)

theorem pow_le_nl {D n : Nat} (h : nl D = n + 1) : 4294967296 ^ n ≤ D := by
  rcases Nat.lt_or_ge D (4294967296 ^ n) with h1 | h1
  · have := nl_le n D h1; omega
  · exact h1

theorem nl_eq_zero {n : Nat} (h : nl n = 0) : n = 0 := by
  have := lt_nl n
  rw [h] at this
  simpa using this

/-- A quotient's words. -/
theorem quot_lt {A D L n : Nat} (hA : A < 4294967296 ^ L) (hD : nl D = n + 1) (k : Nat) (hk : L ≤ k + n) : A / D < 4294967296 ^ k := by
  have h1 := pow_le_nl hD
  rw [Nat.div_lt_iff_lt_mul (by have : 0 < 4294967296 ^ n := Nat.pow_pos (by omega); omega)]
  have h2 : 4294967296 ^ k * 4294967296 ^ n ≤ 4294967296 ^ k * D := Nat.mul_le_mul_left _ h1
  rw [← Nat.pow_add] at h2
  have h3 : 4294967296 ^ L ≤ 4294967296 ^ (k + n) := Nat.pow_le_pow_right (by omega) hk
  omega

/-- The bits that bring a number's highest one into its word's highest place. -/
theorem up_fits {D n : Nat} (hD : nl D = n + 1) : ∃ u v : Nat, 1 ≤ v ∧ v ≤ 32 ∧ u + v = 32 ∧ nbits ((natOf D).getD n 0).toNat = v ∧ nl (D * 2 ^ u) = n + 1 := by
  have h0 := getD_top D n hD
  obtain ⟨z0, z1⟩ := wd_getD (wd_natOf D) n
  have h1 : nbits ((natOf D).getD n 0).toNat ≤ 32 := nbits_le 32 _ (by omega)
  have h2 : 1 ≤ nbits ((natOf D).getD n 0).toNat := by rw [nbits_pos (by omega)]; omega
  have h3 := nbits_top (natOf D) (wd_natOf D) n (by have := right_nat D; rw [show (natOf D).length = nl D from rfl, this, hD])
  rw [val_natOf] at h3
  refine ⟨32 - nbits ((natOf D).getD n 0).toNat, nbits ((natOf D).getD n 0).toNat, h2, h1, by omega, rfl, ?_⟩
  generalize nbits ((natOf D).getD n 0).toNat = v at *
  have h4 : nl D ≤ nl (D * 2 ^ (32 - v)) := nl_mono (Nat.le_mul_of_pos_right _ (Nat.pow_pos (by omega)))
  have h5 : nl (D * 2 ^ (32 - v)) ≤ n + 1 := by
    refine nl_le _ _ ?_
    have h6 := lt_nbits D
    rw [h3] at h6
    have h7 : D * 2 ^ (32 - v) < 2 ^ (32 * n + v) * 2 ^ (32 - v) := Nat.mul_lt_mul_of_pos_right h6 (Nat.pow_pos (by omega))
    rw [← Nat.pow_add] at h7
    rw [pow_word, show 32 * (n + 1) = 32 * n + v + (32 - v) by omega]
    exact h7
  omega

/-- Two slices of which one was made behind the other. -/
theorem own_apart {V w w' : World} {g n c : Nat} {xs : List Int} {a : Option Addr} {m d : Nat} {ys : List Int} (h : Own V w (.slice (some ⟨g, 0, none⟩) n c) n xs) (k : Own w w' (.slice a m d) m ys) (hn : 0 < n) (hm : 0 < m) : Apart g a := by
  obtain ⟨g', rfl⟩ := k.at0 hm
  have h1 := (h.cell 0 hn).2.2.2
  have h2 := (k.cell 0 hm).2.2.1
  intro x hx
  simp only [Option.some.injEq] at hx
  rw [← hx]
  show g' ≠ g
  omega

theorem div_up (A D k : Nat) (hk : 0 < k) : A * k = A / D * (D * k) + A % D * k ∧ (0 < D → A % D * k < D * k) ∧ A % D * k / k = A % D := by
  refine ⟨?_, fun hD => Nat.mul_lt_mul_of_pos_right (Nat.mod_lt _ hD) hk, Nat.mul_div_cancel _ hk⟩
  rw [← Nat.mul_assoc, ← Nat.add_mul, Nat.mul_comm (A / D), Nat.div_add_mod]

theorem split_div_no (a : Option Addr) (n c : Nat) (zs : List Int) (b : Option Addr) (m d : Nat) (ys : List Int) (w : World) (h : IsWords w (.slice a n c) zs) (hz : Wd zs) (g : IsWords w (.slice b m d) ys) (gz : Wd ys) (h0 : val ys = 0) :
    Calls Try.prog 11 #[.slice a n c, .slice b m d] w fun e w' => e = .returned (.tuple #[.slice none 0 0, .slice none 0 0, .bool false]) ∧ w = w' := by
  have R1 := split_right a n c zs w h hz
  have R2 := split_right b m d ys w g gz
  rw [h0, nl_zero] at R2
  clear h0 h g hz gz
  go_enter Try.func11, Try.ntmps11
  go_wp2_with (first
    | (go_at_call 27; with_reducible refine Calls.mono R1 ?_; rintro e w1 ⟨rfl, rfl⟩)
    | (go_at_call 27; with_reducible refine Calls.mono R2 ?_; rintro e w1 ⟨rfl, rfl⟩))
  go_ret3
  exact ⟨rfl, rfl⟩

theorem split_div_less (a : Option Addr) (n c : Nat) (zs : List Int) (b : Option Addr) (m d : Nat) (ys : List Int) (w : World) (h : IsWords w (.slice a n c) zs) (hz : Wd zs) (g : IsWords w (.slice b m d) ys) (gz : Wd ys) (hn : n ≤ 1000000000000) (hlt : val zs < val ys) :
    Calls Try.prog 11 #[.slice a n c, .slice b m d] w (AnsDiv w 0 (val zs)) := by
  have R1 := split_right a n c zs w h hz
  have R2 := split_right b m d ys w g gz
  have S1 := h.right hz
  have b1 := (h.low hz).2.2
  have C := nat_cmp' S1 (wd_natOf _) (g.right gz) (wd_natOf _) (-1) (by rw [val_natOf, val_natOf]; exact sgn_lt (by omega))
  have T := fun v (q : IsWords v (.slice a (nl (val zs)) c) (natOf (val zs))) => nat_trim _ _ _ _ v q (wd_natOf _) (by omega)
  rw [val_natOf] at T
  have hp : nl (val ys) ≠ 0 := fun e => by have := nl_eq_zero e; omega
  clear h g hz gz hlt
  generalize nl (val zs) = L at *
  generalize nl (val ys) = N at *
  go_enter Try.func11, Try.ntmps11
  go_wp2_with (first
    | (go_at_call 27; with_reducible refine Calls.mono R1 ?_; rintro e w1 ⟨rfl, rfl⟩)
    | (go_at_call 27; with_reducible refine Calls.mono R2 ?_; rintro e w1 ⟨rfl, rfl⟩)
    | (go_at_call 17; (with_reducible refine Calls.mono C ?_); rintro e w1 ⟨rfl, b3⟩; have S3 := S1.below b3)
    | (go_at_call 21; (with_reducible refine Calls.mono (T _ S3) ?_); rintro e w2 ⟨a2, c2, rfl, o2⟩))
  go_ret3
  refine ⟨none, 0, a2, c2, by rw [nl_zero]; rfl, ?_, o2.outer b3⟩
  rw [nl_zero, natOf_zero]
  exact Own.nil (o2.outer b3).below

set_option maxHeartbeats 4000000 in
theorem split_div_more (a : Option Addr) (n c : Nat) (zs : List Int) (b : Option Addr) (m d : Nat) (ys : List Int) (w : World) (h : IsWords w (.slice a n c) zs) (hz : Wd zs) (g : IsWords w (.slice b m d) ys) (gz : Wd ys) (hn : n ≤ 1000000000000) (hle : val ys ≤ val zs) (hpos : 0 < val ys) :
    Calls Try.prog 11 #[.slice a n c, .slice b m d] w (AnsDiv w (val zs / val ys) (val zs % val ys)) := by
  have R1 := split_right a n c zs w h hz
  have R2 := split_right b m d ys w g gz
  have S1 := h.right hz
  have S2 := g.right gz
  have b1 := (h.low hz).2.2
  obtain ⟨cs, C, hcs⟩ : ∃ cs : Int, Calls Try.prog 17 #[.slice a (nl (val zs)) c, .slice b (nl (val ys)) d] w (fun e w' => e = .returned (.int .i64 cs) ∧ Below w.heap.size w w') ∧ 0 ≤ cs := by
    refine ⟨_, nat_cmp' S1 (wd_natOf _) S2 (wd_natOf _) _ rfl, ?_⟩
    rw [val_natOf, val_natOf]
    rcases Nat.lt_or_ge (val ys) (val zs) with h | h
    · rw [sgn_gt (by omega)]; omega
    · rw [sgn_eq (by omega)]; omega
  clear h g hz gz
  generalize val zs = A at *
  generalize val ys = D at *
  have hne : nl D ≠ 0 := fun e => by have := nl_eq_zero e; omega
  obtain ⟨k, hk⟩ : ∃ k, nl D = k + 1 := ⟨nl D - 1, by omega⟩
  obtain ⟨u, v, v1, v2, huv, hnb, hnl⟩ := up_fits hk
  have hmono := nl_mono hle
  have hAL := lt_nl A
  obtain ⟨L, hL⟩ : ∃ L, nl A = L := ⟨_, rfl⟩
  obtain ⟨N, hN⟩ : ∃ N, nl D = N := ⟨_, rfl⟩
  obtain ⟨M, hM⟩ : ∃ M, M = L + 1 := ⟨_, rfl⟩
  obtain ⟨P, hP⟩ : ∃ P : Nat, P = 2 ^ u := ⟨_, rfl⟩
  have hPpos : 0 < P := by rw [hP]; exact Nat.pow_pos (by omega)
  have hP32 : P < 4294967296 := by rw [hP]; exact Nat.pow_lt_pow_right (n := 32) (a := 2) (by omega) (by omega)
  obtain ⟨U1, U2, U3⟩ := div_up A D P hPpos
  have U2 := U2 hpos
  have hQ : A / D < 4294967296 ^ (M - N) := quot_lt (L := L) (by rw [← hL]; exact hAL) hk _ (by omega)
  have hAP : nl (A * P) ≤ M := by
    refine nl_le _ _ ?_
    rw [hM, Nat.pow_succ]
    rw [hL] at hAL
    exact Nat.lt_of_lt_of_le (Nat.mul_lt_mul_of_pos_right hAL hPpos) (Nat.mul_le_mul_left _ (by omega))
  have T1 := fun w' (q : IsWords w' (.slice a L c) (natOf A)) => times_shift a L c (natOf A) u w' q (wd_natOf _) (by omega) u (by omega)
  have T2 := fun w' (q : IsWords w' (.slice b N d) (natOf D)) => times_shift b N d (natOf D) u w' q (wd_natOf _) (by omega) u (by omega)
  rw [val_natOf, Int.toNat_natCast, ← hP] at T1 T2
  rw [← hP] at hnl
  have T3 : ∀ w', IsWords w' (.slice b N d) (natOf D) → Calls Try.prog 29 #[.slice b N d, .int .i64 u] w' fun e w2 => ∃ a' c', e = .returned (.slice a' N c') ∧ Own w' w2 (.slice a' N c') N (natOf (D * P)) := fun w' q => by
    have := T2 w' q
    unfold Ans at this
    rw [hnl, ← hk, hN] at this
    exact this
  have WZ : Wd (natOf (A * P) ++ (List.replicate M 0).drop (nl (A * P))) := wd_append (wd_natOf _) (wd_drop (wd_zeros _) _)
  have VZ : Hid (val (natOf (A * P) ++ (List.replicate M 0).drop (nl (A * P))) = A * P) := by
    show _ = _
    rw [List.drop_replicate, val_append_zeros, val_natOf]
  have DG := fun g' w' ss a' c' (o : Own w w' (.slice (some ⟨g', 0, none⟩) M M) M ss) (wS : Wd ss) (q : IsWords w' (.slice a' N c') (natOf (D * P))) (ha : Apart g' a') (hv : val ss = A * P) =>
    split_digits w g' M k N (M - N) c' ss a' (natOf (D * P)) (A / D) (A % D * P) w' o wS q (wd_natOf _) ha (by omega) (getD_top _ _ hnl) (by omega) (by omega) (by omega) (by rw [hv, val_natOf]; exact U1) (by rw [val_natOf]; exact U2) hQ
  have SM := fun g' w' ss (q : IsWords w' (.slice (some ⟨g', 0, none⟩) M M) ss) (wS : Wd ss) (hv : val ss = A % D * P) (X : Int) (hX : X = P) => split_small _ _ _ ss X w' q wS (by omega) (by omega) (by omega)
  have SV : ∀ (X : Int) (S : Nat), X = P → S = A % D * P → S / X.toNat = A % D := fun X S hX hS => by rw [hX, hS, Int.toNat_natCast]; exact U3
  obtain ⟨z0, z1⟩ := wd_getD (wd_natOf D) k
  rcases S2.reads.1.2 with h0 | ⟨bb, off, rfl, hcz⟩
  · omega
  have hck := hcz k (by omega)
  have BT := fun w' => limb_bits _ w' z0 z1
  rw [nbits_bitLen _ (by omega), hnb] at BT
  generalize (natOf D).getD k 0 = top at hck BT z0 z1
  rw [hL] at R1 S1 C b1 hmono
  rw [hN] at R2 S2 C hk hmono hne
  have HSV : Hid (∀ (X : Int) (S : Nat), X = P → S = A % D * P → S / X.toNat = A % D) := SV
  have eN : (N : Int) - 1 = k := by omega
  have eU : (32 : Int) - v = u := by omega
  have HM : Hid (M = L + 1) := hM
  have XW : Hid ((2 : Int) ^ u % 4294967296 = (P : Int)) := by
    show _ = _
    have e : ((2 ^ u : Nat) : Int) = 2 ^ u := by simp
    rw [← e, ← hP]
    omega
  have HAP : Hid (nl (A * P) ≤ M) := hAP
  have k1 : k < N := by omega
  have u1 : u < 32 := by omega
  have m1 : M ≤ L + 1 := by omega
  have m2 : L + 1 ≤ M := by omega
  have m3 : N ≤ L := by omega
  have nz : 0 < N := by omega
  clear SV U1 U2 U3 hQ hAP hM hP hk hL hN hnl hnb hcz hAL hle hpos hmono huv v1 v2 hPpos hP32
  go_enter Try.func11, Try.ntmps11
  go_wp2_with (first
    | (go_at_call 27; with_reducible refine Calls.mono R1 ?_; rintro e w1 ⟨rfl, rfl⟩)
    | (go_at_call 27; with_reducible refine Calls.mono R2 ?_; rintro e w1 ⟨rfl, rfl⟩)
    | (go_at_call 17; (with_reducible refine Calls.mono C ?_); rintro e w1 ⟨rfl, b3⟩; have S3 := S1.below b3; have S4 := S2.below b3; have hck1 : w1.cell? ⟨bb, off + k, none⟩ = some (.int .u32 top) := (b3.cell (p := ⟨bb, off + k, none⟩) (World.block_lt_of_cell? w _ hck)).trans hck)
    | (go_at_call 28; (with_reducible refine Calls.mono (BT _) ?_); rintro e w2 ⟨rfl, rfl⟩)
    | (at_make; refine wpl_make_words (.tmp 32) rfl rfl w w1 M _ rfl (by omega) (by omega) b3 ?_; intro g' w2 hg o2)
    | (go_at_call 29; (with_reducible refine Calls.mono (T1 _ (S1.below o2.below)) ?_); rintro e w3 ⟨a3, c3, rfl, o3⟩; have p3 := o2.more o3.below)
    | (with_reducible show wpList _ _ _ (Oper.mk _ (Op.call { callee := Callee.builtin Builtin.copy, args := _, argTypes := _ }) _ _ _ _ :: _) _ _; refine wpl_copy_words (.tmp 34) (.tmp 37) rfl rfl w w3 g' M M (nl (A * P)) _ (List.replicate M 0) (natOf (A * P)) p3 o3.words rfl rfl rfl HAP.out ?_; intro w4 o4)
    | (go_at_call 29; (with_reducible refine Calls.mono (T3 _ (S2.below o4.below)) ?_); rintro e w5 ⟨a5, c5, rfl, o5⟩; have p5 := o4.more o5.below; have ap5 := own_apart o4 o5 (by omega) (by omega))
    | (go_at_call 30; (with_reducible refine Calls.mono (DG _ _ _ _ _ p5 WZ o5.words ap5 VZ.out) ?_); rintro e w6 ⟨a6, c6, ss6, rfl, oQ6, oR6, wS6, E6⟩; have HE6 : Hid (val ss6 = A % D * P) := E6; clear E6)
    | (go_at_call 13; (with_reducible refine Calls.mono (SM _ _ _ oR6.words wS6 HE6.out _ XW.out) ?_); rintro e w7 ⟨a7, c7, rfl, o7⟩))
  go_ret3
  have e8 := HSV.out _ _ XW.out HE6.out
  rw [e8] at o7 ⊢
  exact ⟨_, _, _, _, rfl, oQ6.more o7.below, o7.outer oQ6.below⟩

/-- Div, with the numbers named. -/
theorem split_div {a : Option Addr} {n c : Nat} {zs : List Int} {b : Option Addr} {m d : Nat} {ys : List Int} {w : World} (h : IsWords w (.slice a n c) zs) (hz : Wd zs) (g : IsWords w (.slice b m d) ys) (gz : Wd ys) (hn : n ≤ 1000000000000) (A D : Nat) (hA : val zs = A) (hD : val ys = D) (hpos : 0 < D) :
    Calls Try.prog 11 #[.slice a n c, .slice b m d] w (AnsDiv w (A / D) (A % D)) := by
  subst hA hD
  rcases Nat.lt_or_ge (val zs) (val ys) with hlt | hge
  · rw [Nat.div_eq_of_lt hlt, Nat.mod_eq_of_lt hlt]
    exact split_div_less a n c zs b m d ys w h hz g gz hn hlt
  · exact split_div_more a n c zs b m d ys w h hz g gz hn hge hpos
end Go.Proofs.Ytapfoefeplmgnaa
