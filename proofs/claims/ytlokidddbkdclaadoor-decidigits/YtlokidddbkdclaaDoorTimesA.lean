/-
  Contracts of package times's functions right, cut and addLine, for every list of words: where a line of a product goes, and what adding it does to the number in those words; memory older than the caller's stays.
-/
import Derived.Test.YtlokidddbkdclaaDoorNatB
namespace Go.Proofs.YtlokidddbkdclaaDoor
open Go.RowKit

theorem times_right0 (a : Option Addr) (n c : Nat) (zs : List Int) (w : World) (h : IsWords w (.slice a n c) zs) (L : Nat) (hL : lowN zs n = L) :
    Calls Tryd.prog 37 #[.slice a n c] w fun e w' => e = .returned (.slice a L c) ∧ w = w' := by
  have hle : L ≤ n := by rw [← hL]; exact lowN_le _ _
  have hcap := h.cap
  have C := limb_low_words a n c zs w h
  rw [hL] at C
  have h1 : (0 : Int) ≤ L := by omega
  have h2 : (L : Int) ≤ c := by omega
  have hs : a = none → L = 0 ∧ c = 0 := by
    rintro rfl
    rcases h with ⟨e, rfl⟩ | ⟨x, cap, e, -⟩
    · simp only [Value.slice.injEq] at e; omega
    · simp at e
  clear h hL
  rcases a with _ | x
  · obtain ⟨rfl, rfl⟩ := hs rfl
    go_enter Tryd.func37, Tryd.ntmps37
    go_wp2_with (go_at_call 35; with_reducible refine Calls.mono C ?_; rintro e w1 ⟨rfl, rfl⟩)
    go_ret
    exact ⟨rfl, rfl⟩
  · clear hs
    go_enter Tryd.func37, Tryd.ntmps37
    go_wp2_with (go_at_call 35; with_reducible refine Calls.mono C ?_; rintro e w1 ⟨rfl, rfl⟩)
    go_ret
    exact ⟨rfl, rfl⟩

/-- right, in numbers. -/
theorem times_right (a : Option Addr) (n c : Nat) (zs : List Int) (w : World) (h : IsWords w (.slice a n c) zs) (hz : Wd zs) :
    Calls Tryd.prog 37 #[.slice a n c] w fun e w' => e = .returned (.slice a (nl (val zs)) c) ∧ w = w' :=
  times_right0 a n c zs w h _ (h.low hz).1

theorem ret_slice {a : Option Addr} {n m : Nat} (h : n = m) : Ending.returned (.slice a n n) = .returned (.slice a m m) := by rw [h]

/-- cut, with three indices: a line's words, and no room behind them. -/
theorem times_cut (g M t n : Nat) (w : World) (h : t + n + 1 ≤ M) (hM : M ≤ 35184372088832) :
    Calls Tryd.prog 44 #[.slice (some ⟨g, 0, none⟩) M M, .int .i64 t, .int .i64 n] w fun e w' => e = .returned (.slice (some ⟨g, t, none⟩) (n + 1) (n + 1)) ∧ w = w' := by
  have e1 : (t : Int) + n + 1 - t = (n + 1 : Nat) := by omega
  have e2 : ((t : Int) + n + 1 - t).toNat = n + 1 := by omega
  go_enter Tryd.func44, Tryd.ntmps44
  go_wp2
  go_ret
  exact ⟨ret_slice (by omega), rfl⟩

/-- One word's step of a line. -/
theorem line_step {p q r S S' V A x z s y c c' : Nat} (hp : p = q * r) (hs : S' + s * p = S + y * p) (hi : S + c * p = V + A * x * q) (hy : y + 4294967296 * c' = z * x + s + c) :
    S' + c' * (p * 4294967296) = V + (A + z * r) * x * q := by
  have e : (y + 4294967296 * c') * p = (z * x + s + c) * p := by rw [hy]
  rw [Nat.add_mul, Nat.add_mul, Nat.add_mul] at e
  have e2 : c' * (p * 4294967296) = 4294967296 * c' * p := by rw [Nat.mul_comm p, ← Nat.mul_assoc, Nat.mul_comm c']
  have e3 : (A + z * r) * x * q = A * x * q + z * x * p := by
    rw [Nat.add_mul, Nat.add_mul, hp, Nat.mul_right_comm z r x, Nat.mul_assoc (z * x) r q, Nat.mul_comm r q]
  rw [e2, e3]; omega

/-- The line's last word has room for what is carried. -/
theorem line_last {ss : List Int} {k c : Nat} (hk : k < ss.length) (h : val ss + c * 4294967296 ^ k < 4294967296 ^ (k + 1)) : (ss.getD k 0).toNat + c < 4294967296 := by
  have h1 := val_set ss k 0 hk
  have h2 : ((ss.getD k 0).toNat + c) * 4294967296 ^ k < 4294967296 * 4294967296 ^ k := by
    rw [Nat.add_mul, Nat.mul_comm 4294967296, ← Nat.pow_succ]
    simp only [Int.toNat_zero, Nat.zero_mul, Nat.add_zero] at h1
    omega
  exact Nat.lt_of_mul_lt_mul_right h2

set_option maxHeartbeats 2000000 in
theorem times_line (W : World) (g M t n c : Nat) (ss : List Int) (a : Option Addr) (zs : List Int) (x : Int) (w : World) (o : Own W w (.slice (some ⟨g, 0, none⟩) M M) M ss) (wS : Wd ss)
    (h : IsWords W (.slice a n c) zs) (hz : Wd zs) (x0 : 0 ≤ x) (x1 : x < 4294967296) (hM : t + n + 1 ≤ M) (hM2 : M ≤ 35184372088832) (hv : val ss + val zs * x.toNat * 4294967296 ^ t < 4294967296 ^ (t + n + 1)) :
    Calls Tryd.prog 43 #[.slice (some ⟨g, t, none⟩) (n + 1) (n + 1), .slice a n c, .int .u32 x] w fun e w' => e = .returned (.tuple #[]) ∧
      ∃ ss', Own W w' (.slice (some ⟨g, 0, none⟩) M M) M ss' ∧ Wd ss' ∧ val ss' = val ss + val zs * x.toNat * 4294967296 ^ t := by
  have hl : Hid (zs.length = n) := h.len
  have HV : Hid (val ss + val zs * x.toNat * 4294967296 ^ t < 4294967296 ^ (t + n + 1)) := hv
  clear hv
  go_enter Tryd.func43, Tryd.ntmps43
  go_wp2
  go_loopw [6, 11] (fun cr i v => ∃ (k : Nat) (cy : Int) (rs : List Int), k ≤ n ∧ i = .int .i64 k ∧ cr = .int .u32 cy ∧ 0 ≤ cy ∧ cy < 4294967296 ∧ Own W v (.slice (some ⟨g, 0, none⟩) M M) M rs ∧ Wd rs ∧ val rs + cy.toNat * 4294967296 ^ (t + k) = val ss + val (zs.take k) * x.toNat * 4294967296 ^ t) (fun _ i _ => n - (intOf i).toNat)
  case atStart => exact ⟨0, 0, ss, by omega, rfl, rfl, by omega, by omega, o, wS, by simp [val]⟩
  case round =>
    obtain ⟨k, cy, rs, hk, rfl, rfl, c0, c1, o, wR, hI⟩ := hrel
    have HI : Hid (val rs + cy.toNat * 4294967296 ^ (t + k) = val ss + val (zs.take k) * x.toNat * 4294967296 ^ t) := hI
    clear hI
    have hrl := o.length
    by_cases hlt : k < n
    · have EQ : Hid (val (zs.take (k + 1)) = val (zs.take k) + (zs.getD k 0).toNat * 4294967296 ^ k) := val_take_succ zs k
      obtain ⟨z0, z1⟩ := wd_getD hz k
      rcases (h.below o.below).reads.1.2 with h0 | ⟨b, off, rfl, hcz⟩
      · omega
      have hck := hcz k hlt
      obtain ⟨hc, hf, hg1, hg2⟩ := o.cell (t + k) (by omega)
      have ES := fun y => val_set rs (t + k) y (by omega)
      obtain ⟨y0, y1⟩ := wd_getD wR (t + k)
      generalize zs.getD k 0 = z at hck EQ z0 z1
      generalize rs.getD (t + k) 0 = s at hc ES y0 y1
      have AC := limb_mul z x s cy wr z0 z1 x0 x1 y0 y1 c0 c1
      have m0 : 0 ≤ z * x := Int.mul_nonneg z0 x0
      have m1 : z * x ≤ 4294967295 * 4294967295 := Int.mul_le_mul (by omega) (by omega) x0 (by omega)
      have m2 : (z * x).toNat = z.toNat * x.toNat := Int.toNat_mul z0 x0
      have HY : Hid (((z * x + s + cy) % 4294967296).toNat + 4294967296 * ((z * x + s + cy) / 4294967296).toNat = z.toNat * x.toNat + s.toNat + cy.toNat ∧ 0 ≤ (z * x + s + cy) / 4294967296 ∧ (z * x + s + cy) / 4294967296 < 4294967296 ∧ 0 ≤ (z * x + s + cy) % 4294967296 ∧ (z * x + s + cy) % 4294967296 < 4294967296) := by
        show _ ∧ _
        rw [← m2]
        generalize z * x = p at m0 m1
        exact ⟨by omega, by omega, by omega, by omega, by omega⟩
      generalize (z * x + s + cy) % 4294967296 = y at AC HY
      generalize (z * x + s + cy) / 4294967296 = cq at AC HY
      have HN : Hid (val (rs.set (t + k) y) + cq.toNat * 4294967296 ^ (t + (k + 1)) = val ss + val (zs.take (k + 1)) * x.toNat * 4294967296 ^ t) := by
        show _ = _
        rw [EQ.out, ← Nat.add_assoc, Nat.pow_succ]
        exact line_step (Nat.pow_add _ _ _) (ES y) HI.out HY.out.1
      have WN : Wd (rs.set (t + k) y) := wd_set wR (t + k) HY.out.2.2.2.1 HY.out.2.2.2.2
      clear EQ HI ES wR hz hcz m0 m1 m2 HV hl h hrl wS
      go_wp2_with (first
        | (go_at_call 60; with_reducible refine Calls.mono AC ?_; rintro e w3 ⟨rfl, b3⟩; have o3 := o.more b3; obtain ⟨hc3, hf3, -, -⟩ := o3.cell (t + k) (by omega)))
      go_roundw
      case rel => exact ⟨k + 1, cq, rs.set (t + k) y, by omega, by go_num, rfl, HY.out.2.1, HY.out.2.2.1, o3.set (t + k) y, WN, HN.out⟩
      case measure => simp [intOf]; omega
    · obtain ⟨y0, y1⟩ := wd_getD wR (t + n)
      obtain ⟨hc, hf, hg1, hg2⟩ := o.cell (t + n) (by omega)
      have HI' : Hid (val rs + cy.toNat * 4294967296 ^ (t + n) = val ss + val zs * x.toNat * 4294967296 ^ t) := by
        have h1 := HI.out
        have h2 := hl.out
        rw [show k = n by omega, List.take_of_length_le (by omega)] at h1
        exact h1
      have HL := line_last (ss := rs) (k := t + n) (c := cy.toNat) (by omega) (by rw [HI'.out]; exact HV.out)
      have ES := fun y => val_set rs (t + n) y (by omega)
      generalize rs.getD (t + n) 0 = s at hc ES y0 y1 HL
      have HN : Hid (val (rs.set (t + n) (s + cy)) = val ss + val zs * x.toNat * 4294967296 ^ t) := by
        show _ = _
        have h1 := ES (s + cy)
        rw [show (s + cy).toNat = s.toNat + cy.toNat by omega, Nat.add_mul] at h1
        have h2 := HI'.out
        omega
      have WN : Wd (rs.set (t + n) (s + cy)) := wd_set wR (t + n) (by omega) (by omega)
      clear HI HI' ES wR hz HV hl h hrl wS
      go_wp2
      go_end0
      exact ⟨rfl, _, o.set (t + n) _, WN, HN.out⟩
end Go.Proofs.YtlokidddbkdclaaDoor
