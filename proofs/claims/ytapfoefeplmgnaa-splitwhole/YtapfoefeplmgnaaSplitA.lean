/-
  Contracts of package split's functions right, take, putBack, for every list of words: what taking a line from some words, and putting it back, does to the number in those words; nothing but those words' block turns.
-/
import Derived.Test.YtapfoefeplmgnaaTimesB
import Derived.Test.YtapfoefeplmgnaaNatMore
namespace Go.Proofs.Ytapfoefeplmgnaa
open Go.RowKit

/-- Of what there was nothing but block g has turned. -/
def But (g : Nat) (w w' : World) : Prop := w.heap.size ≤ w'.heap.size ∧ ∀ k, k < w.heap.size → k ≠ g → w'.heap[k]? = w.heap[k]?

theorem But.refl (g : Nat) (w : World) : But g w w := ⟨Nat.le_refl _, fun _ _ _ => rfl⟩
theorem But.trans {g : Nat} {a b c : World} (h : But g a b) (k : But g b c) : But g a c :=
  ⟨Nat.le_trans h.1 k.1, fun i hi hg => (k.2 i (Nat.lt_of_lt_of_le hi h.1) hg).trans (h.2 i hi hg)⟩
theorem But.more {g : Nat} {a b c : World} (h : But g a b) (k : Below b.heap.size b c) : But g a c :=
  h.trans ⟨k.size, fun i hi _ => k.block i hi⟩
theorem But.set {g : Nat} {a b : World} (h : But g a b) (k : Nat) (u : Value) : But g a (b.setCell ⟨g, k, none⟩ u) :=
  h.trans ⟨by simp [World.setCell], fun i _ hg => Below.heap_setCell _ _ _ _ hg⟩

/-- A slice apart from block g. -/
def Apart (g : Nat) (a : Option Addr) : Prop := ∀ x, a = some x → x.block ≠ g

theorem add_block (a : Addr) (n : Nat) : (a.add n).block = a.block := by unfold Addr.add; split <;> rfl

theorem IsWords.but {w w' : World} {a : Option Addr} {n c : Nat} {zs : List Int} {g : Nat} (h : IsWords w (.slice a n c) zs) (ha : Apart g a) (hb : But g w w') : IsWords w' (.slice a n c) zs := by
  rcases h with h | ⟨x, cap, e, h1, h2, hc⟩
  · exact .inl h
  · refine .inr ⟨x, cap, e, h1, h2, fun i hi => ?_⟩
    have hci := hc i hi
    simp only [Value.slice.injEq] at e
    rw [World.cell?_of_block (w := w) (hb.2 _ (World.block_lt_of_cell? w _ hci) (by rw [add_block]; exact ha x e.1))]
    exact hci

theorem Own.but {W w w' : World} {a : Option Addr} {n c : Nat} {xs : List Int} {g : Nat} (h : Own W w (.slice a n c) n xs) (ha : Apart g a) (hb : But g w w') (hB : Below W.heap.size W w') : Own W w' (.slice a n c) n xs := by
  refine ⟨⟨h.1.1, ?_⟩, hB⟩
  rcases h.1.2 with h0 | ⟨g', cap, cur, e, h1, hg', h2⟩
  · exact .inl h0
  · refine .inr ⟨g', cap, cur, e, h1, ?_, h2⟩
    simp only [Value.slice.injEq] at e
    rw [hb.2 g' (Array.getElem?_eq_some_iff.1 hg').1 (ha _ e.1)]
    exact hg'

theorem split_right0 (a : Option Addr) (n c : Nat) (zs : List Int) (w : World) (h : IsWords w (.slice a n c) zs) (L : Nat) (hL : lowN zs n = L) :
    Calls Try.prog 27 #[.slice a n c] w fun e w' => e = .returned (.slice a L c) ∧ w = w' := by
  have hle : L ≤ n := by rw [← hL]; exact lowN_le _ _
  have hcap := h.cap
  have C := limb_low_words a n c zs w h
  rw [hL] at C
  have h1 : (0 : Int) ≤ L := by omega
  have h2 : (L : Int) ≤ c := by omega
  have hs : a = none → L = 0 ∧ c = 0 := by
    rintro rfl
    rcases h with ⟨e, rfl⟩ | ⟨x, cap, e, -⟩
    · simp only [Value.slice.injEq] at e; omega
    · simp at e
  clear h hL
  rcases a with _ | x
  · obtain ⟨rfl, rfl⟩ := hs rfl
    go_enter Try.func27, Try.ntmps27
    go_wp2_with (go_at_call 45; with_reducible refine Calls.mono C ?_; rintro e w1 ⟨rfl, rfl⟩)
    go_ret
    exact ⟨rfl, rfl⟩
  · clear hs
    go_enter Try.func27, Try.ntmps27
    go_wp2_with (go_at_call 45; with_reducible refine Calls.mono C ?_; rintro e w1 ⟨rfl, rfl⟩)
    go_ret
    exact ⟨rfl, rfl⟩

/-- right, in numbers. -/
theorem split_right (a : Option Addr) (n c : Nat) (zs : List Int) (w : World) (h : IsWords w (.slice a n c) zs) (hz : Wd zs) :
    Calls Try.prog 27 #[.slice a n c] w fun e w' => e = .returned (.slice a (nl (val zs)) c) ∧ w = w' :=
  split_right0 a n c zs w h _ (h.low hz).1

theorem shift_mul {p c : Nat} : c * (p * 4294967296) = 4294967296 * c * p := by rw [Nat.mul_comm p, ← Nat.mul_assoc, Nat.mul_comm c]

/-- One word's step of taking a line. -/
theorem take_step {p q r S S' V A x z s s' b b' c c' : Nat} (hp : p = q * r) (hs : S' + s * p = S + s' * p) (hi : S + A * x * q = V + (c + b) * p) (hy : s' + z * x + c + b = s + 4294967296 * (c' + b')) :
    S' + (A + z * r) * x * q = V + (c' + b') * (p * 4294967296) := by
  have e : (s' + z * x + c + b) * p = (s + 4294967296 * (c' + b')) * p := by rw [hy]
  have e3 : (A + z * r) * x * q = A * x * q + z * x * p := by
    rw [Nat.add_mul, Nat.add_mul, hp, Nat.mul_right_comm z r x, Nat.mul_assoc (z * x) r q, Nat.mul_comm r q]
  rw [shift_mul, e3]
  rw [Nat.add_mul, Nat.add_mul, Nat.add_mul, Nat.add_mul] at e
  rw [Nat.add_mul] at hi
  omega
/-- The last word's. -/
theorem take_last {p S S' V P s s' b b' c : Nat} (hs : S' + s * p = S + s' * p) (hi : S + P = V + (c + b) * p) (hy : s' + c + b = s + 4294967296 * b') : S' + P = V + b' * (p * 4294967296) := by
  have e : (s' + c + b) * p = (s + 4294967296 * b') * p := by rw [hy]
  rw [shift_mul]
  rw [Nat.add_mul, Nat.add_mul, Nat.add_mul] at e
  rw [Nat.add_mul] at hi
  omega
/-- One word's step of putting it back. -/
theorem back_step {p q r S S' V A z s s' c c' : Nat} (hp : p = q * r) (hs : S' + s * p = S + s' * p) (hi : S + c * p = V + A * q) (hy : s' + 4294967296 * c' = s + z + c) :
    S' + c' * (p * 4294967296) = V + (A + z * r) * q := by
  have e : (s' + 4294967296 * c') * p = (s + z + c) * p := by rw [hy]
  have e3 : (A + z * r) * q = A * q + z * p := by
    rw [Nat.add_mul, hp, Nat.mul_assoc z r q, Nat.mul_comm r q]
  rw [shift_mul, e3]
  rw [Nat.add_mul, Nat.add_mul, Nat.add_mul] at e
  omega
theorem back_last {p S S' V P s s' c c' : Nat} (hs : S' + s * p = S + s' * p) (hi : S + c * p = V + P) (hy : s' + 4294967296 * c' = s + c) : S' + c' * (p * 4294967296) = V + P := by
  have e : (s' + 4294967296 * c') * p = (s + c) * p := by rw [hy]
  rw [shift_mul]
  rw [Nat.add_mul, Nat.add_mul] at e
  omega

theorem drop_set {rs : List Int} {k T : Nat} (y : Int) (h : k < T) : (rs.set k y).drop T = rs.drop T := by
  rw [List.drop_set, if_pos h]
theorem val_lt_of_drop {rs ss : List Int} {T : Nat} (hr : Wd rs) (hd : rs.drop T = ss.drop T) (h : val ss < 4294967296 ^ T) : val rs < 4294967296 ^ T := by
  have h1 := val_split ss T
  have h2 := val_split rs T
  have h3 : val (ss.drop T) = 0 := by
    rcases Nat.eq_zero_or_pos (val (ss.drop T)) with h0 | h0
    · exact h0
    · have : 4294967296 ^ T * 1 ≤ 4294967296 ^ T * val (ss.drop T) := Nat.mul_le_mul_left _ h0
      omega
  rw [hd, h3] at h2
  rw [h2]
  simpa using val_take_lt rs hr T

set_option maxHeartbeats 2000000 in
/-- take: what is left of the number, and whether it went below. -/
theorem split_take (W : World) (g M t n c C : Nat) (ss : List Int) (a : Option Addr) (ys : List Int) (x : Int) (w : World) (o : Own W w (.slice (some ⟨g, 0, none⟩) M M) M ss) (wS : Wd ss)
    (h : IsWords w (.slice a n c) ys) (hz : Wd ys) (ha : Apart g a) (x0 : 0 ≤ x) (x1 : x < 4294967296) (hM : t + n + 1 ≤ M) (hM2 : M ≤ 35184372088832) (hv : val ss < 4294967296 ^ (t + n + 1)) :
    Calls Try.prog 49 #[.slice (some ⟨g, t, none⟩) (n + 1) C, .slice a n c, .int .u32 x] w fun e w' => ∃ (b : Nat) (ss' : List Int), b ≤ 1 ∧ e = .returned (.bool (decide (b = 1))) ∧
      Own W w' (.slice (some ⟨g, 0, none⟩) M M) M ss' ∧ Wd ss' ∧ But g w w' ∧ val ss' < 4294967296 ^ (t + n + 1) ∧ val ss' + val ys * x.toNat * 4294967296 ^ t = val ss + b * 4294967296 ^ (t + n + 1) := by
  have hl : Hid (ys.length = n) := h.len
  have HV : Hid (val ss < 4294967296 ^ (t + n + 1)) := hv
  clear hv
  go_enter Try.func49, Try.ntmps49
  go_wp2
  go_loopw [7, 9, 15] (fun cr br i v => ∃ (k : Nat) (cy bo : Int) (rs : List Int), k ≤ n ∧ i = .int .i64 k ∧ cr = .int .u32 cy ∧ br = .int .u32 bo ∧ 0 ≤ cy ∧ cy < 4294967296 ∧ 0 ≤ bo ∧ bo ≤ 1 ∧ Own W v (.slice (some ⟨g, 0, none⟩) M M) M rs ∧ Wd rs ∧ But g w v ∧ rs.drop (t + n + 1) = ss.drop (t + n + 1) ∧ val rs + val (ys.take k) * x.toNat * 4294967296 ^ t = val ss + (cy.toNat + bo.toNat) * 4294967296 ^ (t + k)) (fun _ _ i _ => n - (intOf i).toNat)
  case atStart => exact ⟨0, 0, 0, ss, by omega, rfl, rfl, rfl, by omega, by omega, by omega, by omega, o, wS, But.refl _ _, rfl, by simp [val]⟩
  case round =>
    obtain ⟨k, cy, bo, rs, hk, rfl, rfl, rfl, c0, c1, b0, b1, o, wR, hB, hD, hI⟩ := hrel
    have HI : Hid (val rs + val (ys.take k) * x.toNat * 4294967296 ^ t = val ss + (cy.toNat + bo.toNat) * 4294967296 ^ (t + k)) := hI
    have HD : Hid (rs.drop (t + n + 1) = ss.drop (t + n + 1)) := hD
    clear hI hD
    have hrl := o.length
    by_cases hlt : k < n
    · have EQ : Hid (val (ys.take (k + 1)) = val (ys.take k) + (ys.getD k 0).toNat * 4294967296 ^ k) := val_take_succ ys k
      obtain ⟨z0, z1⟩ := wd_getD hz k
      rcases (h.but ha hB).reads.1.2 with h0 | ⟨b, off, rfl, hcz⟩
      · omega
      have hck := hcz k hlt
      have ES := fun y => val_set rs (t + k) y (by omega)
      have DS := fun y => drop_set (rs := rs) (k := t + k) (T := t + n + 1) y (by omega)
      obtain ⟨y0, y1⟩ := wd_getD wR (t + k)
      generalize ys.getD k 0 = z at hck EQ z0 z1
      have oc := fun v (ov : Own W v (.slice (some ⟨g, 0, none⟩) M M) M rs) => ov.cell (t + k) (by omega)
      generalize rs.getD (t + k) 0 = s at oc ES y0 y1
      have AC := limb_mul z x cy 0 wr z0 z1 x0 x1 c0 c1 (by omega) (by omega)
      have m0 : 0 ≤ z * x := Int.mul_nonneg z0 x0
      have m1 : z * x ≤ 4294967295 * 4294967295 := Int.mul_le_mul (by omega) (by omega) x0 (by omega)
      have m2 : (z * x).toNat = z.toNat * x.toNat := Int.toNat_mul z0 x0
      have HY : Hid (((z * x + cy + 0) % 4294967296).toNat + 4294967296 * ((z * x + cy + 0) / 4294967296).toNat = z.toNat * x.toNat + cy.toNat ∧ 0 ≤ (z * x + cy + 0) / 4294967296 ∧ (z * x + cy + 0) / 4294967296 < 4294967296 ∧ 0 ≤ (z * x + cy + 0) % 4294967296 ∧ (z * x + cy + 0) % 4294967296 < 4294967296) := by
        show _ ∧ _
        rw [← m2]
        generalize z * x = p at m0 m1
        exact ⟨by omega, by omega, by omega, by omega, by omega⟩
      generalize (z * x + cy + 0) % 4294967296 = lo at AC HY
      generalize (z * x + cy + 0) / 4294967296 = cq at AC HY
      have BC := fun v => limb_sub s lo bo v y0 y1 HY.out.2.2.2.1 HY.out.2.2.2.2 b0 (by omega)
      have HZ : Hid (((s - lo - bo) % 4294967296).toNat + lo.toNat + bo.toNat = s.toNat + 4294967296 * (-((s - lo - bo) / 4294967296)).toNat ∧ 0 ≤ -((s - lo - bo) / 4294967296) ∧ -((s - lo - bo) / 4294967296) ≤ 1 ∧ 0 ≤ (s - lo - bo) % 4294967296 ∧ (s - lo - bo) % 4294967296 < 4294967296) := by
        have h1 := HY.out.2.2.2
        exact ⟨by omega, by omega, by omega, by omega, by omega⟩
      generalize (s - lo - bo) % 4294967296 = s2 at BC HZ
      generalize -((s - lo - bo) / 4294967296) = b2 at BC HZ
      have HN : Hid (val (rs.set (t + k) s2) + val (ys.take (k + 1)) * x.toNat * 4294967296 ^ t = val ss + (cq.toNat + b2.toNat) * 4294967296 ^ (t + (k + 1))) := by
        show _ = _
        rw [EQ.out, ← Nat.add_assoc, Nat.pow_succ]
        refine take_step (Nat.pow_add _ _ _) (ES s2) HI.out ?_
        have h1 := HY.out.1
        have h2 := HZ.out.1
        omega
      have WN : Wd (rs.set (t + k) s2) := wd_set wR (t + k) HZ.out.2.2.2.1 HZ.out.2.2.2.2
      have DN : Hid ((rs.set (t + k) s2).drop (t + n + 1) = ss.drop (t + n + 1)) := (DS s2).trans HD.out
      obtain ⟨hc0, hf0, -, -⟩ := oc _ o
      clear EQ HI ES DS wR hz hcz m0 m1 m2 HV hl h hrl wS HD
      go_wp2_with (first
        | (go_at_call 57; with_reducible refine Calls.mono AC ?_; rintro e w3 ⟨rfl, b3⟩; have o3 := o.more b3; obtain ⟨hc3, hf3, -, -⟩ := oc _ o3)
        | (go_at_call 58; with_reducible refine Calls.mono (BC _) ?_; rintro e w4 ⟨rfl, b4⟩; have o4 := o3.more b4; obtain ⟨hc4, hf4, -, -⟩ := oc _ o4))
      go_roundw
      case rel => exact ⟨k + 1, cq, b2, rs.set (t + k) s2, by omega, by go_num, rfl, rfl, HY.out.2.1, HY.out.2.2.1, HZ.out.2.1, HZ.out.2.2.1, o4.set (t + k) s2, WN, ((hB.more b3).more b4).set _ _, DN.out, HN.out⟩
      case measure => simp [intOf]; omega
    · obtain ⟨y0, y1⟩ := wd_getD wR (t + n)
      have HI' : Hid (val rs + val ys * x.toNat * 4294967296 ^ t = val ss + (cy.toNat + bo.toNat) * 4294967296 ^ (t + n)) := by
        have h1 := HI.out
        have h2 := hl.out
        rw [show k = n by omega, List.take_of_length_le (by omega)] at h1
        exact h1
      have ES := fun y => val_set rs (t + n) y (by omega)
      have DS := fun y => drop_set (rs := rs) (k := t + n) (T := t + n + 1) y (by omega)
      have oc := fun v (ov : Own W v (.slice (some ⟨g, 0, none⟩) M M) M rs) => ov.cell (t + n) (by omega)
      generalize rs.getD (t + n) 0 = s at oc ES y0 y1
      have BC := fun v => limb_sub s cy bo v y0 y1 c0 c1 b0 (by omega)
      have HZ : Hid (((s - cy - bo) % 4294967296).toNat + cy.toNat + bo.toNat = s.toNat + 4294967296 * (-((s - cy - bo) / 4294967296)).toNat ∧ 0 ≤ -((s - cy - bo) / 4294967296) ∧ -((s - cy - bo) / 4294967296) ≤ 1 ∧ 0 ≤ (s - cy - bo) % 4294967296 ∧ (s - cy - bo) % 4294967296 < 4294967296) :=
        ⟨by omega, by omega, by omega, by omega, by omega⟩
      generalize (s - cy - bo) % 4294967296 = s2 at BC HZ
      generalize -((s - cy - bo) / 4294967296) = b2 at BC HZ
      have HN : Hid (val (rs.set (t + n) s2) + val ys * x.toNat * 4294967296 ^ t = val ss + b2.toNat * 4294967296 ^ (t + n + 1)) := by
        show _ = _
        rw [Nat.pow_succ]
        exact take_last (ES s2) HI'.out HZ.out.1
      have WN : Wd (rs.set (t + n) s2) := wd_set wR (t + n) HZ.out.2.2.2.1 HZ.out.2.2.2.2
      have LN : Hid (val (rs.set (t + n) s2) < 4294967296 ^ (t + n + 1)) := val_lt_of_drop WN ((DS s2).trans HD.out) HV.out
      obtain ⟨hc0, hf0, -, -⟩ := oc _ o
      obtain ⟨p0, p1⟩ : 0 ≤ b2 ∧ b2 ≤ 1 := ⟨HZ.out.2.1, HZ.out.2.2.1⟩
      clear HI HI' ES DS wR hz HV hl h hrl wS HD HZ
      rcases (by omega : b2 = 0 ∨ b2 = 1) with rfl | rfl
      all_goals
        go_wp2_with (first
          | (go_at_call 58; with_reducible refine Calls.mono (BC _) ?_; rintro e w4 ⟨rfl, b4⟩; have o4 := o.more b4; obtain ⟨hc4, hf4, -, -⟩ := oc _ o4))
        go_ret
        exact ⟨_, _, by decide, rfl, o4.set (t + n) s2, WN, (hB.more b4).set _ _, LN.out, HN.out⟩

set_option maxHeartbeats 2000000 in
/-- putBack: what the number becomes, and whether it came up. -/
theorem split_back (W : World) (g M t n c C : Nat) (ss : List Int) (a : Option Addr) (ys : List Int) (w : World) (o : Own W w (.slice (some ⟨g, 0, none⟩) M M) M ss) (wS : Wd ss)
    (h : IsWords w (.slice a n c) ys) (hz : Wd ys) (ha : Apart g a) (hM : t + n + 1 ≤ M) (hM2 : M ≤ 35184372088832) (hv : val ss < 4294967296 ^ (t + n + 1)) :
    Calls Try.prog 50 #[.slice (some ⟨g, t, none⟩) (n + 1) C, .slice a n c] w fun e w' => ∃ (b : Nat) (ss' : List Int), b ≤ 1 ∧ e = .returned (.bool (decide (b = 1))) ∧
      Own W w' (.slice (some ⟨g, 0, none⟩) M M) M ss' ∧ Wd ss' ∧ But g w w' ∧ val ss' < 4294967296 ^ (t + n + 1) ∧ val ss' + b * 4294967296 ^ (t + n + 1) = val ss + val ys * 4294967296 ^ t := by
  have hl : Hid (ys.length = n) := h.len
  have HV : Hid (val ss < 4294967296 ^ (t + n + 1)) := hv
  clear hv
  go_enter Try.func50, Try.ntmps50
  go_wp2
  go_loopw [5, 11] (fun cr i v => ∃ (k : Nat) (cy : Int) (rs : List Int), k ≤ n ∧ i = .int .i64 k ∧ cr = .int .u32 cy ∧ 0 ≤ cy ∧ cy ≤ 1 ∧ Own W v (.slice (some ⟨g, 0, none⟩) M M) M rs ∧ Wd rs ∧ But g w v ∧ rs.drop (t + n + 1) = ss.drop (t + n + 1) ∧ val rs + cy.toNat * 4294967296 ^ (t + k) = val ss + val (ys.take k) * 4294967296 ^ t) (fun _ i _ => n - (intOf i).toNat)
  case atStart => exact ⟨0, 0, ss, by omega, rfl, rfl, by omega, by omega, o, wS, But.refl _ _, rfl, by simp [val]⟩
  case round =>
    obtain ⟨k, cy, rs, hk, rfl, rfl, c0, c1, o, wR, hB, hD, hI⟩ := hrel
    have HI : Hid (val rs + cy.toNat * 4294967296 ^ (t + k) = val ss + val (ys.take k) * 4294967296 ^ t) := hI
    have HD : Hid (rs.drop (t + n + 1) = ss.drop (t + n + 1)) := hD
    clear hI hD
    have hrl := o.length
    by_cases hlt : k < n
    · have EQ : Hid (val (ys.take (k + 1)) = val (ys.take k) + (ys.getD k 0).toNat * 4294967296 ^ k) := val_take_succ ys k
      obtain ⟨z0, z1⟩ := wd_getD hz k
      rcases (h.but ha hB).reads.1.2 with h0 | ⟨b, off, rfl, hcz⟩
      · omega
      have hck := hcz k hlt
      have ES := fun y => val_set rs (t + k) y (by omega)
      have DS := fun y => drop_set (rs := rs) (k := t + k) (T := t + n + 1) y (by omega)
      obtain ⟨y0, y1⟩ := wd_getD wR (t + k)
      generalize ys.getD k 0 = z at hck EQ z0 z1
      have oc := fun v (ov : Own W v (.slice (some ⟨g, 0, none⟩) M M) M rs) => ov.cell (t + k) (by omega)
      generalize rs.getD (t + k) 0 = s at oc ES y0 y1
      have AC := fun v => limb_add s z cy v y0 y1 z0 z1 c0 (by omega)
      have HZ : Hid (((s + z + cy) % 4294967296).toNat + 4294967296 * ((s + z + cy) / 4294967296).toNat = s.toNat + z.toNat + cy.toNat ∧ 0 ≤ (s + z + cy) / 4294967296 ∧ (s + z + cy) / 4294967296 ≤ 1 ∧ 0 ≤ (s + z + cy) % 4294967296 ∧ (s + z + cy) % 4294967296 < 4294967296) :=
        ⟨by omega, by omega, by omega, by omega, by omega⟩
      generalize (s + z + cy) % 4294967296 = s2 at AC HZ
      generalize (s + z + cy) / 4294967296 = cq at AC HZ
      have HN : Hid (val (rs.set (t + k) s2) + cq.toNat * 4294967296 ^ (t + (k + 1)) = val ss + val (ys.take (k + 1)) * 4294967296 ^ t) := by
        show _ = _
        rw [EQ.out, ← Nat.add_assoc, Nat.pow_succ]
        exact back_step (Nat.pow_add _ _ _) (ES s2) HI.out HZ.out.1
      have WN : Wd (rs.set (t + k) s2) := wd_set wR (t + k) HZ.out.2.2.2.1 HZ.out.2.2.2.2
      have DN : Hid ((rs.set (t + k) s2).drop (t + n + 1) = ss.drop (t + n + 1)) := (DS s2).trans HD.out
      obtain ⟨hc0, hf0, -, -⟩ := oc _ o
      clear EQ HI ES DS wR hz hcz HV hl h hrl wS HD
      go_wp2_with (first
        | (go_at_call 40; with_reducible refine Calls.mono (AC _) ?_; rintro e w4 ⟨rfl, b4⟩; have o4 := o.more b4; obtain ⟨hc4, hf4, -, -⟩ := oc _ o4))
      go_roundw
      case rel => exact ⟨k + 1, cq, rs.set (t + k) s2, by omega, by go_num, rfl, HZ.out.2.1, HZ.out.2.2.1, o4.set (t + k) s2, WN, (hB.more b4).set _ _, DN.out, HN.out⟩
      case measure => simp [intOf]; omega
    · obtain ⟨y0, y1⟩ := wd_getD wR (t + n)
      have HI' : Hid (val rs + cy.toNat * 4294967296 ^ (t + n) = val ss + val ys * 4294967296 ^ t) := by
        have h1 := HI.out
        have h2 := hl.out
        rw [show k = n by omega, List.take_of_length_le (by omega)] at h1
        exact h1
      have ES := fun y => val_set rs (t + n) y (by omega)
      have DS := fun y => drop_set (rs := rs) (k := t + n) (T := t + n + 1) y (by omega)
      have oc := fun v (ov : Own W v (.slice (some ⟨g, 0, none⟩) M M) M rs) => ov.cell (t + n) (by omega)
      generalize rs.getD (t + n) 0 = s at oc ES y0 y1
      have AC := fun v => limb_add s 0 cy v y0 y1 (by omega) (by omega) c0 (by omega)
      have HZ : Hid (((s + 0 + cy) % 4294967296).toNat + 4294967296 * ((s + 0 + cy) / 4294967296).toNat = s.toNat + cy.toNat ∧ 0 ≤ (s + 0 + cy) / 4294967296 ∧ (s + 0 + cy) / 4294967296 ≤ 1 ∧ 0 ≤ (s + 0 + cy) % 4294967296 ∧ (s + 0 + cy) % 4294967296 < 4294967296) :=
        ⟨by omega, by omega, by omega, by omega, by omega⟩
      generalize (s + 0 + cy) % 4294967296 = s2 at AC HZ
      generalize (s + 0 + cy) / 4294967296 = b2 at AC HZ
      have HN : Hid (val (rs.set (t + n) s2) + b2.toNat * 4294967296 ^ (t + n + 1) = val ss + val ys * 4294967296 ^ t) := by
        show _ = _
        rw [Nat.pow_succ]
        exact back_last (ES s2) HI'.out HZ.out.1
      have WN : Wd (rs.set (t + n) s2) := wd_set wR (t + n) HZ.out.2.2.2.1 HZ.out.2.2.2.2
      have LN : Hid (val (rs.set (t + n) s2) < 4294967296 ^ (t + n + 1)) := val_lt_of_drop WN ((DS s2).trans HD.out) HV.out
      obtain ⟨hc0, hf0, -, -⟩ := oc _ o
      obtain ⟨p0, p1⟩ : 0 ≤ b2 ∧ b2 ≤ 1 := ⟨HZ.out.2.1, HZ.out.2.2.1⟩
      clear HI HI' ES DS wR hz HV hl h hrl wS HD HZ
      rcases (by omega : b2 = 0 ∨ b2 = 1) with rfl | rfl
      all_goals
        go_wp2_with (first
          | (go_at_call 40; with_reducible refine Calls.mono (AC _) ?_; rintro e w4 ⟨rfl, b4⟩; have o4 := o.more b4; obtain ⟨hc4, hf4, -, -⟩ := oc _ o4))
        go_ret
        exact ⟨_, _, by decide, rfl, o4.set (t + n) s2, WN, (hB.more b4).set _ _, LN.out, HN.out⟩
end Go.Proofs.Ytapfoefeplmgnaa
