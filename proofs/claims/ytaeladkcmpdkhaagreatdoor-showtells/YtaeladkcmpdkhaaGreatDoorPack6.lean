/-
  Texts of mine in build order. No conditions of their own.
-/
import Derived.Test.YtaeladkcmpdkhaaGreatDoorPack5
set_option maxHeartbeats 2000000
namespace Go.Proofs.YtaeladkcmpdkhaaGreatDoor
section
open Go.RowKit
def But (g : Nat) (w w' : World) : Prop := w.heap.size ≤ w'.heap.size ∧ ∀ k, k < w.heap.size → k ≠ g → w'.heap[k]? = w.heap[k]?
theorem But.refl (g : Nat) (w : World) : But g w w := ⟨Nat.le_refl _, fun _ _ _ => rfl⟩
theorem But.trans {g : Nat} {a b c : World} (h : But g a b) (k : But g b c) : But g a c :=
 ⟨Nat.le_trans h.1 k.1, fun i hi hg => (k.2 i (Nat.lt_of_lt_of_le hi h.1) hg).trans (h.2 i hi hg)⟩
theorem But.more {g : Nat} {a b c : World} (h : But g a b) (k : Below b.heap.size b c) : But g a c :=
 h.trans ⟨k.size, fun i hi _ => k.block i hi⟩
theorem But.set {g : Nat} {a b : World} (h : But g a b) (k : Nat) (u : Value) : But g a (b.setCell ⟨g, k, none⟩ u) :=
 h.trans ⟨by simp [World.setCell], fun i _ hg => Below.heap_setCell _ _ _ _ hg⟩
def Apart (g : Nat) (a : Option Addr) : Prop := ∀ x, a = some x → x.block ≠ g
theorem add_block (a : Addr) (n : Nat) : (a.add n).block = a.block := by unfold Addr.add; split <;> rfl
theorem IsWords.but {w w' : World} {a : Option Addr} {n c : Nat} {zs : List Int} {g : Nat} (h : IsWords w (.slice a n c) zs) (ha : Apart g a) (hb : But g w w') : IsWords w' (.slice a n c) zs := by
 rcases h with h | ⟨x, cap, e, h1, h2, hc⟩
 ·exact .inl h
 ·refine .inr ⟨x, cap, e, h1, h2, fun i hi => ?_⟩
  have hci := hc i hi
  simp only [Value.slice.injEq] at e
  rw [World.cell?_of_block (w := w) (hb.2 _ (World.block_lt_of_cell? w _ hci) (by rw [add_block]; exact ha x e.1))]
  exact hci
theorem Own.but {W w w' : World} {a : Option Addr} {n c : Nat} {xs : List Int} {g : Nat} (h : Own W w (.slice a n c) n xs) (ha : Apart g a) (hb : But g w w') (hB : Below W.heap.size W w') : Own W w' (.slice a n c) n xs := by
 refine ⟨⟨h.1.1, ?_⟩, hB⟩
 rcases h.1.2 with h0 | ⟨g', cap, cur, e, h1, hg', h2⟩
 ·exact .inl h0
 ·refine .inr ⟨g', cap, cur, e, h1, ?_, h2⟩
  simp only [Value.slice.injEq] at e
  rw [hb.2 g' (Array.getElem?_eq_some_iff.1 hg').1 (ha _ e.1)]
  exact hg'
theorem split_right0 (a : Option Addr) (n c : Nat) (zs : List Int) (w : World) (h : IsWords w (.slice a n c) zs) (L : Nat) (hL : lowN zs n = L) :
  Calls Tryz.prog 172 #[.slice a n c] w fun e w' => e = .returned (.slice a L c) ∧ w = w' := by
 have hle : L ≤ n := by rw [← hL]; exact lowN_le _ _
 have hcap := h.cap
 have C := limb_low_words a n c zs w h
 rw [hL] at C
 have h1 : (0 : Int) ≤ L := by omega
 have h2 : (L : Int) ≤ c := by omega
 have hs : a = none → L = 0 ∧ c = 0 := by
  rintro rfl
  rcases h with ⟨e, rfl⟩ | ⟨x, cap, e, -⟩
  ·simp only [Value.slice.injEq] at e; omega
  ·simp at e
 clear h hL
 rcases a with _ | x
 ·obtain ⟨rfl, rfl⟩ := hs rfl
  go_enter Tryz.func172, Tryz.ntmps172
  go_wp2_with (go_at_call 142; with_reducible refine Calls.mono C ?_; rintro e w1 ⟨rfl, rfl⟩)
  go_ret
  exact ⟨rfl, rfl⟩
 ·clear hs
  go_enter Tryz.func172, Tryz.ntmps172
  go_wp2_with (go_at_call 142; with_reducible refine Calls.mono C ?_; rintro e w1 ⟨rfl, rfl⟩)
  go_ret
  exact ⟨rfl, rfl⟩
theorem split_right (a : Option Addr) (n c : Nat) (zs : List Int) (w : World) (h : IsWords w (.slice a n c) zs) (hz : Wd zs) :
  Calls Tryz.prog 172 #[.slice a n c] w fun e w' => e = .returned (.slice a (nl (val zs)) c) ∧ w = w' :=
 split_right0 a n c zs w h _ (h.low hz).1
theorem shift_mul {p c : Nat} : c * (p * 4294967296) = 4294967296 * c * p := by rw [Nat.mul_comm p, ← Nat.mul_assoc, Nat.mul_comm c]
theorem take_step {p q r S S' V A x z s s' b b' c c' : Nat} (hp : p = q * r) (hs : S' + s * p = S + s' * p) (hi : S + A * x * q = V + (c + b) * p) (hy : s' + z * x + c + b = s + 4294967296 * (c' + b')) :
  S' + (A + z * r) * x * q = V + (c' + b') * (p * 4294967296) := by
 have e : (s' + z * x + c + b) * p = (s + 4294967296 * (c' + b')) * p := by rw [hy]
 have e3 : (A + z * r) * x * q = A * x * q + z * x * p := by
  rw [Nat.add_mul, Nat.add_mul, hp, Nat.mul_right_comm z r x, Nat.mul_assoc (z * x) r q, Nat.mul_comm r q]
 rw [shift_mul, e3]
 rw [Nat.add_mul, Nat.add_mul, Nat.add_mul, Nat.add_mul] at e
 rw [Nat.add_mul] at hi
 omega
theorem take_last {p S S' V P s s' b b' c : Nat} (hs : S' + s * p = S + s' * p) (hi : S + P = V + (c + b) * p) (hy : s' + c + b = s + 4294967296 * b') : S' + P = V + b' * (p * 4294967296) := by
 have e : (s' + c + b) * p = (s + 4294967296 * b') * p := by rw [hy]
 rw [shift_mul]
 rw [Nat.add_mul, Nat.add_mul, Nat.add_mul] at e
 rw [Nat.add_mul] at hi
 omega
theorem back_step {p q r S S' V A z s s' c c' : Nat} (hp : p = q * r) (hs : S' + s * p = S + s' * p) (hi : S + c * p = V + A * q) (hy : s' + 4294967296 * c' = s + z + c) :
  S' + c' * (p * 4294967296) = V + (A + z * r) * q := by
 have e : (s' + 4294967296 * c') * p = (s + z + c) * p := by rw [hy]
 have e3 : (A + z * r) * q = A * q + z * p := by
  rw [Nat.add_mul, hp, Nat.mul_assoc z r q, Nat.mul_comm r q]
 rw [shift_mul, e3]
 rw [Nat.add_mul, Nat.add_mul, Nat.add_mul] at e
 omega
theorem back_last {p S S' V P s s' c c' : Nat} (hs : S' + s * p = S + s' * p) (hi : S + c * p = V + P) (hy : s' + 4294967296 * c' = s + c) : S' + c' * (p * 4294967296) = V + P := by
 have e : (s' + 4294967296 * c') * p = (s + c) * p := by rw [hy]
 rw [shift_mul]
 rw [Nat.add_mul, Nat.add_mul] at e
 omega
theorem drop_set {rs : List Int} {k T : Nat} (y : Int) (h : k < T) : (rs.set k y).drop T = rs.drop T := by
 rw [List.drop_set, if_pos h]
theorem val_lt_of_drop {rs ss : List Int} {T : Nat} (hr : Wd rs) (hd : rs.drop T = ss.drop T) (h : val ss < 4294967296 ^ T) : val rs < 4294967296 ^ T := by
 have h1 := val_split ss T
 have h2 := val_split rs T
 have h3 : val (ss.drop T) = 0 := by
  rcases Nat.eq_zero_or_pos (val (ss.drop T)) with h0 | h0
  ·exact h0
  ·have : 4294967296 ^ T * 1 ≤ 4294967296 ^ T * val (ss.drop T) := Nat.mul_le_mul_left _ h0
   omega
 rw [hd, h3] at h2
 rw [h2]
 simpa using val_take_lt rs hr T
/-- take: what is left of the number, and whether it went below. -/
theorem split_take (W : World) (g M t n c C : Nat) (ss : List Int) (a : Option Addr) (ys : List Int) (x : Int) (w : World) (o : Own W w (.slice (some ⟨g, 0, none⟩) M M) M ss) (wS : Wd ss)
  (h : IsWords w (.slice a n c) ys) (hz : Wd ys) (ha : Apart g a) (x0 : 0 ≤ x) (x1 : x < 4294967296) (hM : t + n + 1 ≤ M) (hM2 : M ≤ 35184372088832) (hv : val ss < 4294967296 ^ (t + n + 1)) :
  Calls Tryz.prog 213 #[.slice (some ⟨g, t, none⟩) (n + 1) C, .slice a n c, .int .u32 x] w fun e w' => ∃ (b : Nat) (ss' : List Int), b ≤ 1 ∧ e = .returned (.bool (decide (b = 1))) ∧
   Own W w' (.slice (some ⟨g, 0, none⟩) M M) M ss' ∧ Wd ss' ∧ But g w w' ∧ val ss' < 4294967296 ^ (t + n + 1) ∧ val ss' + val ys * x.toNat * 4294967296 ^ t = val ss + b * 4294967296 ^ (t + n + 1) := by
 have hl : Hid (ys.length = n) := h.len
 have HV : Hid (val ss < 4294967296 ^ (t + n + 1)) := hv
 clear hv
 go_enter Tryz.func213, Tryz.ntmps213
 go_wp2
 go_loopw [7, 9, 15] (fun cr br i v => ∃ (k : Nat) (cy bo : Int) (rs : List Int), k ≤ n ∧ i = .int .i64 k ∧ cr = .int .u32 cy ∧ br = .int .u32 bo ∧ 0 ≤ cy ∧ cy < 4294967296 ∧ 0 ≤ bo ∧ bo ≤ 1 ∧ Own W v (.slice (some ⟨g, 0, none⟩) M M) M rs ∧ Wd rs ∧ But g w v ∧ rs.drop (t + n + 1) = ss.drop (t + n + 1) ∧ val rs + val (ys.take k) * x.toNat * 4294967296 ^ t = val ss + (cy.toNat + bo.toNat) * 4294967296 ^ (t + k)) (fun _ _ i _ => n - (intOf i).toNat)
 case atStart => exact ⟨0, 0, 0, ss, by omega, rfl, rfl, rfl, by omega, by omega, by omega, by omega, o, wS, But.refl _ _, rfl, by simp [val]⟩
 case round =>
  obtain ⟨k, cy, bo, rs, hk, rfl, rfl, rfl, c0, c1, b0, b1, o, wR, hB, hD, hI⟩ := hrel
  have HI : Hid (val rs + val (ys.take k) * x.toNat * 4294967296 ^ t = val ss + (cy.toNat + bo.toNat) * 4294967296 ^ (t + k)) := hI
  have HD : Hid (rs.drop (t + n + 1) = ss.drop (t + n + 1)) := hD
  clear hI hD
  have hrl := o.length
  by_cases hlt : k < n
  ·have EQ : Hid (val (ys.take (k + 1)) = val (ys.take k) + (ys.getD k 0).toNat * 4294967296 ^ k) := val_take_succ ys k
   obtain ⟨z0, z1⟩ := wd_getD hz k
   rcases (h.but ha hB).reads.1.2 with h0 | ⟨b, off, rfl, hcz⟩
   ·omega
   have hck := hcz k hlt
   have ES := fun y => val_set rs (t + k) y (by omega)
   have DS := fun y => drop_set (rs := rs) (k := t + k) (T := t + n + 1) y (by omega)
   obtain ⟨y0, y1⟩ := wd_getD wR (t + k)
   generalize ys.getD k 0 = z at hck EQ z0 z1
   have oc := fun v (ov : Own W v (.slice (some ⟨g, 0, none⟩) M M) M rs) => ov.cell (t + k) (by omega)
   generalize rs.getD (t + k) 0 = s at oc ES y0 y1
   have AC := limb_mul z x cy 0 wr z0 z1 x0 x1 c0 c1 (by omega) (by omega)
   have m0 : 0 ≤ z * x := Int.mul_nonneg z0 x0
   have m1 : z * x ≤ 4294967295 * 4294967295 := Int.mul_le_mul (by omega) (by omega) x0 (by omega)
   have m2 : (z * x).toNat = z.toNat * x.toNat := Int.toNat_mul z0 x0
   have HY : Hid (((z * x + cy + 0) % 4294967296).toNat + 4294967296 * ((z * x + cy + 0) / 4294967296).toNat = z.toNat * x.toNat + cy.toNat ∧ 0 ≤ (z * x + cy + 0) / 4294967296 ∧ (z * x + cy + 0) / 4294967296 < 4294967296 ∧ 0 ≤ (z * x + cy + 0) % 4294967296 ∧ (z * x + cy + 0) % 4294967296 < 4294967296) := by
    show _ ∧ _
    rw [← m2]
    generalize z * x = p at m0 m1
    exact ⟨by omega, by omega, by omega, by omega, by omega⟩
   generalize (z * x + cy + 0) % 4294967296 = lo at AC HY
   generalize (z * x + cy + 0) / 4294967296 = cq at AC HY
   have BC := fun v => limb_sub s lo bo v y0 y1 HY.out.2.2.2.1 HY.out.2.2.2.2 b0 (by omega)
   have HZ : Hid (((s - lo - bo) % 4294967296).toNat + lo.toNat + bo.toNat = s.toNat + 4294967296 * (-((s - lo - bo) / 4294967296)).toNat ∧ 0 ≤ -((s - lo - bo) / 4294967296) ∧ -((s - lo - bo) / 4294967296) ≤ 1 ∧ 0 ≤ (s - lo - bo) % 4294967296 ∧ (s - lo - bo) % 4294967296 < 4294967296) := by
    have h1 := HY.out.2.2.2
    exact ⟨by omega, by omega, by omega, by omega, by omega⟩
   generalize (s - lo - bo) % 4294967296 = s2 at BC HZ
   generalize -((s - lo - bo) / 4294967296) = b2 at BC HZ
   have HN : Hid (val (rs.set (t + k) s2) + val (ys.take (k + 1)) * x.toNat * 4294967296 ^ t = val ss + (cq.toNat + b2.toNat) * 4294967296 ^ (t + (k + 1))) := by
    show _ = _
    rw [EQ.out, ← Nat.add_assoc, Nat.pow_succ]
    refine take_step (Nat.pow_add _ _ _) (ES s2) HI.out ?_
    have h1 := HY.out.1
    have h2 := HZ.out.1
    omega
   have WN : Wd (rs.set (t + k) s2) := wd_set wR (t + k) HZ.out.2.2.2.1 HZ.out.2.2.2.2
   have DN : Hid ((rs.set (t + k) s2).drop (t + n + 1) = ss.drop (t + n + 1)) := (DS s2).trans HD.out
   obtain ⟨hc0, hf0, -, -⟩ := oc _ o
   clear EQ HI ES DS wR hz hcz m0 m1 m2 HV hl h hrl wS HD
   go_wp2_with (first
    | (go_at_call 226; with_reducible refine Calls.mono AC ?_; rintro e w3 ⟨rfl, b3⟩; have o3 := o.more b3; obtain ⟨hc3, hf3, -, -⟩ := oc _ o3)
    | (go_at_call 227; with_reducible refine Calls.mono (BC _) ?_; rintro e w4 ⟨rfl, b4⟩; have o4 := o3.more b4; obtain ⟨hc4, hf4, -, -⟩ := oc _ o4))
   go_roundw
   case rel => exact ⟨k + 1, cq, b2, rs.set (t + k) s2, by omega, by go_num, rfl, rfl, HY.out.2.1, HY.out.2.2.1, HZ.out.2.1, HZ.out.2.2.1, o4.set (t + k) s2, WN, ((hB.more b3).more b4).set _ _, DN.out, HN.out⟩
   case measure => simp [intOf]; omega
  ·obtain ⟨y0, y1⟩ := wd_getD wR (t + n)
   have HI' : Hid (val rs + val ys * x.toNat * 4294967296 ^ t = val ss + (cy.toNat + bo.toNat) * 4294967296 ^ (t + n)) := by
    have h1 := HI.out
    have h2 := hl.out
    rw [show k = n by omega, List.take_of_length_le (by omega)] at h1
    exact h1
   have ES := fun y => val_set rs (t + n) y (by omega)
   have DS := fun y => drop_set (rs := rs) (k := t + n) (T := t + n + 1) y (by omega)
   have oc := fun v (ov : Own W v (.slice (some ⟨g, 0, none⟩) M M) M rs) => ov.cell (t + n) (by omega)
   generalize rs.getD (t + n) 0 = s at oc ES y0 y1
   have BC := fun v => limb_sub s cy bo v y0 y1 c0 c1 b0 (by omega)
   have HZ : Hid (((s - cy - bo) % 4294967296).toNat + cy.toNat + bo.toNat = s.toNat + 4294967296 * (-((s - cy - bo) / 4294967296)).toNat ∧ 0 ≤ -((s - cy - bo) / 4294967296) ∧ -((s - cy - bo) / 4294967296) ≤ 1 ∧ 0 ≤ (s - cy - bo) % 4294967296 ∧ (s - cy - bo) % 4294967296 < 4294967296) :=
    ⟨by omega, by omega, by omega, by omega, by omega⟩
   generalize (s - cy - bo) % 4294967296 = s2 at BC HZ
   generalize -((s - cy - bo) / 4294967296) = b2 at BC HZ
   have HN : Hid (val (rs.set (t + n) s2) + val ys * x.toNat * 4294967296 ^ t = val ss + b2.toNat * 4294967296 ^ (t + n + 1)) := by
    show _ = _
    rw [Nat.pow_succ]
    exact take_last (ES s2) HI'.out HZ.out.1
   have WN : Wd (rs.set (t + n) s2) := wd_set wR (t + n) HZ.out.2.2.2.1 HZ.out.2.2.2.2
   have LN : Hid (val (rs.set (t + n) s2) < 4294967296 ^ (t + n + 1)) := val_lt_of_drop WN ((DS s2).trans HD.out) HV.out
   obtain ⟨hc0, hf0, -, -⟩ := oc _ o
   obtain ⟨p0, p1⟩ : 0 ≤ b2 ∧ b2 ≤ 1 := ⟨HZ.out.2.1, HZ.out.2.2.1⟩
   clear HI HI' ES DS wR hz HV hl h hrl wS HD HZ
   rcases (by omega : b2 = 0 ∨ b2 = 1) with rfl | rfl
   all_goals
    go_wp2_with (first
     | (go_at_call 227; with_reducible refine Calls.mono (BC _) ?_; rintro e w4 ⟨rfl, b4⟩; have o4 := o.more b4; obtain ⟨hc4, hf4, -, -⟩ := oc _ o4))
    go_ret
    exact ⟨_, _, by decide, rfl, o4.set (t + n) s2, WN, (hB.more b4).set _ _, LN.out, HN.out⟩
/-- putBack: what the number becomes, and whether it came up. -/
theorem split_back (W : World) (g M t n c C : Nat) (ss : List Int) (a : Option Addr) (ys : List Int) (w : World) (o : Own W w (.slice (some ⟨g, 0, none⟩) M M) M ss) (wS : Wd ss)
  (h : IsWords w (.slice a n c) ys) (hz : Wd ys) (ha : Apart g a) (hM : t + n + 1 ≤ M) (hM2 : M ≤ 35184372088832) (hv : val ss < 4294967296 ^ (t + n + 1)) :
  Calls Tryz.prog 214 #[.slice (some ⟨g, t, none⟩) (n + 1) C, .slice a n c] w fun e w' => ∃ (b : Nat) (ss' : List Int), b ≤ 1 ∧ e = .returned (.bool (decide (b = 1))) ∧
   Own W w' (.slice (some ⟨g, 0, none⟩) M M) M ss' ∧ Wd ss' ∧ But g w w' ∧ val ss' < 4294967296 ^ (t + n + 1) ∧ val ss' + b * 4294967296 ^ (t + n + 1) = val ss + val ys * 4294967296 ^ t := by
 have hl : Hid (ys.length = n) := h.len
 have HV : Hid (val ss < 4294967296 ^ (t + n + 1)) := hv
 clear hv
 go_enter Tryz.func214, Tryz.ntmps214
 go_wp2
 go_loopw [5, 11] (fun cr i v => ∃ (k : Nat) (cy : Int) (rs : List Int), k ≤ n ∧ i = .int .i64 k ∧ cr = .int .u32 cy ∧ 0 ≤ cy ∧ cy ≤ 1 ∧ Own W v (.slice (some ⟨g, 0, none⟩) M M) M rs ∧ Wd rs ∧ But g w v ∧ rs.drop (t + n + 1) = ss.drop (t + n + 1) ∧ val rs + cy.toNat * 4294967296 ^ (t + k) = val ss + val (ys.take k) * 4294967296 ^ t) (fun _ i _ => n - (intOf i).toNat)
 case atStart => exact ⟨0, 0, ss, by omega, rfl, rfl, by omega, by omega, o, wS, But.refl _ _, rfl, by simp [val]⟩
 case round =>
  obtain ⟨k, cy, rs, hk, rfl, rfl, c0, c1, o, wR, hB, hD, hI⟩ := hrel
  have HI : Hid (val rs + cy.toNat * 4294967296 ^ (t + k) = val ss + val (ys.take k) * 4294967296 ^ t) := hI
  have HD : Hid (rs.drop (t + n + 1) = ss.drop (t + n + 1)) := hD
  clear hI hD
  have hrl := o.length
  by_cases hlt : k < n
  ·have EQ : Hid (val (ys.take (k + 1)) = val (ys.take k) + (ys.getD k 0).toNat * 4294967296 ^ k) := val_take_succ ys k
   obtain ⟨z0, z1⟩ := wd_getD hz k
   rcases (h.but ha hB).reads.1.2 with h0 | ⟨b, off, rfl, hcz⟩
   ·omega
   have hck := hcz k hlt
   have ES := fun y => val_set rs (t + k) y (by omega)
   have DS := fun y => drop_set (rs := rs) (k := t + k) (T := t + n + 1) y (by omega)
   obtain ⟨y0, y1⟩ := wd_getD wR (t + k)
   generalize ys.getD k 0 = z at hck EQ z0 z1
   have oc := fun v (ov : Own W v (.slice (some ⟨g, 0, none⟩) M M) M rs) => ov.cell (t + k) (by omega)
   generalize rs.getD (t + k) 0 = s at oc ES y0 y1
   have AC := fun v => limb_add s z cy v y0 y1 z0 z1 c0 (by omega)
   have HZ : Hid (((s + z + cy) % 4294967296).toNat + 4294967296 * ((s + z + cy) / 4294967296).toNat = s.toNat + z.toNat + cy.toNat ∧ 0 ≤ (s + z + cy) / 4294967296 ∧ (s + z + cy) / 4294967296 ≤ 1 ∧ 0 ≤ (s + z + cy) % 4294967296 ∧ (s + z + cy) % 4294967296 < 4294967296) :=
    ⟨by omega, by omega, by omega, by omega, by omega⟩
   generalize (s + z + cy) % 4294967296 = s2 at AC HZ
   generalize (s + z + cy) / 4294967296 = cq at AC HZ
   have HN : Hid (val (rs.set (t + k) s2) + cq.toNat * 4294967296 ^ (t + (k + 1)) = val ss + val (ys.take (k + 1)) * 4294967296 ^ t) := by
    show _ = _
    rw [EQ.out, ← Nat.add_assoc, Nat.pow_succ]
    exact back_step (Nat.pow_add _ _ _) (ES s2) HI.out HZ.out.1
   have WN : Wd (rs.set (t + k) s2) := wd_set wR (t + k) HZ.out.2.2.2.1 HZ.out.2.2.2.2
   have DN : Hid ((rs.set (t + k) s2).drop (t + n + 1) = ss.drop (t + n + 1)) := (DS s2).trans HD.out
   obtain ⟨hc0, hf0, -, -⟩ := oc _ o
   clear EQ HI ES DS wR hz hcz HV hl h hrl wS HD
   go_wp2_with (first
    | (go_at_call 228; with_reducible refine Calls.mono (AC _) ?_; rintro e w4 ⟨rfl, b4⟩; have o4 := o.more b4; obtain ⟨hc4, hf4, -, -⟩ := oc _ o4))
   go_roundw
   case rel => exact ⟨k + 1, cq, rs.set (t + k) s2, by omega, by go_num, rfl, HZ.out.2.1, HZ.out.2.2.1, o4.set (t + k) s2, WN, (hB.more b4).set _ _, DN.out, HN.out⟩
   case measure => simp [intOf]; omega
  ·obtain ⟨y0, y1⟩ := wd_getD wR (t + n)
   have HI' : Hid (val rs + cy.toNat * 4294967296 ^ (t + n) = val ss + val ys * 4294967296 ^ t) := by
    have h1 := HI.out
    have h2 := hl.out
    rw [show k = n by omega, List.take_of_length_le (by omega)] at h1
    exact h1
   have ES := fun y => val_set rs (t + n) y (by omega)
   have DS := fun y => drop_set (rs := rs) (k := t + n) (T := t + n + 1) y (by omega)
   have oc := fun v (ov : Own W v (.slice (some ⟨g, 0, none⟩) M M) M rs) => ov.cell (t + n) (by omega)
   generalize rs.getD (t + n) 0 = s at oc ES y0 y1
   have AC := fun v => limb_add s 0 cy v y0 y1 (by omega) (by omega) c0 (by omega)
   have HZ : Hid (((s + 0 + cy) % 4294967296).toNat + 4294967296 * ((s + 0 + cy) / 4294967296).toNat = s.toNat + cy.toNat ∧ 0 ≤ (s + 0 + cy) / 4294967296 ∧ (s + 0 + cy) / 4294967296 ≤ 1 ∧ 0 ≤ (s + 0 + cy) % 4294967296 ∧ (s + 0 + cy) % 4294967296 < 4294967296) :=
    ⟨by omega, by omega, by omega, by omega, by omega⟩
   generalize (s + 0 + cy) % 4294967296 = s2 at AC HZ
   generalize (s + 0 + cy) / 4294967296 = b2 at AC HZ
   have HN : Hid (val (rs.set (t + n) s2) + b2.toNat * 4294967296 ^ (t + n + 1) = val ss + val ys * 4294967296 ^ t) := by
    show _ = _
    rw [Nat.pow_succ]
    exact back_last (ES s2) HI'.out HZ.out.1
   have WN : Wd (rs.set (t + n) s2) := wd_set wR (t + n) HZ.out.2.2.2.1 HZ.out.2.2.2.2
   have LN : Hid (val (rs.set (t + n) s2) < 4294967296 ^ (t + n + 1)) := val_lt_of_drop WN ((DS s2).trans HD.out) HV.out
   obtain ⟨hc0, hf0, -, -⟩ := oc _ o
   obtain ⟨p0, p1⟩ : 0 ≤ b2 ∧ b2 ≤ 1 := ⟨HZ.out.2.1, HZ.out.2.2.1⟩
   clear HI HI' ES DS wR hz HV hl h hrl wS HD HZ
   rcases (by omega : b2 = 0 ∨ b2 = 1) with rfl | rfl
   all_goals
    go_wp2_with (first
     | (go_at_call 228; with_reducible refine Calls.mono (AC _) ?_; rintro e w4 ⟨rfl, b4⟩; have o4 := o.more b4; obtain ⟨hc4, hf4, -, -⟩ := oc _ o4))
    go_ret
    exact ⟨_, _, by decide, rfl, o4.set (t + n) s2, WN, (hB.more b4).set _ _, LN.out, HN.out⟩
end
section
open Go.RowKit
def AnsSmall (W : World) (Q : Nat) (R : Int) (e : Ending) (w' : World) : Prop := ∃ a c, e = .returned (.tuple #[.slice a (nl Q) c, .int .u32 R, .bool true]) ∧ Own W w' (.slice a (nl Q) c) (nl Q) (natOf Q)
theorem small_step {p Q Q' D R R' z q V : Nat} (hs : Q' + 0 * p = Q + q * p) (hi : Q * D + R * (p * 4294967296) = V) (hy : q * D + R' = R * 4294967296 + z) : Q' * D + R' * p = V + z * p := by
 have e : (q * D + R') * p = (R * 4294967296 + z) * p := by rw [hy]
 have e1 : R * (p * 4294967296) = R * 4294967296 * p := by rw [Nat.mul_comm p, Nat.mul_assoc]
 rw [show Q' = Q + q * p by omega, Nat.add_mul, Nat.mul_right_comm q p D, ← hi, e1]
 rw [Nat.add_mul, Nat.add_mul] at e
 omega
def Low0 (k : Nat) (qs : List Int) : Prop := ∀ j, j < k → qs.getD j 0 = 0
theorem low0_zeros (k L : Nat) : Low0 k (List.replicate L 0) := fun j _ => by
 rw [List.getD_eq_getElem?_getD, List.getElem?_replicate]; split <;> rfl
theorem ret_small {a : Option Addr} {n c : Nat} {R R' : Int} {r : Bool} (h : R = R') : Ending.returned (.tuple #[.slice a n c, .int .u32 R, .bool r]) = .returned (.tuple #[.slice a n c, .int .u32 R', .bool r]) := by rw [h]
theorem split_small (a : Option Addr) (n c : Nat) (zs : List Int) (d : Int) (w : World) (h : IsWords w (.slice a n c) zs) (hz : Wd zs) (hn : n ≤ 35184372088832) (d0 : 0 < d) (d1 : d < 4294967296) :
  Calls Tryz.prog 146 #[.slice a n c, .int .u32 d] w (AnsSmall w (val zs / d.toNat) ((val zs % d.toNat : Nat) : Int)) := by
 have R1 := split_right a n c zs w h hz
 have S1 := h.right hz
 have b1 := (h.low hz).2.2
 have wP := wd_natOf (val zs)
 have EV : Hid (val (natOf (val zs)) = val zs) := val_natOf (val zs)
 have hl : Hid ((natOf (val zs)).length = nl (val zs)) := rfl
 clear h hz
 generalize val zs = A at *
 generalize nl A = L at R1 S1 b1 hl
 generalize natOf A = ps at S1 wP EV hl
 have dne : d ≠ 0 := by omega
 go_enter Tryz.func146, Tryz.ntmps146
 go_wp2_with (first
  | (go_at_call 172; with_reducible refine Calls.mono R1 ?_; rintro e w1 ⟨rfl, rfl⟩)
  | (at_make; refine wpl_make_words (.tmp 13) rfl rfl w w L _ rfl (by omega) (by omega) (Below.refl _ _) ?_; intro g w1 hg o1))
 clear R1
 go_loopw [5, 7] (fun rr i v => ∃ (k : Nat) (R : Int) (qs : List Int), k ≤ L ∧ i = .int .i64 ((k : Int) - 1) ∧ rr = .int .u32 R ∧ 0 ≤ R ∧ R < d ∧ Own w v (.slice (some ⟨g, 0, none⟩) L L) L qs ∧ Wd qs ∧ Low0 k qs ∧ val qs * d.toNat + R.toNat * 4294967296 ^ k = 4294967296 ^ k * val (ps.drop k)) (fun _ i _ => (intOf i + 1).toNat)
 case atStart => exact ⟨L, 0, _, by omega, rfl, rfl, by omega, d0, o1, wd_zeros L, low0_zeros L L, by rw [val_zeros, List.drop_of_length_le (by rw [hl.out]; omega)]; simp [val]⟩
 case round =>
  obtain ⟨k, R, qs, hk, rfl, rfl, r0, r1, o, wQ, hL0, hI⟩ := hrel
  have HI : Hid (val qs * d.toNat + R.toNat * 4294967296 ^ k = 4294967296 ^ k * val (ps.drop k)) := hI
  have HL : Hid (Low0 k qs) := hL0
  clear hI hL0 o1
  have hql := o.length
  rcases Nat.eq_zero_or_pos k with hk0 | hk0
  ·subst hk0
   rw [show ((0 : Nat) : Int) - 1 = -1 from rfl]
   have HS : val qs * d.toNat + R.toNat = A := by
    have h1 := HI.out
    rw [Nat.pow_zero, List.drop_zero, EV.out] at h1
    omega
   have hdt : (0 : Nat) < d.toNat := by omega
   have hRt : R.toNat < d.toNat := by omega
   have HQ : val qs = A / d.toNat := by
    rw [← HS, Nat.mul_comm, Nat.mul_add_div hdt, Nat.div_eq_of_lt hRt, Nat.add_zero]
   have HR : Hid (R = ((A % d.toNat : Nat) : Int)) := by
    show _ = _
    have : A % d.toNat = R.toNat := by rw [← HS, Nat.mul_comm, Nat.mul_add_mod, Nat.mod_eq_of_lt hRt]
    omega
   have R3 := split_right _ _ _ qs wr o.words wQ
   have OR := o.right wQ
   rw [HQ] at R3 OR
   clear HI HL o wQ hql HS HQ S1 EV hl wP
   go_wp2_with (first
    | (go_at_call 172; with_reducible refine Calls.mono R3 ?_; rintro e w1 ⟨rfl, rfl⟩))
   go_ret3
   exact ⟨_, _, ret_small HR.out, OR⟩
  ·obtain ⟨t, rfl⟩ : ∃ t, k = t + 1 := ⟨k - 1, by omega⟩
   rw [show ((t + 1 : Nat) : Int) - 1 = t by omega]
   obtain ⟨z0, z1⟩ := wd_getD wP t
   rcases (S1.below o.below).reads.1.2 with h0 | ⟨b, off, rfl, hcz⟩
   ·omega
   have hck := hcz t (by omega)
   have DV : Hid (val (ps.drop t) = (ps.getD t 0).toNat + 4294967296 * val (ps.drop (t + 1))) := val_drop ps t
   generalize ps.getD t 0 = z at hck DV z0 z1
   have AC := limb_div R z d wr r0 r1 z0 z1 d1
   have HY : Hid ((((R * 4294967296 + z) / d).toNat * d.toNat + ((R * 4294967296 + z) % d).toNat = R.toNat * 4294967296 + z.toNat) ∧ 0 ≤ (R * 4294967296 + z) / d ∧ (R * 4294967296 + z) / d < 4294967296 ∧ 0 ≤ (R * 4294967296 + z) % d ∧ (R * 4294967296 + z) % d < d) := by
    have q0 : 0 ≤ (R * 4294967296 + z) / d := Int.ediv_nonneg (by omega) (by omega)
    have q1 : (R * 4294967296 + z) / d < 4294967296 := Int.ediv_lt_of_lt_mul (by omega) (by omega)
    have r0' : 0 ≤ (R * 4294967296 + z) % d := Int.emod_nonneg _ (by omega)
    have r1' : (R * 4294967296 + z) % d < d := Int.emod_lt_of_pos _ (by omega)
    refine ⟨?_, q0, q1, r0', r1'⟩
    have h1 := Int.ediv_mul_add_emod (R * 4294967296 + z) d
    have h2 : ((R * 4294967296 + z) / d * d).toNat = ((R * 4294967296 + z) / d).toNat * d.toNat := Int.toNat_mul q0 (by omega)
    have h3 : 0 ≤ (R * 4294967296 + z) / d * d := Int.mul_nonneg q0 (by omega)
    rw [← h2]
    omega
   generalize (R * 4294967296 + z) / d = y at AC HY
   generalize (R * 4294967296 + z) % d = R2 at AC HY
   have ES := val_set qs t y (by omega)
   rw [HL.out t (by omega)] at ES
   have HN : Hid (val (qs.set t y) * d.toNat + R2.toNat * 4294967296 ^ t = 4294967296 ^ t * val (ps.drop t)) := by
    show _ = _
    have h1 := HI.out
    rw [Nat.pow_succ] at h1
    have h2 := small_step (p := 4294967296 ^ t) ES h1 HY.out.1
    rw [h2, DV.out, Nat.mul_add, Nat.mul_comm z.toNat, Nat.mul_assoc, Nat.add_comm]
   have WN : Wd (qs.set t y) := wd_set wQ t HY.out.2.1 HY.out.2.2.1
   have LN : Low0 t (qs.set t y) := fun j hj => by
    rw [List.getD_eq_getElem?_getD, List.getElem?_set_ne (by omega), ← List.getD_eq_getElem?_getD]
    exact HL.out j (by omega)
   have H2 : 0 ≤ R2 ∧ R2 < d := HY.out.2.2.2
   have HH : Hid (Low0 t (qs.set t y)) := LN
   obtain ⟨hc0, hf0, -, -⟩ := o.cell t (by omega)
   clear DV HI ES wQ hcz hql HY LN HL EV hl S1 wP
   go_wp2_with (first
    | (go_at_call 173; with_reducible refine Calls.mono AC ?_; rintro e w4 ⟨rfl, b4⟩; have o4 := o.more b4; obtain ⟨hc4, hf4, -, -⟩ := o4.cell t (by omega)))
   go_roundw
   case rel => exact ⟨t, R2, qs.set t y, by omega, rfl, rfl, H2.1, H2.2, o4.set t y, WN, HH.out, HN.out⟩
   case measure => simp [intOf]
end
section
open Go.RowKit
theorem guess_le {ss ys : List Int} {t n : Nat} {h1 h0 b1 : Int} (hs : Wd ss) (hb : 0 < b1) (e1 : ss.getD (t + n + 1) 0 = h1) (e0 : ss.getD (t + n) 0 = h0) (eb : ys.getD n 0 = b1) (hl : ys.length = n + 1) (hv : val ss < 4294967296 ^ (t + (n + 1) + 1))
  (q : Nat) (hq : q * val ys * 4294967296 ^ t ≤ val ss) : (q : Int) ≤ (h1 * 4294967296 + h0) / b1 := by
 have w1 := wd_getD hs (t + n + 1)
 have w0 := wd_getD hs (t + n)
 rw [e1] at w1
 rw [e0] at w0
 have s1 : val ss = val (ss.take (t + n)) + (h0.toNat + 4294967296 * h1.toNat) * 4294967296 ^ (t + n) := by
  have a1 := val_take_all ss (t + n + 1 + 1) (by rw [show t + n + 1 + 1 = t + (n + 1) + 1 by omega]; exact hv)
  rw [val_take_succ, val_take_succ, e1, e0, Nat.pow_succ] at a1
  rw [← a1, Nat.add_mul, Nat.mul_comm (4294967296 ^ (t + n)), ← Nat.mul_assoc, Nat.mul_comm h1.toNat]
  omega
 have s2 := val_take_lt ss hs (t + n)
 have s3 : b1.toNat * 4294967296 ^ n ≤ val ys := by
  have a1 : ys.take (n + 1) = ys := List.take_of_length_le (by omega)
  have a2 := val_take_succ ys n
  rw [a1, eb] at a2
  omega
 have s4 : q * b1.toNat * 4294967296 ^ (t + n) ≤ val ss := by
  refine Nat.le_trans ?_ hq
  rw [Nat.pow_add, Nat.mul_comm (4294967296 ^ t), ← Nat.mul_assoc, Nat.mul_assoc q]
  exact Nat.mul_le_mul_right _ (Nat.mul_le_mul_left _ s3)
 have s5 : q * b1.toNat * 4294967296 ^ (t + n) < (h0.toNat + 4294967296 * h1.toNat + 1) * 4294967296 ^ (t + n) := by
  rw [Nat.add_mul (h0.toNat + 4294967296 * h1.toNat) 1]
  omega
 have s6 := Nat.lt_of_mul_lt_mul_right s5
 rw [Int.le_ediv_iff_mul_le hb]
 have s7 : (q : Int) * b1 = ((q * b1.toNat : Nat) : Int) := by
  rw [Int.natCast_mul, Int.toNat_of_nonneg (by omega)]
 rw [s7]
 omega
section
attribute [local go_sem ↓] Go.wp_at_zero Go.wp_at_succ
theorem split_guess (W : World) (g M t n N c C : Nat) (ss : List Int) (a : Option Addr) (ys : List Int) (w : World) (o : Own W w (.slice (some ⟨g, 0, none⟩) M M) M ss) (wS : Wd ss)
  (h : IsWords w (.slice a N c) ys) (hz : Wd ys) (hN : N = n + 1) (hM : t + N + 1 ≤ M) (hM2 : M ≤ 35184372088832) (hv : val ss < 4294967296 ^ (t + N + 1)) (htop : ys.getD n 0 ≠ 0) :
  Calls Tryz.prog 212 #[.slice (some ⟨g, t, none⟩) (N + 1) C, .slice a N c] w fun e w' => ∃ G : Int, e = .returned (.int .u32 G) ∧ 0 ≤ G ∧ G < 4294967296 ∧ Below w.heap.size w w' ∧
   ∀ q : Nat, q < 4294967296 → q * val ys * 4294967296 ^ t ≤ val ss → (q : Int) ≤ G := by
 obtain ⟨z0, z1⟩ := wd_getD hz n
 have hG := fun h1 h0 b1 hb e1 e0 eb => guess_le (ss := ss) (ys := ys) (t := t) (n := n) (h1 := h1) (h0 := h0) (b1 := b1) wS hb e1 e0 eb (by rw [h.len, hN]) (by rw [← hN]; exact hv)
 have hc1 := (o.cell (t + N) (by omega)).1
 have hc0 := (o.cell (t + n) (by omega)).1
 obtain ⟨x0, x1⟩ := wd_getD wS (t + N)
 obtain ⟨y0, y1⟩ := wd_getD wS (t + n)
 rcases h.reads.1.2 with h0 | ⟨b, off, rfl, hcz⟩
 ·omega
 have hcb := hcz n (by omega)
 clear hcz h hz hv wS o
 generalize ys.getD n 0 = bt at hcb hG z0 z1 htop
 have eN : t + n + 1 = t + N := by omega
 rw [eN] at hG
 generalize ss.getD (t + N) 0 = h1 at hc1 hG x0 x1
 generalize ss.getD (t + n) 0 = h0 at hc0 hG y0 y1
 have HG := hG _ _ _ (by omega) rfl rfl rfl
 clear hG
 have e1 : (N : Int) - 1 = n := by omega
 have n1 : n < N := by omega
 have n2 : N < N + 1 := by omega
 have n3 : n < N + 1 := by omega
 have n4 : n ≤ N := by omega
 have n5 : (n : Int) < (N : Int) + 1 := by omega
 have n7 : IntKind.i64.wrap (n : Int) = n := by rw [IntKind.wrap_i64]; omega
 clear hN eN
 have D1 : w.drew.cell? ⟨g, t + N, none⟩ = some (.int .u32 h1) := hc1
 have D0 : w.drew.cell? ⟨g, t + n, none⟩ = some (.int .u32 h0) := hc0
 have DB : w.drew.cell? ⟨b, off + n, none⟩ = some (.int .u32 bt) := hcb
 have AC : Calls Tryz.prog 173 #[.int .u32 h1, .int .u32 h0, .int .u32 bt] w.drew fun e w' => ∃ (G R : Int) (ok : Bool), e = .returned (.tuple #[.int .u32 G, .int .u32 R, .bool ok]) ∧ Below w.heap.size w w' ∧
   (ok = false ∨ ok = true ∧ 0 ≤ G ∧ G < 4294967296 ∧ Hid (∀ q : Nat, q * val ys * 4294967296 ^ t ≤ val ss → (q : Int) ≤ G)) := by
  by_cases hlt : h1 < bt
  ·have q0 : 0 ≤ (h1 * 4294967296 + h0) / bt := Int.ediv_nonneg (by omega) (by omega)
   have q1 : (h1 * 4294967296 + h0) / bt < 4294967296 := Int.ediv_lt_of_lt_mul (by omega) (by omega)
   refine (limb_div h1 h0 bt w.drew x0 hlt y0 y1 z1).mono ?_
   rintro e w3 ⟨rfl, b3⟩
   exact ⟨_, _, _, rfl, (Below.refl _ w).drew.trans b3, .inr ⟨rfl, q0, q1, HG⟩⟩
  ·refine (limb_div_no h1 h0 bt w.drew (by omega)).mono ?_
   rintro e w3 ⟨rfl, b3⟩
   exact ⟨_, _, _, rfl, (Below.refl _ w).drew.trans b3, .inl rfl⟩
 clear HG hc0 hc1 hcb
 go_enter Tryz.func212, Tryz.ntmps212
 go_wp2
 go_region_with (first
  | (go_at_call 173; with_reducible refine Calls.mono AC ?_; rintro e w3 ⟨G, R, ok, rfl, b3, hok⟩))
 all_goals
  rcases hok with rfl | ⟨rfl, q0, q1, HH⟩
  ·go_wp2
   go_ret
   exact ⟨4294967295, rfl, by omega, by omega, b3, fun q hq _ => by omega⟩
  ·go_wp2
   go_ret
   exact ⟨G, rfl, q0, q1, b3, fun q _ hq => HH.out q hq⟩
end
end
end Go.Proofs.YtaeladkcmpdkhaaGreatDoor
