/-
  Contracts of the document's own answers of layer 9 (package talwegref09: Next, Key), at every text of up to a million bytes: the rune at a byte is what the model's own decoding tells; memory stays as it is.
-/
import Derived.Test.YtnmohojmoienbaaSignRef
namespace Go.Proofs.Ytnmohojmoienbaa
open Go.RowKit Go.Lib

set_option maxHeartbeats 4000000 in
theorem ref_snext_no {s : ByteArray} (j : Int) (h : j < 0 ∨ (s.size : Int) ≤ j) (w : World) :
    Calls Try.prog 14 #[.string s, .int .i64 j] w fun e w' => e = .returned (.tuple #[.int .i64 0, .int .i64 0]) ∧ w = w' := by
  rcases (by omega : j < 0 ∨ (¬ j < 0 ∧ (s.size : Int) ≤ j)) with h | ⟨h, h2⟩
  all_goals
    go_enter Try.func14, Try.ntmps14
    go_wp2
    go_ret2
    exact ⟨rfl, rfl⟩

/-- The ways that Next goes. -/
theorem next_ways {s : ByteArray} {i : Nat} (h : i < s.size) :
    (bt s i < 128 ∧ nextR s i = bt s i ∧ nextN s i = 1) ∨
    (¬ bt s i < 128 ∧ ((194 ≤ bt s i ∧ bt s i ≤ 223) ∧ (i + 1 < s.size ∧ 128 ≤ bt s (i + 1) ∧ bt s (i + 1) ≤ 191)) ∧ nextR s i = (((bt s i - 192) * 64 + bt s (i + 1) % 64 : Nat) : Int) ∧ nextN s i = 2) ∨
    (¬ bt s i < 128 ∧ ¬ (194 ≤ bt s i ∧ bt s i ≤ 223) ∧ nextR s i = threeI (s.size - i) (bt s i) (bt s (i + 1)) (bt s (i + 2)) ∧ 0 ≤ threeI (s.size - i) (bt s i) (bt s (i + 1)) (bt s (i + 2)) ∧ nextN s i = 3) ∨
    (¬ bt s i < 128 ∧ ¬ (194 ≤ bt s i ∧ bt s i ≤ 223) ∧ threeI (s.size - i) (bt s i) (bt s (i + 1)) (bt s (i + 2)) = -1 ∧ nextR s i = fourI (s.size - i) (bt s i) (bt s (i + 1)) (bt s (i + 2)) (bt s (i + 3)) ∧ 0 ≤ fourI (s.size - i) (bt s i) (bt s (i + 1)) (bt s (i + 2)) (bt s (i + 3)) ∧ nextN s i = 4) ∨
    (¬ bt s i < 128 ∧ ¬ ((194 ≤ bt s i ∧ bt s i ≤ 223) ∧ (i + 1 < s.size ∧ 128 ≤ bt s (i + 1) ∧ bt s (i + 1) ≤ 191)) ∧ threeI (s.size - i) (bt s i) (bt s (i + 1)) (bt s (i + 2)) = -1 ∧ fourI (s.size - i) (bt s i) (bt s (i + 1)) (bt s (i + 2)) (bt s (i + 3)) = -1 ∧ nextR s i = 65533 ∧ nextN s i = 1) := by
  unfold nextR nextN
  rw [decode_bt]
  have hb := bt_lt s i
  generalize hn : s.size - i = n
  have e1 : (i + 1 < s.size) = (1 < n) := propext ⟨fun _ => by omega, fun _ => by omega⟩
  rw [e1]
  generalize bt s i = b0 at *
  generalize bt s (i + 1) = b1 at *
  generalize bt s (i + 2) = b2 at *
  generalize bt s (i + 3) = b3 at *
  by_cases c1 : b0 < 128
  · left; rw [decodeN_one c1]; exact ⟨c1, rfl, rfl⟩
  right
  by_cases c2 : (194 ≤ b0 ∧ b0 ≤ 223) ∧ (1 < n ∧ 128 ≤ b1 ∧ b1 ≤ 191)
  · left; rw [decodeN_two c2.1 c2.2]; exact ⟨c1, c2, rfl, rfl⟩
  right
  by_cases c3 : (224 ≤ b0 ∧ b0 ≤ 239) ∧ (1 < n ∧ (if b0 = 224 then 160 else 128) ≤ b1 ∧ b1 ≤ (if b0 = 237 then 159 else 191)) ∧ (2 < n ∧ 128 ≤ b2 ∧ b2 ≤ 191)
  · left
    rw [decodeN_three c3.1 c3.2.1 c3.2.2]
    unfold threeI
    rw [if_pos c3]
    exact ⟨c1, by omega, rfl, by omega, rfl⟩
  right
  have t3 : threeI n b0 b1 b2 = -1 := if_neg c3
  by_cases c4 : (240 ≤ b0 ∧ b0 ≤ 244) ∧ (1 < n ∧ (if b0 = 240 then 144 else 128) ≤ b1 ∧ b1 ≤ (if b0 = 244 then 143 else 191)) ∧ (2 < n ∧ 128 ≤ b2 ∧ b2 ≤ 191) ∧ (3 < n ∧ 128 ≤ b3 ∧ b3 ≤ 191)
  · left
    rw [decodeN_four c4.1 c4.2.1 c4.2.2.1 c4.2.2.2]
    unfold fourI
    rw [if_pos c4]
    exact ⟨c1, by omega, t3, rfl, by omega, rfl⟩
  right
  have t4 : fourI n b0 b1 b2 b3 = -1 := if_neg c4
  rw [decodeN_none hb c1 c2 c3 c4]
  exact ⟨c1, c2, t3, t4, rfl, rfl⟩

set_option maxHeartbeats 8000000 in
theorem ref_snext {s : ByteArray} (hs : s.size ≤ 1000000) (i : Nat) (h : i < s.size) (w : World) :
    Calls Try.prog 14 #[.string s, .int .i64 i] w fun e w' => e = .returned (.tuple #[.int .i64 (nextR s i), .int .i64 (nextN s i)]) ∧ w = w' := by
  have W := next_ways h
  have g1 : (i : Int) < s.size := by omega
  have g2 : ¬ (s.size : Int) ≤ i := by omega
  have g3 : ¬ (i : Int) < 0 := by omega
  have hw := wrap_byte s[i]
  have w1 : wrap64 ((i : Int) + 1) = (i : Int) + 1 := by unfold wrap64; omega
  obtain ⟨r0, hr0⟩ : ∃ r, decide (i < s.size ∧ (194 : Int) ≤ (bt s i : Int) ∧ (bt s i : Int) ≤ 223) = r := ⟨_, rfl⟩
  obtain ⟨r1, hr1⟩ : ∃ r, decide (i + 1 < s.size ∧ (128 : Int) ≤ (bt s (i + 1) : Int) ∧ (bt s (i + 1) : Int) ≤ 191) = r := ⟨_, rfl⟩
  have J0 := fun v => ref_sin i (i : Int) rfl 194 223 r0 hr0 v
  have J1 := fun v => ref_sin (i + 1) ((i : Int) + 1) (by omega) 128 191 r1 hr1 v
  have T := fun v => ref_three hs i h _ rfl v
  have Fo := fun v => ref_four hs i h _ rfl v
  have hl := fun (q : i + 1 < s.size) v => ref_slow (i + 1) q ((i : Int) + 1) (by omega) v
  have hbt := bt_get h
  generalize threeI (s.size - i) (bt s i) (bt s (i + 1)) (bt s (i + 2)) = t at *
  generalize fourI (s.size - i) (bt s i) (bt s (i + 1)) (bt s (i + 2)) (bt s (i + 3)) = f at *
  generalize nextR s i = R at *
  generalize nextN s i = M at *
  rcases W with ⟨a0, rfl, rfl⟩ | ⟨a0, a1, rfl, rfl⟩ | ⟨a0, a1, rfl, a2, rfl⟩ | ⟨a0, a1, rfl, rfl, a2, rfl⟩ | ⟨a0, a1, rfl, rfl, rfl, rfl⟩
  case' inl => have k0 : (s[i].toNat : Int) < 128 := by omega
  case' inr.inl =>
    have k0 : ¬ (s[i].toNat : Int) < 128 := by omega
    obtain rfl : r0 = true := by rw [← hr0]; exact decide_eq_true (by omega)
    obtain rfl : r1 = true := by rw [← hr1]; exact decide_eq_true (by omega)
    replace hl := hl a1.2.1
  case' inr.inr.inl =>
    have k0 : ¬ (s[i].toNat : Int) < 128 := by omega
    obtain rfl : r0 = false := by rw [← hr0]; exact decide_eq_false (by omega)
  case' inr.inr.inr.inl =>
    have k0 : ¬ (s[i].toNat : Int) < 128 := by omega
    obtain rfl : r0 = false := by rw [← hr0]; exact decide_eq_false (by omega)
  case' inr.inr.inr.inr =>
    have k0 : ¬ (s[i].toNat : Int) < 128 := by omega
    have a2 : r0 = false ∨ (r0 = true ∧ r1 = false) := by
      rw [← hr0, ← hr1]
      simp only [decide_eq_false_iff_not, decide_eq_true_eq]
      omega
    rcases a2 with rfl | ⟨rfl, rfl⟩
  all_goals
    have HK : Hid (bt s i = s[i].toNat) := hbt
    have hb8 : Hid (s[i].toNat < 256) := s[i].toNat_lt
    (try have HA : Hid (194 ≤ bt s i) := a1.1.1)
    clear hr0 hr1 a0 hs hbt
    (try clear a1)
    go_enter Try.func14, Try.ntmps14
    go_wp2_with (first
      | (go_at_call 22; (with_reducible refine Calls.mono (J0 _) ?_); rintro e v0 ⟨rfl, rfl⟩)
      | (go_at_call 22; (with_reducible refine Calls.mono (J1 _) ?_); rintro e v1 ⟨rfl, rfl⟩)
      | (go_at_call 23; (with_reducible refine Calls.mono (hl _) ?_); rintro e v2 ⟨rfl, rfl⟩)
      | (go_at_call 24; (with_reducible refine Calls.mono (T _) ?_); rintro e v3 ⟨rfl, rfl⟩)
      | (go_at_call 25; (with_reducible refine Calls.mono (Fo _) ?_); rintro e v4 ⟨rfl, rfl⟩))
    go_ret2
    first
      | exact ⟨rfl, rfl⟩
      | (rw [HK.out]; exact ⟨rfl, rfl⟩)
      | (refine ⟨?_, rfl⟩
         have hB := HK.out
         have hA := HA.out
         have h8 := hb8.out
         have l1 : bt s (i + 1) % 64 < 64 := Nat.mod_lt _ (by omega)
         show Ending.returned (.tuple #[.int .i64 _, .int .i64 _]) = .returned (.tuple #[.int .i64 _, .int .i64 _])
         congr 5
         (try unfold wrap64)
         omega)

set_option maxHeartbeats 2000000 in
theorem ref_skey (s : ByteArray) (r : Bool) (hr : keyB s = r) (w : World) :
    Calls Try.prog 20 #[.string s] w fun e w' => e = .returned (.bool r) ∧ w = w' := by
  unfold keyB at hr
  generalize h1 : (s.toList == [105, 110]) = q1 at hr
  generalize h2 : (s.toList == [108, 101, 116]) = q2 at hr
  generalize h3 : (s.toList == [111, 117, 116]) = q3 at hr
  cases q1 <;> cases q2
  all_goals
    simp at hr
    subst hr
    go_enter Try.func20, Try.ntmps20
    go_wp2
    go_ret
    exact ⟨rfl, rfl⟩
end Go.Proofs.Ytnmohojmoienbaa
