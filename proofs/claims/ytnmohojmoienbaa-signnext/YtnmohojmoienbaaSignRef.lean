/-
  Contracts of the document's own answers of layer 9 (package talwegref09: in, low, three, four, Next), at every text: the rune at a byte is what the model's own decoding tells; memory stays as it is.
-/
import Derived.Test.YtnmohojmoienbaaRows
import Derived.WalkKit
import Derived.ProofKit
import Derived.WalkLawsBesides
import Derived.Deep.QuietTactic
import Derived.BigQuiet
import Derived.Outline
import Derived.Test.YtnmohojmoienbaaSignTexts
namespace Go.Proofs.Ytnmohojmoienbaa
open Go.RowKit Go.Lib


theorem wrap_byte (b : UInt8) : wrap64 (b.toNat : Int) = b.toNat := by
  have := b.toNat_lt
  unfold wrap64; omega

set_option maxHeartbeats 2000000 in
theorem ref_sin {s : ByteArray} (i : Nat) (j : Int) (hj : (i : Int) = j) (lo hi : Int) (r : Bool) (hr : decide (i < s.size ∧ lo ≤ (bt s i : Int) ∧ (bt s i : Int) ≤ hi) = r) (w : World) :
    Calls Try.prog 22 #[.string s, .int .i64 j, .int .i64 lo, .int .i64 hi] w fun e w' => e = .returned (.bool r) ∧ w = w' := by
  subst hj
  rcases (by by_cases h : i < s.size <;> by_cases h2 : lo ≤ (bt s i : Int) <;> simp [h, h2] : (i < s.size ∧ lo ≤ (bt s i : Int)) ∨ (i < s.size ∧ ¬ lo ≤ (bt s i : Int)) ∨ ¬ i < s.size) with ⟨h, h2⟩ | ⟨h, h2⟩ | h
  case' inl =>
    rw [bt_get h] at hr h2
    have h1 : (i : Int) < s.size := by omega
    have hd : decide ((s[i].toNat : Int) ≤ hi) = r := by rw [← hr]; simp [h, h2]
  case' inr.inl =>
    rw [bt_get h] at hr h2
    have h1 : (i : Int) < s.size := by omega
    obtain rfl : r = false := by rw [← hr]; simp [h2]
  case' inr.inr =>
    have h1 : ¬ (i : Int) < s.size := by omega
    obtain rfl : r = false := by rw [← hr]; simp [h]
  all_goals
    clear hr
    (try have hw := wrap_byte s[i])
    go_enter Try.func22, Try.ntmps22
    go_wp2
    go_ret
    exact ⟨rfl, rfl⟩

set_option maxHeartbeats 2000000 in
theorem ref_slow {s : ByteArray} (i : Nat) (h : i < s.size) (j : Int) (hj : (i : Int) = j) (w : World) :
    Calls Try.prog 23 #[.string s, .int .i64 j] w fun e w' => e = .returned (.int .i64 ((bt s i % 64 : Nat) : Int)) ∧ w = w' := by
  subst hj
  have h1 : (i : Int) < s.size := by omega
  rw [bt_get h]
  have HM : Hid ((s[i].toNat : Int).tmod 64 = ((s[i].toNat % 64 : Nat) : Int)) := by
    show _ = _
    rw [Int.tmod_eq_emod_of_nonneg (by omega)]; omega
  have hw := wrap_byte s[i]
  go_enter Try.func23, Try.ntmps23
  go_wp2
  go_ret
  exact ⟨by first | rfl | rw [← HM.out], rfl⟩

/-- The document's rune of 3 bytes, or -1. -/
def threeI (n b0 b1 b2 : Nat) : Int := if (224 ≤ b0 ∧ b0 ≤ 239) ∧ (1 < n ∧ (if b0 = 224 then 160 else 128) ≤ b1 ∧ b1 ≤ (if b0 = 237 then 159 else 191)) ∧ (2 < n ∧ 128 ≤ b2 ∧ b2 ≤ 191) then (((b0 - 224) * 4096 + b1 % 64 * 64 + b2 % 64 : Nat) : Int) else -1

set_option maxHeartbeats 4000000 in
theorem ref_three {s : ByteArray} (hs : s.size ≤ 1000000) (i : Nat) (h : i < s.size) (z : Int) (hz : threeI (s.size - i) (bt s i) (bt s (i + 1)) (bt s (i + 2)) = z) (w : World) :
    Calls Try.prog 24 #[.string s, .int .i64 i] w fun e w' => e = .returned (.int .i64 z) ∧ w = w' := by
  unfold threeI at hz
  have h1 : (i : Int) < s.size := by omega
  have hw := wrap_byte s[i]
  have hb := s[i].toNat_lt
  have w1 : wrap64 ((i : Int) + 1) = (i : Int) + 1 := by unfold wrap64; omega
  have w2 : wrap64 ((i : Int) + 2) = (i : Int) + 2 := by unfold wrap64; omega
  obtain ⟨r2, hr2⟩ : ∃ r, decide (i + 2 < s.size ∧ (128 : Int) ≤ (bt s (i + 2) : Int) ∧ (bt s (i + 2) : Int) ≤ 191) = r := ⟨_, rfl⟩
  have I2 := fun v => ref_sin (i + 2) ((i : Int) + 2) (by omega) 128 191 r2 hr2 v
  rw [bt_get h] at hz
  rcases (by omega : (s[i].toNat : Int) < 224 ∨ 239 < (s[i].toNat : Int) ∨ s[i].toNat = 224 ∨ s[i].toNat = 237 ∨ (224 ≤ s[i].toNat ∧ s[i].toNat ≤ 239 ∧ s[i].toNat ≠ 224 ∧ s[i].toNat ≠ 237)) with h3 | h3 | h3 | h3 | h3
  case' inl =>
    have e1 : ((s[i].toNat : Int) == 224) = false := by rw [beq_eq_false_iff_ne]; omega
    have e2 : ((s[i].toNat : Int) == 237) = false := by rw [beq_eq_false_iff_ne]; omega
    skip
    obtain rfl : z = -1 := by rw [← hz, if_neg (by omega)]
    clear hz hs hb
  case' inr.inl =>
    have e1 : ((s[i].toNat : Int) == 224) = false := by rw [beq_eq_false_iff_ne]; omega
    have e2 : ((s[i].toNat : Int) == 237) = false := by rw [beq_eq_false_iff_ne]; omega
    have h4 : ¬ (s[i].toNat : Int) < 224 := by omega
    obtain rfl : z = -1 := by rw [← hz, if_neg (by omega)]
    clear hz hs hb
  case' inr.inr.inl =>
    have h4 : ¬ (s[i].toNat : Int) < 224 := by omega
    have h5 : ¬ 239 < (s[i].toNat : Int) := by omega
    have e1 : ((s[i].toNat : Int) == 224) = true := by rw [beq_iff_eq]; omega
    have e2 : ((s[i].toNat : Int) == 237) = false := by rw [beq_eq_false_iff_ne]; omega
    obtain ⟨r1, hr1⟩ : ∃ r, decide (i + 1 < s.size ∧ (160 : Int) ≤ (bt s (i + 1) : Int) ∧ (bt s (i + 1) : Int) ≤ 191) = r := ⟨_, rfl⟩
    have I1 := fun v => ref_sin (i + 1) ((i : Int) + 1) (by omega) 160 191 r1 hr1 v
    have HZ : Hid (((r1 = true ∧ r2 = true) → z = ((((s[i].toNat - 224) * 4096 + bt s (i + 1) % 64 * 64 + bt s (i + 2) % 64 : Nat)) : Int)) ∧ (¬ (r1 = true ∧ r2 = true) → z = -1)) := by
      rw [← hr1, ← hr2]
      simp only [decide_eq_true_eq]
      simp only [h3, if_true, if_false, show ((224 : Nat) = 237) = False from eq_false (by decide)] at hz ⊢
      refine ⟨fun q => ?_, fun q => ?_⟩
      · rw [← hz, if_pos (by omega)]
      · rw [← hz, if_neg (by omega)]
    have HL1 : Hid (r1 = true → i + 1 < s.size) := fun e => (of_decide_eq_true (hr1.trans e)).1
    have HL2 : Hid (r2 = true → i + 2 < s.size) := fun e => (of_decide_eq_true (hr2.trans e)).1
    have HB : Hid (224 ≤ s[i].toNat ∧ s[i].toNat < 256) := ⟨by omega, by omega⟩
    clear hz hs hb h3 hr1 hr2
  case' inr.inr.inr.inl =>
    have h4 : ¬ (s[i].toNat : Int) < 224 := by omega
    have h5 : ¬ 239 < (s[i].toNat : Int) := by omega
    have e1 : ((s[i].toNat : Int) == 224) = false := by rw [beq_eq_false_iff_ne]; omega
    have e2 : ((s[i].toNat : Int) == 237) = true := by rw [beq_iff_eq]; omega
    obtain ⟨r1, hr1⟩ : ∃ r, decide (i + 1 < s.size ∧ (128 : Int) ≤ (bt s (i + 1) : Int) ∧ (bt s (i + 1) : Int) ≤ 159) = r := ⟨_, rfl⟩
    have I1 := fun v => ref_sin (i + 1) ((i : Int) + 1) (by omega) 128 159 r1 hr1 v
    have HZ : Hid (((r1 = true ∧ r2 = true) → z = ((((s[i].toNat - 224) * 4096 + bt s (i + 1) % 64 * 64 + bt s (i + 2) % 64 : Nat)) : Int)) ∧ (¬ (r1 = true ∧ r2 = true) → z = -1)) := by
      rw [← hr1, ← hr2]
      simp only [decide_eq_true_eq]
      simp only [h3, if_true, if_false, show ((237 : Nat) = 224) = False from eq_false (by decide)] at hz ⊢
      refine ⟨fun q => ?_, fun q => ?_⟩
      · rw [← hz, if_pos (by omega)]
      · rw [← hz, if_neg (by omega)]
    have HL1 : Hid (r1 = true → i + 1 < s.size) := fun e => (of_decide_eq_true (hr1.trans e)).1
    have HL2 : Hid (r2 = true → i + 2 < s.size) := fun e => (of_decide_eq_true (hr2.trans e)).1
    have HB : Hid (224 ≤ s[i].toNat ∧ s[i].toNat < 256) := ⟨by omega, by omega⟩
    clear hz hs hb h3 hr1 hr2
  case' inr.inr.inr.inr =>
    have h4 : ¬ (s[i].toNat : Int) < 224 := by omega
    have h5 : ¬ 239 < (s[i].toNat : Int) := by omega
    have e1 : ((s[i].toNat : Int) == 224) = false := by rw [beq_eq_false_iff_ne]; omega
    have e2 : ((s[i].toNat : Int) == 237) = false := by rw [beq_eq_false_iff_ne]; omega
    obtain ⟨r1, hr1⟩ : ∃ r, decide (i + 1 < s.size ∧ (128 : Int) ≤ (bt s (i + 1) : Int) ∧ (bt s (i + 1) : Int) ≤ 191) = r := ⟨_, rfl⟩
    have I1 := fun v => ref_sin (i + 1) ((i : Int) + 1) (by omega) 128 191 r1 hr1 v
    have HZ : Hid (((r1 = true ∧ r2 = true) → z = ((((s[i].toNat - 224) * 4096 + bt s (i + 1) % 64 * 64 + bt s (i + 2) % 64 : Nat)) : Int)) ∧ (¬ (r1 = true ∧ r2 = true) → z = -1)) := by
      rw [← hr1, ← hr2]
      simp only [decide_eq_true_eq]
      simp only [h3.2.2.1, h3.2.2.2, if_false] at hz
      refine ⟨fun q => ?_, fun q => ?_⟩
      · rw [← hz, if_pos (by omega)]
      · rw [← hz, if_neg (by omega)]
    have HL1 : Hid (r1 = true → i + 1 < s.size) := fun e => (of_decide_eq_true (hr1.trans e)).1
    have HL2 : Hid (r2 = true → i + 2 < s.size) := fun e => (of_decide_eq_true (hr2.trans e)).1
    have HB : Hid (224 ≤ s[i].toNat ∧ s[i].toNat < 256) := ⟨by omega, by omega⟩
    clear hz hs hb h3 hr1 hr2
  case' inl | inr.inl =>
    go_enter Try.func24, Try.ntmps24
    go_wp2
    go_ret
    exact ⟨rfl, rfl⟩
  all_goals
    cases r1
    case' false => obtain rfl := HZ.out.2 (by simp)
    case' true => cases r2
    case' true.false => obtain rfl := HZ.out.2 (by simp)
    case' true.true =>
      obtain rfl := HZ.out.1 (by simp)
      have L1 := fun v => ref_slow (i + 1) (HL1.out rfl) ((i : Int) + 1) (by omega) v
      have L2 := fun v => ref_slow (i + 2) (HL2.out rfl) ((i : Int) + 2) (by omega) v
    all_goals
      go_enter Try.func24, Try.ntmps24
      go_wp2_with (first
        | (go_at_call 22; (with_reducible refine Calls.mono (I1 _) ?_); rintro e v1 ⟨rfl, rfl⟩)
        | (go_at_call 22; (with_reducible refine Calls.mono (I2 _) ?_); rintro e v2 ⟨rfl, rfl⟩)
        | (go_at_call 23; (with_reducible refine Calls.mono (L1 _) ?_); rintro e u1 ⟨rfl, rfl⟩)
        | (go_at_call 23; (with_reducible refine Calls.mono (L2 _) ?_); rintro e u2 ⟨rfl, rfl⟩))
      go_ret
      first
        | exact ⟨rfl, rfl⟩
        | (refine ⟨?_, rfl⟩
           have hB := HB.out
           have l1 : bt s (i + 1) % 64 < 64 := Nat.mod_lt _ (by omega)
           have l2 : bt s (i + 2) % 64 < 64 := Nat.mod_lt _ (by omega)
           show Ending.returned (.int .i64 _) = .returned (.int .i64 _)
           congr 2
           (try unfold wrap64)
           omega)

/-- The document's rune of 4 bytes, or -1. -/
def fourI (n b0 b1 b2 b3 : Nat) : Int := if (240 ≤ b0 ∧ b0 ≤ 244) ∧ (1 < n ∧ (if b0 = 240 then 144 else 128) ≤ b1 ∧ b1 ≤ (if b0 = 244 then 143 else 191)) ∧ (2 < n ∧ 128 ≤ b2 ∧ b2 ≤ 191) ∧ (3 < n ∧ 128 ≤ b3 ∧ b3 ≤ 191) then (((b0 - 240) * 262144 + b1 % 64 * 4096 + b2 % 64 * 64 + b3 % 64 : Nat) : Int) else -1

set_option maxHeartbeats 4000000 in
theorem ref_four {s : ByteArray} (hs : s.size ≤ 1000000) (i : Nat) (h : i < s.size) (z : Int) (hz : fourI (s.size - i) (bt s i) (bt s (i + 1)) (bt s (i + 2)) (bt s (i + 3)) = z) (w : World) :
    Calls Try.prog 25 #[.string s, .int .i64 i] w fun e w' => e = .returned (.int .i64 z) ∧ w = w' := by
  unfold fourI at hz
  have h1 : (i : Int) < s.size := by omega
  have hw := wrap_byte s[i]
  have hb := s[i].toNat_lt
  have w1 : wrap64 ((i : Int) + 1) = (i : Int) + 1 := by unfold wrap64; omega
  have w2 : wrap64 ((i : Int) + 2) = (i : Int) + 2 := by unfold wrap64; omega
  have w3 : wrap64 ((i : Int) + 3) = (i : Int) + 3 := by unfold wrap64; omega
  obtain ⟨r2, hr2⟩ : ∃ r, decide (i + 2 < s.size ∧ (128 : Int) ≤ (bt s (i + 2) : Int) ∧ (bt s (i + 2) : Int) ≤ 191) = r := ⟨_, rfl⟩
  have I2 := fun v => ref_sin (i + 2) ((i : Int) + 2) (by omega) 128 191 r2 hr2 v
  obtain ⟨r3, hr3⟩ : ∃ r, decide (i + 3 < s.size ∧ (128 : Int) ≤ (bt s (i + 3) : Int) ∧ (bt s (i + 3) : Int) ≤ 191) = r := ⟨_, rfl⟩
  have I3 := fun v => ref_sin (i + 3) ((i : Int) + 3) (by omega) 128 191 r3 hr3 v
  rw [bt_get h] at hz
  rcases (by omega : (s[i].toNat : Int) < 240 ∨ 244 < (s[i].toNat : Int) ∨ s[i].toNat = 240 ∨ s[i].toNat = 244 ∨ (240 ≤ s[i].toNat ∧ s[i].toNat ≤ 244 ∧ s[i].toNat ≠ 240 ∧ s[i].toNat ≠ 244)) with h3 | h3 | h3 | h3 | h3
  case' inl =>
    have e1 : ((s[i].toNat : Int) == 240) = false := by rw [beq_eq_false_iff_ne]; omega
    have e2 : ((s[i].toNat : Int) == 244) = false := by rw [beq_eq_false_iff_ne]; omega
    skip
    obtain rfl : z = -1 := by rw [← hz, if_neg (by omega)]
    clear hz hs hb
  case' inr.inl =>
    have e1 : ((s[i].toNat : Int) == 240) = false := by rw [beq_eq_false_iff_ne]; omega
    have e2 : ((s[i].toNat : Int) == 244) = false := by rw [beq_eq_false_iff_ne]; omega
    have h4 : ¬ (s[i].toNat : Int) < 240 := by omega
    obtain rfl : z = -1 := by rw [← hz, if_neg (by omega)]
    clear hz hs hb
  case' inr.inr.inl =>
    have h4 : ¬ (s[i].toNat : Int) < 240 := by omega
    have h5 : ¬ 244 < (s[i].toNat : Int) := by omega
    have e1 : ((s[i].toNat : Int) == 240) = true := by rw [beq_iff_eq]; omega
    have e2 : ((s[i].toNat : Int) == 244) = false := by rw [beq_eq_false_iff_ne]; omega
    obtain ⟨r1, hr1⟩ : ∃ r, decide (i + 1 < s.size ∧ (144 : Int) ≤ (bt s (i + 1) : Int) ∧ (bt s (i + 1) : Int) ≤ 191) = r := ⟨_, rfl⟩
    have I1 := fun v => ref_sin (i + 1) ((i : Int) + 1) (by omega) 144 191 r1 hr1 v
    have HZ : Hid (((r1 = true ∧ r2 = true ∧ r3 = true) → z = ((((s[i].toNat - 240) * 262144 + bt s (i + 1) % 64 * 4096 + bt s (i + 2) % 64 * 64 + bt s (i + 3) % 64 : Nat)) : Int)) ∧ (¬ (r1 = true ∧ r2 = true ∧ r3 = true) → z = -1)) := by
      rw [← hr1, ← hr2, ← hr3]
      simp only [decide_eq_true_eq]
      simp only [h3, if_true, if_false, show ((240 : Nat) = 244) = False from eq_false (by decide)] at hz ⊢
      refine ⟨fun q => ?_, fun q => ?_⟩
      · rw [← hz, if_pos (by omega)]
      · rw [← hz, if_neg (by omega)]
    have HL1 : Hid (r1 = true → i + 1 < s.size) := fun e => (of_decide_eq_true (hr1.trans e)).1
    have HL2 : Hid (r2 = true → i + 2 < s.size) := fun e => (of_decide_eq_true (hr2.trans e)).1
    have HL3 : Hid (r3 = true → i + 3 < s.size) := fun e => (of_decide_eq_true (hr3.trans e)).1
    have HB : Hid (240 ≤ s[i].toNat ∧ s[i].toNat < 256) := ⟨by omega, by omega⟩
    clear hz hs hb h3 hr1 hr2 hr3
  case' inr.inr.inr.inl =>
    have h4 : ¬ (s[i].toNat : Int) < 240 := by omega
    have h5 : ¬ 244 < (s[i].toNat : Int) := by omega
    have e1 : ((s[i].toNat : Int) == 240) = false := by rw [beq_eq_false_iff_ne]; omega
    have e2 : ((s[i].toNat : Int) == 244) = true := by rw [beq_iff_eq]; omega
    obtain ⟨r1, hr1⟩ : ∃ r, decide (i + 1 < s.size ∧ (128 : Int) ≤ (bt s (i + 1) : Int) ∧ (bt s (i + 1) : Int) ≤ 143) = r := ⟨_, rfl⟩
    have I1 := fun v => ref_sin (i + 1) ((i : Int) + 1) (by omega) 128 143 r1 hr1 v
    have HZ : Hid (((r1 = true ∧ r2 = true ∧ r3 = true) → z = ((((s[i].toNat - 240) * 262144 + bt s (i + 1) % 64 * 4096 + bt s (i + 2) % 64 * 64 + bt s (i + 3) % 64 : Nat)) : Int)) ∧ (¬ (r1 = true ∧ r2 = true ∧ r3 = true) → z = -1)) := by
      rw [← hr1, ← hr2, ← hr3]
      simp only [decide_eq_true_eq]
      simp only [h3, if_true, if_false, show ((244 : Nat) = 240) = False from eq_false (by decide)] at hz ⊢
      refine ⟨fun q => ?_, fun q => ?_⟩
      · rw [← hz, if_pos (by omega)]
      · rw [← hz, if_neg (by omega)]
    have HL1 : Hid (r1 = true → i + 1 < s.size) := fun e => (of_decide_eq_true (hr1.trans e)).1
    have HL2 : Hid (r2 = true → i + 2 < s.size) := fun e => (of_decide_eq_true (hr2.trans e)).1
    have HL3 : Hid (r3 = true → i + 3 < s.size) := fun e => (of_decide_eq_true (hr3.trans e)).1
    have HB : Hid (240 ≤ s[i].toNat ∧ s[i].toNat < 256) := ⟨by omega, by omega⟩
    clear hz hs hb h3 hr1 hr2 hr3
  case' inr.inr.inr.inr =>
    have h4 : ¬ (s[i].toNat : Int) < 240 := by omega
    have h5 : ¬ 244 < (s[i].toNat : Int) := by omega
    have e1 : ((s[i].toNat : Int) == 240) = false := by rw [beq_eq_false_iff_ne]; omega
    have e2 : ((s[i].toNat : Int) == 244) = false := by rw [beq_eq_false_iff_ne]; omega
    obtain ⟨r1, hr1⟩ : ∃ r, decide (i + 1 < s.size ∧ (128 : Int) ≤ (bt s (i + 1) : Int) ∧ (bt s (i + 1) : Int) ≤ 191) = r := ⟨_, rfl⟩
    have I1 := fun v => ref_sin (i + 1) ((i : Int) + 1) (by omega) 128 191 r1 hr1 v
    have HZ : Hid (((r1 = true ∧ r2 = true ∧ r3 = true) → z = ((((s[i].toNat - 240) * 262144 + bt s (i + 1) % 64 * 4096 + bt s (i + 2) % 64 * 64 + bt s (i + 3) % 64 : Nat)) : Int)) ∧ (¬ (r1 = true ∧ r2 = true ∧ r3 = true) → z = -1)) := by
      rw [← hr1, ← hr2, ← hr3]
      simp only [decide_eq_true_eq]
      simp only [h3.2.2.1, h3.2.2.2, if_false] at hz
      refine ⟨fun q => ?_, fun q => ?_⟩
      · rw [← hz, if_pos (by omega)]
      · rw [← hz, if_neg (by omega)]
    have HL1 : Hid (r1 = true → i + 1 < s.size) := fun e => (of_decide_eq_true (hr1.trans e)).1
    have HL2 : Hid (r2 = true → i + 2 < s.size) := fun e => (of_decide_eq_true (hr2.trans e)).1
    have HL3 : Hid (r3 = true → i + 3 < s.size) := fun e => (of_decide_eq_true (hr3.trans e)).1
    have HB : Hid (240 ≤ s[i].toNat ∧ s[i].toNat < 256) := ⟨by omega, by omega⟩
    clear hz hs hb h3 hr1 hr2 hr3
  case' inl | inr.inl =>
    go_enter Try.func25, Try.ntmps25
    go_wp2
    go_ret
    exact ⟨rfl, rfl⟩
  all_goals
    cases r1
    case' false => obtain rfl := HZ.out.2 (by simp)
    case' true => cases r2
    case' true.false => obtain rfl := HZ.out.2 (by simp)
    case' true.true => cases r3
    case' true.true.false => obtain rfl := HZ.out.2 (by simp)
    case' true.true.true =>
      obtain rfl := HZ.out.1 (by simp)
      have L1 := fun v => ref_slow (i + 1) (HL1.out rfl) ((i : Int) + 1) (by omega) v
      have L2 := fun v => ref_slow (i + 2) (HL2.out rfl) ((i : Int) + 2) (by omega) v
      have L3 := fun v => ref_slow (i + 3) (HL3.out rfl) ((i : Int) + 3) (by omega) v
    all_goals
      go_enter Try.func25, Try.ntmps25
      go_wp2_with (first
        | (go_at_call 22; (with_reducible refine Calls.mono (I1 _) ?_); rintro e v1 ⟨rfl, rfl⟩)
        | (go_at_call 22; (with_reducible refine Calls.mono (I2 _) ?_); rintro e v2 ⟨rfl, rfl⟩)
        | (go_at_call 22; (with_reducible refine Calls.mono (I3 _) ?_); rintro e v3 ⟨rfl, rfl⟩)
        | (go_at_call 23; (with_reducible refine Calls.mono (L1 _) ?_); rintro e u1 ⟨rfl, rfl⟩)
        | (go_at_call 23; (with_reducible refine Calls.mono (L2 _) ?_); rintro e u2 ⟨rfl, rfl⟩)
        | (go_at_call 23; (with_reducible refine Calls.mono (L3 _) ?_); rintro e u3 ⟨rfl, rfl⟩))
      go_ret
      first
        | exact ⟨rfl, rfl⟩
        | (refine ⟨?_, rfl⟩
           have hB := HB.out
           have l1 : bt s (i + 1) % 64 < 64 := Nat.mod_lt _ (by omega)
           have l2 : bt s (i + 2) % 64 < 64 := Nat.mod_lt _ (by omega)
           have l3 : bt s (i + 3) % 64 < 64 := Nat.mod_lt _ (by omega)
           show Ending.returned (.int .i64 _) = .returned (.int .i64 _)
           congr 2
           (try unfold wrap64)
           omega)
end Go.Proofs.Ytnmohojmoienbaa
