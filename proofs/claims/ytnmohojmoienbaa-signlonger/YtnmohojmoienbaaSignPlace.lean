/-
  Laws of no function: places in a text, as a function of the text; they go on rune by rune; behind lines another text's places are its own. No conditions of the program.
-/
import Derived.Test.YtnmohojmoienbaaSignMath
namespace Go.Proofs.Ytnmohojmoienbaa
open Go.Lib

/-- A byte of a text, 0 behind its end. -/
def bt (s : ByteArray) (i : Nat) : Nat := (s.get! i).toNat
theorem bt_lt (s : ByteArray) (i : Nat) : bt s i < 256 := UInt8.toNat_lt _
theorem decode_bt (s : ByteArray) (i : Nat) : Utf8.decode s i = decodeN (s.size - i) (bt s i) (bt s (i + 1)) (bt s (i + 2)) (bt s (i + 3)) := decode_at s i

set_option maxRecDepth 100000 in
set_option maxHeartbeats 4000000 in
theorem decodeN_size (n b0 b1 b2 b3 : Nat) (hn : 1 ≤ n) : 1 ≤ (decodeN n b0 b1 b2 b3).2 ∧ (decodeN n b0 b1 b2 b3).2 ≤ 4 ∧ (decodeN n b0 b1 b2 b3).2 ≤ n := by
  unfold decodeN; repeat' split
  all_goals simp only
  all_goals omega
set_option maxRecDepth 100000 in
set_option maxHeartbeats 4000000 in
/-- The bytes of a rune behind its first one are 128 and more. -/
theorem decodeN_inner (n b0 b1 b2 b3 : Nat) : (1 < (decodeN n b0 b1 b2 b3).2 → 128 ≤ b0 ∧ 128 ≤ b1) ∧ (2 < (decodeN n b0 b1 b2 b3).2 → 128 ≤ b2) ∧ (3 < (decodeN n b0 b1 b2 b3).2 → 128 ≤ b3) := by
  unfold decodeN; repeat' split
  all_goals simp only
  all_goals refine ⟨fun h => ?_, fun h => ?_, fun h => ?_⟩
  all_goals omega
set_option maxRecDepth 100000 in
set_option maxHeartbeats 4000000 in
/-- A rune below 128 is its byte. -/
theorem decodeN_low (n b0 b1 b2 b3 : Nat) : (decodeN n b0 b1 b2 b3).1 < 128 ↔ b0 < 128 := by
  unfold decodeN; repeat' split
  all_goals simp only
  all_goals constructor
  all_goals intro h
  all_goals omega
set_option maxRecDepth 100000 in
set_option maxHeartbeats 4000000 in
theorem decodeN_range (n b0 b1 b2 b3 : Nat) : (decodeN n b0 b1 b2 b3).1 ≤ 1114111 := by
  unfold decodeN; repeat' split
  all_goals simp only
  all_goals omega
set_option maxRecDepth 100000 in
set_option maxHeartbeats 4000000 in
/-- What lies behind a rune doesn't count. -/
theorem decodeN_more {n n' b0 b1 b2 b3 b1' b2' b3' : Nat} (h : (decodeN n b0 b1 b2 b3).1 ≠ 65533) (hn : n ≤ n') (h1 : 1 < n → b1' = b1) (h2 : 2 < n → b2' = b2) (h3 : 3 < n → b3' = b3) : decodeN n' b0 b1' b2' b3' = decodeN n b0 b1 b2 b3 := by
  unfold decodeN at h ⊢
  by_cases k1 : 1 < n
  · obtain rfl := h1 k1
    by_cases k2 : 2 < n
    · obtain rfl := h2 k2
      by_cases k3 : 3 < n
      · obtain rfl := h3 k3
        simp only [show 1 < n' from by omega, show 2 < n' from by omega, show 3 < n' from by omega, k1, k2, k3]
      · simp only [show 1 < n' from by omega, show 2 < n' from by omega, k1, k2, k3, false_and, and_false, if_false] at h ⊢
        repeat' split
        all_goals first | rfl | (exfalso; simp_all; done) | (exfalso; omega)
    · simp only [show 1 < n' from by omega, k1, k2, show ¬ 3 < n from by omega, false_and, and_false, if_false] at h ⊢
      repeat' split
      all_goals first | rfl | (exfalso; simp_all; done) | (exfalso; omega)
  · simp only [k1, show ¬ 2 < n from by omega, show ¬ 3 < n from by omega, false_and, and_false, if_false] at h ⊢
    by_cases hb : b0 < 128
    · rw [if_pos hb]; rw [if_pos hb]
    · rw [if_neg hb] at h; exact absurd rfl h

theorem next_size {s : ByteArray} {i : Nat} (h : i < s.size) : 1 ≤ nextN s i ∧ nextN s i ≤ 4 ∧ i + nextN s i ≤ s.size := by
  unfold nextN; rw [decode_bt]
  have := decodeN_size (s.size - i) (bt s i) (bt s (i + 1)) (bt s (i + 2)) (bt s (i + 3)) (by omega)
  omega
theorem next_range (s : ByteArray) (i : Nat) : 0 ≤ nextR s i ∧ nextR s i ≤ 1114111 := by
  unfold nextR; rw [decode_bt]
  have := decodeN_range (s.size - i) (bt s i) (bt s (i + 1)) (bt s (i + 2)) (bt s (i + 3))
  omega
theorem next_inner {s : ByteArray} {i k : Nat} (h0 : i < k) (h1 : k < i + nextN s i) : 128 ≤ bt s i ∧ 128 ≤ bt s k := by
  unfold nextN at h1; rw [decode_bt] at h1
  have a := decodeN_inner (s.size - i) (bt s i) (bt s (i + 1)) (bt s (i + 2)) (bt s (i + 3))
  have b : (decodeN (s.size - i) (bt s i) (bt s (i + 1)) (bt s (i + 2)) (bt s (i + 3))).2 ≤ 4 := by
    generalize hX : decodeN (s.size - i) (bt s i) (bt s (i + 1)) (bt s (i + 2)) (bt s (i + 3)) = X at *
    unfold decodeN at hX
    repeat' split at hX
    all_goals (subst hX; simp only; omega)
  refine ⟨(a.1 (by omega)).1, ?_⟩
  rcases (by omega : k = i + 1 ∨ k = i + 2 ∨ k = i + 3) with rfl | rfl | rfl
  · exact (a.1 (by omega)).2
  · exact a.2.1 (by omega)
  · exact a.2.2 (by omega)
theorem next_low (s : ByteArray) (i : Nat) : nextR s i < 128 ↔ bt s i < 128 := by
  unfold nextR; rw [decode_bt]
  have := decodeN_low (s.size - i) (bt s i) (bt s (i + 1)) (bt s (i + 2)) (bt s (i + 3))
  omega
theorem next_byte {s : ByteArray} {i : Nat} (h : bt s i < 128) : nextR s i = bt s i ∧ nextN s i = 1 := by
  unfold nextR nextN; rw [decode_bt, decodeN_one h]; exact ⟨rfl, rfl⟩
theorem next_line (s : ByteArray) (i : Nat) : nextR s i = 10 ↔ bt s i = 10 := by
  constructor
  · intro h
    have := (next_low s i).1 (by omega)
    have := (next_byte this).1
    omega
  · intro h
    have := (next_byte (s := s) (i := i) (by omega)).1
    omega

/-- The place of the byte at, from a rune's beginning on. -/
def placeF (s : ByteArray) (at_ : Int) : Nat → Nat → Int → Int → Int × Int
  | 0, _, l, c => (l, c)
  | f + 1, i, l, c => if i < s.size then (if at_ < i + nextN s i then (l, c) else placeF s at_ f (i + nextN s i) (if nextR s i = 10 then l + 1 else l) (if nextR s i = 10 then 1 else c + 1)) else (l, c)
/-- The place of a byte. -/
def placeI (s : ByteArray) (at_ : Int) : Int × Int := placeF s at_ (s.size + 1) 0 1 1

/-- Enough is enough. -/
theorem placeF_more (s : ByteArray) (at_ : Int) : ∀ f i l c, s.size < i + f → ∀ g, s.size < i + g → placeF s at_ f i l c = placeF s at_ g i l c := by
  intro f
  induction f with
  | zero =>
    intro i l c hf g hg
    cases g with
    | zero => rfl
    | succ g => unfold placeF; rw [if_neg (by omega)]
  | succ f ih =>
    intro i l c hf g hg
    cases g with
    | zero => unfold placeF; rw [if_neg (by omega)]
    | succ g =>
      unfold placeF
      by_cases h : i < s.size
      · have := next_size h
        rw [if_pos h, if_pos h, ih _ _ _ (by omega) g (by omega)]
      · rw [if_neg h, if_neg h]

/-- A rune begins at i, and its place is this. -/
def At (s : ByteArray) (i : Nat) (l c : Int) : Prop := i ≤ s.size ∧ ∀ at_ : Int, (i : Int) ≤ at_ → ∀ f, s.size < i + f → placeI s at_ = placeF s at_ f i l c
theorem At.zero (s : ByteArray) : At s 0 1 1 := ⟨Nat.zero_le _, fun at_ _ f hf => placeF_more s at_ _ _ _ _ (by omega) f hf⟩
theorem At.here {s : ByteArray} {i : Nat} {l c : Int} (h : At s i l c) {at_ : Int} (h0 : (i : Int) ≤ at_) (h1 : at_ < i + nextN s i) (hi : i < s.size) : placeI s at_ = (l, c) := by
  rw [h.2 at_ h0 (s.size + 1) (by omega)]; unfold placeF; rw [if_pos hi, if_pos h1]
theorem At.last {s : ByteArray} {l c : Int} (h : At s s.size l c) {at_ : Int} (h0 : (s.size : Int) ≤ at_) : placeI s at_ = (l, c) := by
  rw [h.2 at_ h0 1 (by omega)]; unfold placeF; rw [if_neg (by omega)]
theorem At.next {s : ByteArray} {i : Nat} {l c : Int} (h : At s i l c) (hi : i < s.size) : At s (i + nextN s i) (if nextR s i = 10 then l + 1 else l) (if nextR s i = 10 then 1 else c + 1) := by
  have hz := next_size hi
  refine ⟨by omega, fun at_ h0 f hf => ?_⟩
  rw [h.2 at_ (by omega) (f + nextN s i) (by omega)]
  obtain ⟨g, hg⟩ : ∃ g, f + nextN s i = g + 1 := ⟨f + nextN s i - 1, by omega⟩
  rw [hg]
  show (if i < s.size then _ else _) = _
  rw [if_pos hi, if_neg (by omega)]
  exact placeF_more s at_ _ _ _ _ (by omega) _ (by omega)
theorem place_low (s : ByteArray) {at_ : Int} (h : at_ < 0) : placeI s at_ = (1, 1) := by
  unfold placeI placeF
  by_cases h0 : 0 < s.size
  · rw [if_pos h0, if_pos (by omega)]
  · rw [if_neg h0]
end Go.Proofs.Ytnmohojmoienbaa
