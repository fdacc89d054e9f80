/-
  Texts of mine in build order. No conditions of their own.
-/
import Derived.WalkKit
import Derived.ProofKit
import Derived.Lib.AppendZerosOnto
import Derived.Lib.DecodeN
set_option maxHeartbeats 8000000
namespace Go.Proofs.YtaeladkcmpdkhaaGreatDoor
section
open Go.Lib
def kindI (r : Int) : Int :=
 if 97 ≤ r ∧ r ≤ 122 ∨ 65 ≤ r ∧ r ≤ 90 ∨ r = 95 ∨ 128 ≤ r ∧ r ≤ 1114111 ∧ r ≠ 65533 then 1
 else if 48 ≤ r ∧ r ≤ 57 then 2
 else if r = 9 ∨ r = 10 ∨ r = 13 ∨ r = 32 then 3
 else if r = 43 ∨ r = 45 ∨ r = 42 ∨ r = 47 ∨ r = 94 ∨ r = 40 ∨ r = 41 ∨ r = 61 ∨ r = 59 ∨ r = 44 then 4
 else 0
theorem kindI_range (r : Int) : 0 ≤ kindI r ∧ kindI r ≤ 4 := by
 unfold kindI; repeat' split
 all_goals omega
def nextR (s : ByteArray) (i : Nat) : Int := (Utf8.decode s i).1
def nextN (s : ByteArray) (i : Nat) : Nat := (Utf8.decode s i).2
theorem decodeN_one {n b0 b1 b2 b3 : Nat} (h : b0 < 128) : decodeN n b0 b1 b2 b3 = (b0, 1) := by unfold decodeN; rw [if_pos h]
end
section
open Go.Lib
def bt (s : ByteArray) (i : Nat) : Nat := (s.get! i).toNat
theorem decode_bt (s : ByteArray) (i : Nat) : Utf8.decode s i = decodeN (s.size - i) (bt s i) (bt s (i + 1)) (bt s (i + 2)) (bt s (i + 3)) := decode_at s i
set_option maxRecDepth 100000 in
theorem decodeN_size (n b0 b1 b2 b3 : Nat) (hn : 1 ≤ n) : 1 ≤ (decodeN n b0 b1 b2 b3).2 ∧ (decodeN n b0 b1 b2 b3).2 ≤ 4 ∧ (decodeN n b0 b1 b2 b3).2 ≤ n := by
 unfold decodeN; repeat' split
 all_goals simp only
 all_goals omega
set_option maxRecDepth 100000 in
/-- A rune below 128 is its byte. -/
theorem decodeN_low (n b0 b1 b2 b3 : Nat) : (decodeN n b0 b1 b2 b3).1 < 128 ↔ b0 < 128 := by
 unfold decodeN; repeat' split
 all_goals simp only
 all_goals constructor
 all_goals intro h
 all_goals omega
set_option maxRecDepth 100000 in
/-- What lies behind a rune doesn't count. -/
theorem decodeN_more {n n' b0 b1 b2 b3 b1' b2' b3' : Nat} (h : (decodeN n b0 b1 b2 b3).1 ≠ 65533) (hn : n ≤ n') (h1 : 1 < n → b1' = b1) (h2 : 2 < n → b2' = b2) (h3 : 3 < n → b3' = b3) : decodeN n' b0 b1' b2' b3' = decodeN n b0 b1 b2 b3 := by
 unfold decodeN at h ⊢
 by_cases k1 : 1 < n
 ·obtain rfl := h1 k1
  by_cases k2 : 2 < n
  ·obtain rfl := h2 k2
   by_cases k3 : 3 < n
   ·obtain rfl := h3 k3
    simp only [show 1 < n' from by omega, show 2 < n' from by omega, show 3 < n' from by omega, k1, k2, k3]
   ·simp only [show 1 < n' from by omega, show 2 < n' from by omega, k1, k2, k3, false_and, and_false, if_false] at h ⊢
    repeat' split
    all_goals first | rfl | (exfalso; simp_all; done) | (exfalso; omega)
  ·simp only [show 1 < n' from by omega, k1, k2, show ¬ 3 < n from by omega, false_and, and_false, if_false] at h ⊢
   repeat' split
   all_goals first | rfl | (exfalso; simp_all; done) | (exfalso; omega)
 ·simp only [k1, show ¬ 2 < n from by omega, show ¬ 3 < n from by omega, false_and, and_false, if_false] at h ⊢
  by_cases hb : b0 < 128
  ·rw [if_pos hb]; rw [if_pos hb]
  ·rw [if_neg hb] at h; exact absurd rfl h
theorem next_size {s : ByteArray} {i : Nat} (h : i < s.size) : 1 ≤ nextN s i ∧ nextN s i ≤ 4 ∧ i + nextN s i ≤ s.size := by
 unfold nextN; rw [decode_bt]
 have := decodeN_size (s.size - i) (bt s i) (bt s (i + 1)) (bt s (i + 2)) (bt s (i + 3)) (by omega)
 omega
theorem next_low (s : ByteArray) (i : Nat) : nextR s i < 128 ↔ bt s i < 128 := by
 unfold nextR; rw [decode_bt]
 have := decodeN_low (s.size - i) (bt s i) (bt s (i + 1)) (bt s (i + 2)) (bt s (i + 3))
 omega
theorem next_byte {s : ByteArray} {i : Nat} (h : bt s i < 128) : nextR s i = bt s i ∧ nextN s i = 1 := by
 unfold nextR nextN; rw [decode_bt, decodeN_one h]; exact ⟨rfl, rfl⟩
def placeF (s : ByteArray) (at_ : Int) : Nat → Nat → Int → Int → Int × Int
 | 0, _, l, c => (l, c)
 | f + 1, i, l, c => if i < s.size then (if at_ < i + nextN s i then (l, c) else placeF s at_ f (i + nextN s i) (if nextR s i = 10 then l + 1 else l) (if nextR s i = 10 then 1 else c + 1)) else (l, c)
def placeI (s : ByteArray) (at_ : Int) : Int × Int := placeF s at_ (s.size + 1) 0 1 1
theorem placeF_more (s : ByteArray) (at_ : Int) : ∀ f i l c, s.size < i + f → ∀ g, s.size < i + g → placeF s at_ f i l c = placeF s at_ g i l c := by
 intro f
 induction f with
 | zero =>
  intro i l c hf g hg
  cases g with
  | zero => rfl
  | succ g => unfold placeF; rw [if_neg (by omega)]
 | succ f ih =>
  intro i l c hf g hg
  cases g with
  | zero => unfold placeF; rw [if_neg (by omega)]
  | succ g =>
   unfold placeF
   by_cases h : i < s.size
   ·have := next_size h
    rw [if_pos h, if_pos h, ih _ _ _ (by omega) g (by omega)]
   ·rw [if_neg h, if_neg h]
def At (s : ByteArray) (i : Nat) (l c : Int) : Prop := i ≤ s.size ∧ ∀ at_ : Int, (i : Int) ≤ at_ → ∀ f, s.size < i + f → placeI s at_ = placeF s at_ f i l c
theorem At.zero (s : ByteArray) : At s 0 1 1 := ⟨Nat.zero_le _, fun at_ _ f hf => placeF_more s at_ _ _ _ _ (by omega) f hf⟩
theorem At.here {s : ByteArray} {i : Nat} {l c : Int} (h : At s i l c) {at_ : Int} (h0 : (i : Int) ≤ at_) (h1 : at_ < i + nextN s i) (hi : i < s.size) : placeI s at_ = (l, c) := by
 rw [h.2 at_ h0 (s.size + 1) (by omega)]; unfold placeF; rw [if_pos hi, if_pos h1]
theorem At.last {s : ByteArray} {l c : Int} (h : At s s.size l c) {at_ : Int} (h0 : (s.size : Int) ≤ at_) : placeI s at_ = (l, c) := by
 rw [h.2 at_ h0 1 (by omega)]; unfold placeF; rw [if_neg (by omega)]
theorem At.next {s : ByteArray} {i : Nat} {l c : Int} (h : At s i l c) (hi : i < s.size) : At s (i + nextN s i) (if nextR s i = 10 then l + 1 else l) (if nextR s i = 10 then 1 else c + 1) := by
 have hz := next_size hi
 refine ⟨by omega, fun at_ h0 f hf => ?_⟩
 rw [h.2 at_ (by omega) (f + nextN s i) (by omega)]
 obtain ⟨g, hg⟩ : ∃ g, f + nextN s i = g + 1 := ⟨f + nextN s i - 1, by omega⟩
 rw [hg]
 show (if i < s.size then _ else _) = _
 rw [if_pos hi, if_neg (by omega)]
 exact placeF_more s at_ _ _ _ _ (by omega) _ (by omega)
theorem place_low (s : ByteArray) {at_ : Int} (h : at_ < 0) : placeI s at_ = (1, 1) := by
 unfold placeI placeF
 by_cases h0 : 0 < s.size
 ·rw [if_pos h0, if_pos (by omega)]
 ·rw [if_neg h0]
end
section
open Go.Lib
theorem bt_data (u : ByteArray) (j : Nat) : u.get! j = u.data[j]! := rfl
theorem bt_get {s : ByteArray} {i : Nat} (h : i < s.size) : bt s i = s[i].toNat := by
 unfold bt
 have h' : i < s.data.size := h
 rw [bt_data, getElem!_pos s.data i h']; rfl
theorem bt_append_right (s t : ByteArray) (j : Nat) : bt (s ++ t) (s.size + j) = bt t j := by
 unfold bt
 congr 1
 have e : s.size = s.data.size := rfl
 rw [bt_data, bt_data, ByteArray.data_append, e]
 by_cases h : j < t.data.size
 ·rw [getElem!_pos _ _ (by rw [Array.size_append]; omega), getElem!_pos t.data j h, Array.getElem_append_right (by omega)]
  simp
 ·rw [getElem!_neg _ _ (by rw [Array.size_append]; omega), getElem!_neg t.data j h]
def keyB (s : ByteArray) : Bool := s.toList == [105, 110] || s.toList == [108, 101, 116] || s.toList == [111, 117, 116]
def nameF (s : ByteArray) : Nat → Nat → Bool
 | 0, _ => true
 | f + 1, i => if i < s.size then (if (kindI (nextR s i) ≠ 1 ∧ kindI (nextR s i) ≠ 2) ∨ (kindI (nextR s i) = 2 ∧ i = 0) then false else nameF s f (i + nextN s i)) else true
def nameB (s : ByteArray) : Bool := decide (1 ≤ s.size ∧ s.size ≤ 40) && !keyB s && nameF s (s.size + 1) 0
theorem nameF_more (s : ByteArray) : ∀ f i, s.size < i + f → ∀ g, s.size < i + g → nameF s f i = nameF s g i := by
 intro f
 induction f with
 | zero =>
  intro i hf g hg
  cases g with
  | zero => rfl
  | succ g => unfold nameF; rw [if_neg (by omega)]
 | succ f ih =>
  intro i hf g hg
  cases g with
  | zero => unfold nameF; rw [if_neg (by omega)]
  | succ g =>
   unfold nameF
   by_cases h : i < s.size
   ·have := next_size h
    rw [if_pos h, if_pos h, ih _ (by omega) g (by omega)]
   ·rw [if_neg h, if_neg h]
theorem kind_err : kindI 65533 = 0 := by decide
end
section
open Go.Lib
def kindAt (s : ByteArray) (i : Nat) : Int := if i < s.size then kindI (nextR s i) else -1
def stepAt (s : ByteArray) (i : Nat) : Nat := if i < s.size then nextN s i else 0
theorem kindAt_range (s : ByteArray) (i : Nat) : -1 ≤ kindAt s i ∧ kindAt s i ≤ 4 := by
 unfold kindAt
 have := kindI_range (nextR s i)
 split <;> omega
theorem kindAt_in {s : ByteArray} {i : Nat} (h : 0 ≤ kindAt s i) : i < s.size := by
 unfold kindAt at h
 split at h
 ·assumption
 ·omega
theorem kindI_digit (r : Int) : kindI r = 2 ↔ 48 ≤ r ∧ r ≤ 57 := by
 unfold kindI
 repeat' split
 all_goals omega
theorem kindAt_digit {s : ByteArray} {i : Nat} : kindAt s i = 2 ↔ i < s.size ∧ 48 ≤ bt s i ∧ bt s i ≤ 57 := by
 unfold kindAt
 split
 ·rename_i h
  rw [kindI_digit]
  constructor
  ·intro h2
   have h3 := (next_low s i).1 (by omega)
   have h4 := (next_byte h3).1
   exact ⟨h, by omega, by omega⟩
  ·rintro ⟨-, h2, h3⟩
   have h4 := (next_byte (s := s) (i := i) (by omega)).1
   omega
 ·rename_i h
  exact ⟨fun e => by omega, fun e => absurd e.1 h⟩
theorem stepAt_digit {s : ByteArray} {i : Nat} (h : kindAt s i = 2) : stepAt s i = 1 := by
 have h1 := kindAt_digit.1 h
 unfold stepAt
 rw [if_pos h1.1, (next_byte (by omega)).2]
theorem stepAt_size {s : ByteArray} {i : Nat} (h : i < s.size) : 1 ≤ stepAt s i ∧ i + stepAt s i ≤ s.size ∧ stepAt s i ≤ 4 := by
 have := next_size h
 unfold stepAt
 rw [if_pos h]; omega
def digF (s : ByteArray) : Nat → Nat → Nat
 | 0, i => i
 | f + 1, i => if kindAt s i = 2 then digF s f (i + 1) else i
def digEnd (s : ByteArray) (i : Nat) : Nat := digF s (s.size + 1) i
def wordF (s : ByteArray) : Nat → Nat → Nat
 | 0, i => i
 | f + 1, i => if kindAt s i = 1 ∨ kindAt s i = 2 then wordF s f (i + stepAt s i) else i
def wordEnd (s : ByteArray) (i : Nat) : Nat := wordF s (s.size + 1) i
def cutF (s : ByteArray) : Nat → Nat → Nat
 | 0, i => i
 | f + 1, i => if i < s.size then (if bt s i = 124 then i else cutF s f (i + 1)) else i
def cutI (s : ByteArray) : Nat := cutF s (s.size + 1) 0
theorem digF_more (s : ByteArray) : ∀ f i, s.size < i + f → ∀ g, s.size < i + g → digF s f i = digF s g i := by
 intro f
 induction f with
 | zero =>
  intro i hf g hg
  cases g with
  | zero => rfl
  | succ g => unfold digF; rw [if_neg (fun e => by have := (kindAt_digit.1 e).1; omega)]
 | succ f ih =>
  intro i hf g hg
  cases g with
  | zero => unfold digF; rw [if_neg (fun e => by have := (kindAt_digit.1 e).1; omega)]
  | succ g => unfold digF; rw [ih _ (by omega) g (by omega)]
theorem digEnd_step {s : ByteArray} {i : Nat} (h : kindAt s i = 2) : digEnd s i = digEnd s (i + 1) := by
 unfold digEnd
 have hi := (kindAt_digit.1 h).1
 show (if kindAt s i = 2 then _ else _) = _
 rw [if_pos h]
 exact digF_more s _ _ (by omega) _ (by omega)
theorem digEnd_here {s : ByteArray} {i : Nat} (h : kindAt s i ≠ 2) : digEnd s i = i := by
 unfold digEnd
 show (if kindAt s i = 2 then _ else _) = _
 rw [if_neg h]
theorem wordF_more (s : ByteArray) : ∀ f i, s.size < i + f → ∀ g, s.size < i + g → wordF s f i = wordF s g i := by
 intro f
 induction f with
 | zero =>
  intro i hf g hg
  cases g with
  | zero => rfl
  | succ g => unfold wordF; rw [if_neg (fun e => by have := kindAt_in (s := s) (i := i) (by omega); omega)]
 | succ f ih =>
  intro i hf g hg
  cases g with
  | zero => unfold wordF; rw [if_neg (fun e => by have := kindAt_in (s := s) (i := i) (by omega); omega)]
  | succ g =>
   unfold wordF
   by_cases h : kindAt s i = 1 ∨ kindAt s i = 2
   ·have := stepAt_size (kindAt_in (s := s) (i := i) (by omega))
    rw [if_pos h, if_pos h, ih _ (by omega) g (by omega)]
   ·rw [if_neg h, if_neg h]
theorem wordEnd_step {s : ByteArray} {i : Nat} (h : kindAt s i = 1 ∨ kindAt s i = 2) : wordEnd s i = wordEnd s (i + stepAt s i) := by
 unfold wordEnd
 have hi := stepAt_size (kindAt_in (s := s) (i := i) (by omega))
 show (if kindAt s i = 1 ∨ kindAt s i = 2 then _ else _) = _
 rw [if_pos h]
 exact wordF_more s _ _ (by omega) _ (by omega)
theorem wordEnd_here {s : ByteArray} {i : Nat} (h : ¬ (kindAt s i = 1 ∨ kindAt s i = 2)) : wordEnd s i = i := by
 unfold wordEnd
 show (if kindAt s i = 1 ∨ kindAt s i = 2 then _ else _) = _
 rw [if_neg h]
theorem digF_range (s : ByteArray) : ∀ f i, i ≤ digF s f i ∧ (i ≤ s.size → digF s f i ≤ s.size) := by
 intro f
 induction f with
 | zero => intro i; exact ⟨Nat.le_refl _, id⟩
 | succ f ih =>
  intro i
  unfold digF
  split
  ·rename_i h
   have h1 := (kindAt_digit.1 h).1
   have := ih (i + 1)
   exact ⟨by omega, fun _ => this.2 (by omega)⟩
  ·exact ⟨Nat.le_refl _, id⟩
theorem digEnd_range (s : ByteArray) (i : Nat) : i ≤ digEnd s i ∧ (i ≤ s.size → digEnd s i ≤ s.size) := digF_range s _ i
theorem wordF_range (s : ByteArray) : ∀ f i, i ≤ wordF s f i ∧ (i ≤ s.size → wordF s f i ≤ s.size) := by
 intro f
 induction f with
 | zero => intro i; exact ⟨Nat.le_refl _, id⟩
 | succ f ih =>
  intro i
  unfold wordF
  split
  ·rename_i h
   have h1 := stepAt_size (kindAt_in (s := s) (i := i) (by omega))
   have := ih (i + stepAt s i)
   exact ⟨by omega, fun _ => this.2 (by omega)⟩
  ·exact ⟨Nat.le_refl _, id⟩
theorem wordEnd_range (s : ByteArray) (i : Nat) : i ≤ wordEnd s i ∧ (i ≤ s.size → wordEnd s i ≤ s.size) := wordF_range s _ i
theorem cutF_range (s : ByteArray) : ∀ f i, i ≤ cutF s f i ∧ (i ≤ s.size → cutF s f i ≤ s.size) := by
 intro f
 induction f with
 | zero => intro i; exact ⟨Nat.le_refl _, id⟩
 | succ f ih =>
  intro i
  have := ih (i + 1)
  unfold cutF
  split
  ·split
   ·exact ⟨Nat.le_refl _, id⟩
   ·exact ⟨by omega, fun _ => this.2 (by omega)⟩
  ·exact ⟨Nat.le_refl _, id⟩
theorem cutI_le (s : ByteArray) : cutI s ≤ s.size := (cutF_range s _ 0).2 (Nat.zero_le _)
def partB (s : ByteArray) : Bool := decide (1 ≤ s.size ∧ s.size ≤ 40) && decide (digEnd s 0 = s.size) && (decide (s.size = 1) || decide (bt s 0 ≠ 48))
def numB (s : ByteArray) : Bool :=
 if cutI s = s.size then partB s else partB (s.extract 0 (cutI s)) && partB (s.extract (cutI s + 1) s.size) && !((s.extract (cutI s + 1) s.size).toList == [48])
def numEnd (s : ByteArray) (i : Nat) : Nat :=
 if digEnd s i < s.size ∧ bt s (digEnd s i) = 124 ∧ digEnd s i + 1 < digEnd s (digEnd s i + 1) then digEnd s (digEnd s i + 1) else digEnd s i
theorem numEnd_range {s : ByteArray} {i : Nat} (h : i ≤ s.size) : i ≤ numEnd s i ∧ numEnd s i ≤ s.size := by
 have h1 := digEnd_range s i
 have h2 := digEnd_range s (digEnd s i + 1)
 unfold numEnd
 split
 ·rename_i hc
  exact ⟨by omega, h2.2 (by omega)⟩
 ·exact ⟨h1.1, h1.2 h⟩
end
section
open Go.Lib
abbrev Tok := Int × ByteArray × Int × Int
def tokenI (s : ByteArray) (i : Nat) : Int × ByteArray × Nat × Int :=
  if kindAt s i = 1 then (if i + 40 < wordEnd s i then (0, ⟨#[]⟩, wordEnd s i, 4) else (0, s.extract i (wordEnd s i), wordEnd s i, 0))
  else if kindAt s i = 2 then
    (if 40 < cutI (s.extract i (numEnd s i)) ∨ cutI (s.extract i (numEnd s i)) + 41 < (s.extract i (numEnd s i)).size then (0, ⟨#[]⟩, numEnd s i, 4)
     else if numB (s.extract i (numEnd s i)) = true then (1, s.extract i (numEnd s i), numEnd s i, 0) else (0, ⟨#[]⟩, numEnd s i, 5))
  else if kindAt s i = 4 then (2, s.extract i (i + stepAt s i), i + stepAt s i, 0)
  else (0, ⟨#[]⟩, i, 5)
end
section
open Go.Lib
def lexF (s : ByteArray) : Nat → Nat → List Tok → List Tok × (Int × Int) × Int
  | 0, _, out => (out, (0, 0), 0)
  | f + 1, i, out =>
    if i < s.size then
      (if kindAt s i = 3 then lexF s f (i + 1) out
       else if 4000 ≤ out.length then ([], placeI s i, 4)
       else if (tokenI s i).2.2.2 ≠ 0 then ([], placeI s i, (tokenI s i).2.2.2)
       else lexF s f (tokenI s i).2.2.1 (out ++ [((tokenI s i).1, (tokenI s i).2.1, (placeI s i).1, (placeI s i).2)]))
    else (out, (0, 0), 0)
def lexI (s : ByteArray) : List Tok × (Int × Int) × Int := if 60000 < s.size then ([], (1, 1), 4) else lexF s (s.size + 1) 0 []
theorem wordEnd_lt {s : ByteArray} {i : Nat} (h : kindAt s i = 1) : i < wordEnd s i := by
 rw [wordEnd_step (.inl h)]
 have h1 := stepAt_size (kindAt_in (s := s) (i := i) (by omega))
 have h2 := wordEnd_range s (i + stepAt s i)
 omega
theorem numEnd_lt {s : ByteArray} {i : Nat} (h : kindAt s i = 2) : i < numEnd s i := by
 have h0 := digEnd_step h
 have h1 := digEnd_range s (i + 1)
 have h2 := digEnd_range s (digEnd s i + 1)
 unfold numEnd
 split <;> omega
theorem tokenI_end {s : ByteArray} {i : Nat} (hi : i < s.size) (h : (tokenI s i).2.2.2 = 0) : i < (tokenI s i).2.2.1 ∧ (tokenI s i).2.2.1 ≤ s.size := by
 have hw := wordEnd_range s i
 have hn := numEnd_range (s := s) (i := i) (by omega)
 have hz := stepAt_size hi
 unfold tokenI at h ⊢
 by_cases k1 : kindAt s i = 1
 ·have := wordEnd_lt k1
  rw [if_pos k1] at h ⊢
  split at h
  ·exact absurd h (by simp)
  ·rename_i hc
   rw [if_neg hc]
   exact ⟨this, hw.2 (by omega)⟩
 rw [if_neg k1] at h ⊢
 by_cases k2 : kindAt s i = 2
 ·have := numEnd_lt k2
  rw [if_pos k2] at h ⊢
  split at h
  ·exact absurd h (by simp)
  ·rename_i hc
   rw [if_neg hc]
   split at h
   ·rename_i hd
    rw [if_pos hd]
    exact ⟨this, hn.2⟩
   ·exact absurd h (by simp)
 rw [if_neg k2] at h ⊢
 by_cases k4 : kindAt s i = 4
 ·rw [if_pos k4]
  exact ⟨by show i < i + stepAt s i; omega, by show i + stepAt s i ≤ s.size; omega⟩
 rw [if_neg k4] at h
 exact absurd h (by simp)
theorem lexF_more (s : ByteArray) : ∀ f i out, s.size < i + f → ∀ g, s.size < i + g → lexF s f i out = lexF s g i out := by
 intro f
 induction f with
 | zero =>
  intro i out hf g hg
  cases g with
  | zero => rfl
  | succ g => unfold lexF; rw [if_neg (by omega)]
 | succ f ih =>
  intro i out hf g hg
  cases g with
  | zero => unfold lexF; rw [if_neg (by omega)]
  | succ g =>
   unfold lexF
   by_cases h : i < s.size
   ·rw [if_pos h, if_pos h, ih _ _ (by omega) g (by omega)]
    by_cases h3 : kindAt s i = 3
    ·rw [if_pos h3, if_pos h3]
    rw [if_neg h3, if_neg h3]
    by_cases h4 : 4000 ≤ out.length
    ·rw [if_pos h4, if_pos h4]
    rw [if_neg h4, if_neg h4]
    by_cases h5 : (tokenI s i).2.2.2 ≠ 0
    ·rw [if_pos h5, if_pos h5]
    have he := tokenI_end h (Decidable.not_not.1 h5)
    rw [if_neg h5, if_neg h5, ih _ _ (by omega) g (by omega)]
   ·rw [if_neg h, if_neg h]
theorem lexF_step {s : ByteArray} {i : Nat} {out : List Tok} (h : i < s.size) : lexF s (s.size + 1) i out =
  if kindAt s i = 3 then lexF s (s.size + 1) (i + 1) out
  else if 4000 ≤ out.length then ([], placeI s i, 4)
  else if (tokenI s i).2.2.2 ≠ 0 then ([], placeI s i, (tokenI s i).2.2.2)
  else lexF s (s.size + 1) (tokenI s i).2.2.1 (out ++ [((tokenI s i).1, (tokenI s i).2.1, (placeI s i).1, (placeI s i).2)]) := by
 show (if i < s.size then _ else _) = _
 rw [if_pos h, lexF_more s s.size (i + 1) out (by omega) (s.size + 1) (by omega)]
 by_cases h3 : kindAt s i = 3
 ·rw [if_pos h3, if_pos h3]
 rw [if_neg h3, if_neg h3]
 by_cases h4 : 4000 ≤ out.length
 ·rw [if_pos h4, if_pos h4]
 rw [if_neg h4, if_neg h4]
 by_cases h5 : (tokenI s i).2.2.2 ≠ 0
 ·rw [if_pos h5, if_pos h5]
 have he := tokenI_end h (Decidable.not_not.1 h5)
 rw [if_neg h5, if_neg h5, lexF_more s s.size _ _ (by omega) (s.size + 1) (by omega)]
theorem lexF_end {s : ByteArray} {i : Nat} {out : List Tok} (h : ¬ i < s.size) : lexF s (s.size + 1) i out = (out, (0, 0), 0) := by
 show (if i < s.size then _ else _) = _
 rw [if_neg h]
theorem lexF_length (s : ByteArray) : ∀ f i out, out.length ≤ 4000 → (lexF s f i out).1.length ≤ 4000 := by
 intro f
 induction f with
 | zero => intro i out h; exact h
 | succ f ih =>
  intro i out h
  unfold lexF
  split
  ·split
   ·exact ih _ _ h
   ·split
    ·simp
    ·split
     ·simp
     ·exact ih _ _ (by simp; omega)
  ·exact h
theorem lexI_length (s : ByteArray) : (lexI s).1.length ≤ 4000 := by
 unfold lexI
 split
 ·simp
 ·exact lexF_length s _ _ _ (by simp)
end
section
open Go.Lib
theorem kindAt_size (s : ByteArray) : kindAt s s.size = -1 := by unfold kindAt; rw [if_neg (by omega)]
theorem extract_same {u s : ByteArray} (hz : s.size ≤ u.size) (h : ∀ i, i < s.size → bt u i = bt s i) {i e : Nat} (he : e ≤ s.size) : u.extract i e = s.extract i e := by
 refine ByteArray.ext ?_
 rw [ByteArray.data_extract, ByteArray.data_extract]
 refine Array.ext ?_ ?_
 ·simp only [Array.size_extract]
  show min e u.size - i = min e s.size - i
  omega
 ·intro j h1 h2
  simp only [Array.size_extract] at h1 h2
  have hj : i + j < s.size := by
   have h2' : j < min e s.size - i := h2
   omega
  have h3 := h (i + j) hj
  rw [bt_get (show i + j < u.size by omega), bt_get hj] at h3
  rw [Array.getElem_extract, Array.getElem_extract]
  exact UInt8.toNat_inj.1 h3
end
section
open Go.Lib
structure Shifted (u t : ByteArray) (k : Nat) : Prop where
 size : u.size = k + t.size
 same : ∀ j, bt u (k + j) = bt t j
theorem Shifted.decode {u t : ByteArray} {k : Nat} (h : Shifted u t k) (i : Nat) : Utf8.decode u (k + i) = Utf8.decode t i := by
 rw [decode_bt, decode_bt, h.same i, show k + i + 1 = k + (i + 1) by omega, show k + i + 2 = k + (i + 2) by omega, show k + i + 3 = k + (i + 3) by omega, h.same, h.same, h.same, h.size, Nat.add_sub_add_left]
theorem Shifted.kind {u t : ByteArray} {k : Nat} (h : Shifted u t k) (i : Nat) : kindAt u (k + i) = kindAt t i ∧ stepAt u (k + i) = stepAt t i := by
 unfold kindAt stepAt nextR nextN
 rw [h.decode i, h.size]
 by_cases hi : i < t.size
 ·rw [if_pos hi, if_pos hi, if_pos (by omega), if_pos (by omega)]; exact ⟨rfl, rfl⟩
 ·rw [if_neg hi, if_neg hi, if_neg (by omega), if_neg (by omega)]; exact ⟨rfl, rfl⟩
theorem Shifted.digits {u t : ByteArray} {k : Nat} (h : Shifted u t k) : ∀ m i, t.size - i ≤ m → digEnd u (k + i) = k + digEnd t i := by
 intro m
 induction m with
 | zero =>
  intro i hm
  have hk : kindAt t i ≠ 2 := fun e => by have := (kindAt_digit.1 e).1; omega
  rw [digEnd_here hk, digEnd_here (by rw [(h.kind i).1]; exact hk)]
 | succ m ih =>
  intro i hm
  by_cases h2 : kindAt t i = 2
  ·have := (kindAt_digit.1 h2).1
   rw [digEnd_step h2, digEnd_step (by rw [(h.kind i).1]; exact h2), show k + i + 1 = k + (i + 1) by omega]
   exact ih _ (by omega)
  ·rw [digEnd_here h2, digEnd_here (by rw [(h.kind i).1]; exact h2)]
theorem Shifted.word {u t : ByteArray} {k : Nat} (h : Shifted u t k) : ∀ m i, t.size - i ≤ m → wordEnd u (k + i) = k + wordEnd t i := by
 intro m
 induction m with
 | zero =>
  intro i hm
  have hk : ¬ (kindAt t i = 1 ∨ kindAt t i = 2) := fun e => by have := kindAt_in (s := t) (i := i) (by omega); omega
  rw [wordEnd_here hk, wordEnd_here (by rw [(h.kind i).1]; exact hk)]
 | succ m ih =>
  intro i hm
  by_cases h2 : kindAt t i = 1 ∨ kindAt t i = 2
  ·have hz := stepAt_size (kindAt_in (s := t) (i := i) (by omega))
   rw [wordEnd_step h2, wordEnd_step (by rw [(h.kind i).1]; exact h2), (h.kind i).2, show k + i + stepAt t i = k + (i + stepAt t i) by omega]
   exact ih _ (by omega)
  ·rw [wordEnd_here h2, wordEnd_here (by rw [(h.kind i).1]; exact h2)]
theorem Shifted.number {u t : ByteArray} {k : Nat} (h : Shifted u t k) (i : Nat) : numEnd u (k + i) = k + numEnd t i := by
 unfold numEnd
 rw [h.digits _ i (Nat.le_refl _), show k + digEnd t i + 1 = k + (digEnd t i + 1) by omega, h.digits _ (digEnd t i + 1) (Nat.le_refl _), h.same, h.size]
 by_cases hc : digEnd t i < t.size ∧ bt t (digEnd t i) = 124 ∧ digEnd t i + 1 < digEnd t (digEnd t i + 1)
 ·rw [if_pos hc, if_pos ⟨by omega, hc.2.1, by omega⟩]
 ·rw [if_neg hc, if_neg (fun e => hc ⟨by omega, e.2.1, by omega⟩)]
theorem Shifted.extract {u t : ByteArray} {k : Nat} (h : Shifted u t k) (i e : Nat) : u.extract (k + i) (k + e) = t.extract i e := by
 refine ByteArray.ext ?_
 rw [ByteArray.data_extract, ByteArray.data_extract]
 have hz := h.size
 refine Array.ext ?_ ?_
 ·simp only [Array.size_extract]
  show min (k + e) u.size - (k + i) = min e t.size - i
  omega
 ·intro j h1 h2
  simp only [Array.size_extract] at h1 h2
  have hj : i + j < t.size := by
   have h2' : j < min e t.size - i := h2
   omega
  have h3 := h.same (i + j)
  rw [← Nat.add_assoc, bt_get (show k + i + j < u.size by omega), bt_get hj] at h3
  rw [Array.getElem_extract, Array.getElem_extract]
  exact UInt8.toNat_inj.1 h3
theorem Shifted.token {u t : ByteArray} {k : Nat} (h : Shifted u t k) (i : Nat) : tokenI u (k + i) = ((tokenI t i).1, (tokenI t i).2.1, k + (tokenI t i).2.2.1, (tokenI t i).2.2.2) := by
 unfold tokenI
 rw [(h.kind i).1, (h.kind i).2, h.word _ i (Nat.le_refl _), h.number i, h.extract, h.extract, show k + i + stepAt t i = k + (i + stepAt t i) by omega, h.extract]
 by_cases k1 : kindAt t i = 1
 ·rw [if_pos k1, if_pos k1]
  by_cases c : i + 40 < wordEnd t i
  ·rw [if_pos c, if_pos (by omega)]
  ·rw [if_neg c, if_neg (by omega)]
 rw [if_neg k1, if_neg k1]
 by_cases k2 : kindAt t i = 2
 ·rw [if_pos k2, if_pos k2]
  repeat' split
  all_goals rfl
 rw [if_neg k2, if_neg k2]
 split <;> rfl
end
section
open Go.Lib
set_option maxRecDepth 100000 in
/-- A rune that is told whole is told so of the text that ends behind it. -/
theorem decodeN_less {n n' b0 b1 b2 b3 b1' b2' b3' : Nat} (h : (decodeN n' b0 b1' b2' b3').1 ≠ 65533) (hn : (decodeN n' b0 b1' b2' b3').2 ≤ n) (h1 : 1 < n → b1 = b1') (h2 : 2 < n → b2 = b2') (h3 : 3 < n → b3 = b3') : decodeN n b0 b1 b2 b3 = decodeN n' b0 b1' b2' b3' := by
 unfold decodeN at h hn ⊢
 by_cases c0 : b0 < 128
 ·simp only [c0, if_true]
 simp only [c0, if_false] at h hn ⊢
 by_cases c1 : b0 / 32 = 6 ∧ (1 < n' ∧ b1' / 64 = 2)
 ·rw [if_pos c1] at h hn ⊢
  by_cases d : b0 % 32 * 64 + b1' % 64 ≥ 128
  ·rw [if_pos d] at hn ⊢
   dsimp only at hn
   obtain rfl := h1 (by omega)
   rw [if_pos ⟨c1.1, by omega, c1.2.2⟩, if_pos d]
  ·rw [if_neg d] at h; exact absurd rfl h
 rw [if_neg c1] at h hn ⊢
 by_cases c2 : b0 / 16 = 14 ∧ (1 < n' ∧ b1' / 64 = 2) ∧ (2 < n' ∧ b2' / 64 = 2)
 ·rw [if_pos c2] at h hn ⊢
  by_cases d : b0 % 16 * 4096 + b1' % 64 * 64 + b2' % 64 ≥ 2048 ∧ (b0 % 16 * 4096 + b1' % 64 * 64 + b2' % 64 < 55296 ∨ (57344 ≤ b0 % 16 * 4096 + b1' % 64 * 64 + b2' % 64 ∧ b0 % 16 * 4096 + b1' % 64 * 64 + b2' % 64 ≤ 1114111))
  ·rw [if_pos d] at hn ⊢
   dsimp only at hn
   obtain rfl := h1 (by omega)
   obtain rfl := h2 (by omega)
   rw [if_neg (by omega), if_pos ⟨c2.1, ⟨by omega, c2.2.1.2⟩, by omega, c2.2.2.2⟩, if_pos d]
  ·rw [if_neg d] at h; exact absurd rfl h
 rw [if_neg c2] at h hn ⊢
 by_cases c3 : b0 / 8 = 30 ∧ (1 < n' ∧ b1' / 64 = 2) ∧ (2 < n' ∧ b2' / 64 = 2) ∧ (3 < n' ∧ b3' / 64 = 2)
 ·rw [if_pos c3] at h hn ⊢
  by_cases d : b0 % 8 * 262144 + b1' % 64 * 4096 + b2' % 64 * 64 + b3' % 64 ≥ 65536 ∧ (b0 % 8 * 262144 + b1' % 64 * 4096 + b2' % 64 * 64 + b3' % 64 < 55296 ∨ (57344 ≤ b0 % 8 * 262144 + b1' % 64 * 4096 + b2' % 64 * 64 + b3' % 64 ∧ b0 % 8 * 262144 + b1' % 64 * 4096 + b2' % 64 * 64 + b3' % 64 ≤ 1114111))
  ·rw [if_pos d] at hn ⊢
   dsimp only at hn
   obtain rfl := h1 (by omega)
   obtain rfl := h2 (by omega)
   obtain rfl := h3 (by omega)
   rw [if_neg (by omega), if_neg (by omega), if_pos ⟨c3.1, ⟨by omega, c3.2.1.2⟩, ⟨by omega, c3.2.2.1.2⟩, by omega, c3.2.2.2.2⟩, if_pos d]
  ·rw [if_neg d] at h; exact absurd rfl h
 rw [if_neg c3] at h; exact absurd rfl h
structure Front (v s : ByteArray) : Prop where
 size : v.size ≤ s.size
 same : ∀ i, i < v.size → bt v i = bt s i
theorem front (s : ByteArray) {e : Nat} (he : e ≤ s.size) : Front (s.extract 0 e) s := by
 have hz : (s.extract 0 e).size = e := by rw [ByteArray.size_extract]; omega
 refine ⟨by omega, fun i hi => ?_⟩
 rw [bt_get hi, bt_get (show i < s.size by omega)]
 congr 1
 show (s.extract 0 e).data[i]'_ = s.data[i]'_
 simp only [ByteArray.data_extract, Array.getElem_extract, Nat.zero_add]
theorem Front.decode {v s : ByteArray} (h : Front v s) {i : Nat} (hi : i < v.size) (hr : nextR s i ≠ 65533) (hn : i + nextN s i ≤ v.size) : Utf8.decode v i = Utf8.decode s i := by
 have hs := h.size
 unfold nextR nextN at *
 rw [decode_bt s] at hr hn
 rw [decode_bt, decode_bt s, h.same i hi]
 exact decodeN_less (fun e => hr (by rw [e]; rfl)) (by omega) (fun _ => h.same _ (by omega)) (fun _ => h.same _ (by omega)) (fun _ => h.same _ (by omega))
theorem Front.kind {v s : ByteArray} (h : Front v s) {i : Nat} (hi : i < v.size) (hk : 1 ≤ kindAt s i) (hn : i + stepAt s i ≤ v.size) : kindAt v i = kindAt s i ∧ stepAt v i = stepAt s i := by
 have hs := h.size
 have hi2 : i < s.size := by omega
 have hr : nextR s i ≠ 65533 := by
  intro e
  unfold kindAt at hk
  rw [if_pos hi2, e, kind_err] at hk
  omega
 have hd := h.decode hi hr (by unfold stepAt at hn; rw [if_pos hi2] at hn; exact hn)
 unfold kindAt stepAt nextR nextN
 rw [if_pos hi, if_pos hi, if_pos hi2, if_pos hi2, hd]
 exact ⟨rfl, rfl⟩
theorem Front.kind_back {v s : ByteArray} (h : Front v s) {i : Nat} (hk : 1 ≤ kindAt v i) : kindAt s i = kindAt v i := by
 have hs := h.size
 have hi := kindAt_in (s := v) (i := i) (by omega)
 have hr : nextR v i ≠ 65533 := by
  intro e
  unfold kindAt at hk
  rw [if_pos hi, e, kind_err] at hk
  omega
 have hd : Utf8.decode s i = Utf8.decode v i := by
  unfold nextR at hr
  rw [decode_bt v] at hr
  rw [decode_bt, decode_bt v, ← h.same i hi]
  exact decodeN_more (fun e => hr (by rw [e]; rfl)) (by omega) (fun _ => (h.same _ (by omega)).symm) (fun _ => (h.same _ (by omega)).symm) (fun _ => (h.same _ (by omega)).symm)
 unfold kindAt nextR
 rw [if_pos hi, if_pos (by omega), hd]
theorem Front.digit {v s : ByteArray} (h : Front v s) {i : Nat} (hi : i < v.size) : kindAt v i = 2 ↔ kindAt s i = 2 := by
 have hs := h.size
 rw [kindAt_digit, kindAt_digit, h.same i hi]
 constructor
 ·intro e; exact ⟨by omega, e.2⟩
 ·intro e; exact ⟨hi, e.2⟩
theorem Front.digits {v s : ByteArray} (h : Front v s) : ∀ k i, i ≤ v.size → v.size - i ≤ k → digEnd s i ≤ v.size → digEnd v i = digEnd s i := by
 intro k
 induction k with
 | zero =>
  intro i hi hk he
  obtain rfl : i = v.size := by omega
  have := (digEnd_range s v.size).1
  rw [digEnd_here (s := v) (by rw [kindAt_size]; decide)]
  omega
 | succ k ih =>
  intro i hi hk he
  rcases Nat.lt_or_ge i v.size with hlt | hge
  ·by_cases h2 : kindAt s i = 2
   ·rw [digEnd_step h2] at he ⊢
    rw [digEnd_step ((h.digit hlt).2 h2)]
    exact ih _ (by omega) (by omega) he
   ·rw [digEnd_here h2, digEnd_here (fun e => h2 ((h.digit hlt).1 e))]
  ·obtain rfl : i = v.size := by omega
   have := (digEnd_range s v.size).1
   rw [digEnd_here (s := v) (by rw [kindAt_size]; decide)]
   omega
theorem Front.word {v s : ByteArray} (h : Front v s) : ∀ k i, i ≤ v.size → v.size - i ≤ k → wordEnd s i ≤ v.size → wordEnd v i = wordEnd s i := by
 intro k
 induction k with
 | zero =>
  intro i hi hk he
  obtain rfl : i = v.size := by omega
  have := (wordEnd_range s v.size).1
  rw [wordEnd_here (s := v) (by rw [kindAt_size]; decide)]
  omega
 | succ k ih =>
  intro i hi hk he
  rcases Nat.lt_or_ge i v.size with hlt | hge
  ·by_cases h2 : kindAt s i = 1 ∨ kindAt s i = 2
   ·have hz := stepAt_size (kindAt_in (s := s) (i := i) (by omega))
    rw [wordEnd_step h2] at he ⊢
    have hr := (wordEnd_range s (i + stepAt s i)).1
    obtain ⟨k1, k2⟩ := h.kind hlt (by omega) (by omega)
    rw [wordEnd_step (by rw [k1]; exact h2), k2]
    exact ih _ (by omega) (by omega) he
   ·rw [wordEnd_here h2, wordEnd_here (fun e => h2 (by rw [h.kind_back (by omega)]; exact e))]
  ·obtain rfl : i = v.size := by omega
   have := (wordEnd_range s v.size).1
   rw [wordEnd_here (s := v) (by rw [kindAt_size]; decide)]
   omega
theorem Front.number {v s : ByteArray} (h : Front v s) {i : Nat} (hi : i ≤ v.size) (he : numEnd s i ≤ v.size) : numEnd v i = numEnd s i := by
 have hs := h.size
 have h1 := digEnd_range s (digEnd s i + 1)
 have hle : digEnd s i ≤ v.size := by unfold numEnd at he; split at he <;> omega
 have hd := h.digits _ i hi (Nat.le_refl _) hle
 unfold numEnd at he ⊢
 rw [hd]
 generalize digEnd s i = E at *
 by_cases hc : E < s.size ∧ bt s E = 124 ∧ E + 1 < digEnd s (E + 1)
 ·rw [if_pos hc] at he ⊢
  rw [h.digits _ (E + 1) (by omega) (Nat.le_refl _) he, h.same E (by omega), if_pos ⟨by omega, hc.2.1, hc.2.2⟩]
 ·rw [if_neg hc, if_neg]
  rintro ⟨c1, c2, c3⟩
  refine hc ⟨by omega, by rw [← h.same E c1]; exact c2, ?_⟩
  have hv := (digEnd_range v (E + 1)).2 (by omega)
  have hk : kindAt v (E + 1) = 2 := by
   by_cases hk : kindAt v (E + 1) = 2
   ·exact hk
   ·rw [digEnd_here hk] at c3; omega
  have hk2 := (h.digit (i := E + 1) (by omega)).1 hk
  rw [digEnd_step hk2]
  have := (digEnd_range s (E + 1 + 1)).1
  omega
theorem front_extract {v s : ByteArray} (h : Front v s) {i e : Nat} (he : e ≤ v.size) : s.extract i e = v.extract i e := extract_same h.size (fun j hj => (h.same j hj).symm) he
theorem Front.token {v s : ByteArray} (h : Front v s) {i : Nat} (hi : i < v.size) (he : (tokenI s i).2.2.1 ≤ v.size) (hk : 1 ≤ kindAt s i) : tokenI v i = tokenI s i := by
 have hs := h.size
 have hz := stepAt_size (show i < s.size by omega)
 have hkr := kindAt_range s i
 unfold tokenI at he ⊢
 rcases (by omega : kindAt s i = 1 ∨ kindAt s i = 2 ∨ kindAt s i = 3 ∨ kindAt s i = 4) with k | k | k | k
 ·rw [if_pos k] at he
  have hw : wordEnd s i ≤ v.size := by split at he <;> exact he
  have h1 : i + stepAt s i ≤ wordEnd s i := by rw [wordEnd_step (.inl k)]; exact (wordEnd_range s _).1
  have kv : kindAt v i = 1 := (h.kind hi hk (by omega)).1.trans k
  rw [if_pos k, if_pos kv, h.word _ i (by omega) (Nat.le_refl _) hw, front_extract h hw]
 ·rw [if_neg (show ¬ kindAt s i = 1 by omega), if_pos k] at he
  have hw : numEnd s i ≤ v.size := by
   repeat' split at he
   all_goals exact he
  have kv := (h.digit hi).2 k
  rw [if_neg (show ¬ kindAt s i = 1 by omega), if_pos k, if_neg (show ¬ kindAt v i = 1 by omega), if_pos kv, h.number (by omega) hw, front_extract h hw]
 ·have hb : kindAt v i = 3 := by
   have hs1 : stepAt s i = 1 := by
    unfold kindAt at k
    unfold stepAt
    rw [if_pos (show i < s.size by omega)] at k ⊢
    have : nextR s i < 128 := by
     unfold kindI at k
     repeat' split at k
     all_goals omega
    exact (next_byte ((next_low s i).1 this)).2
   exact (h.kind hi hk (by omega)).1.trans k
  rw [if_neg (show ¬ kindAt s i = 1 by omega), if_neg (show ¬ kindAt s i = 2 by omega), if_neg (show ¬ kindAt s i = 4 by omega), if_neg (show ¬ kindAt v i = 1 by omega), if_neg (show ¬ kindAt v i = 2 by omega), if_neg (show ¬ kindAt v i = 4 by omega)]
 ·rw [if_neg (show ¬ kindAt s i = 1 by omega), if_neg (show ¬ kindAt s i = 2 by omega), if_pos k] at he
  obtain ⟨k1, k2⟩ := h.kind hi hk he
  rw [if_neg (show ¬ kindAt s i = 1 by omega), if_neg (show ¬ kindAt s i = 2 by omega), if_pos k, if_neg (show ¬ kindAt v i = 1 by omega), if_neg (show ¬ kindAt v i = 2 by omega), if_pos (k1.trans k), k2, front_extract h he]
end
section
open Go.Lib
def Reach (s : ByteArray) (i : Nat) (l c : Int) : Prop := ∀ P : Nat → Int → Int → Prop, P 0 1 1 →
 (∀ i l c, P i l c → i < s.size → nextR s i ≠ 65533 → P (i + nextN s i) (if nextR s i = 10 then l + 1 else l) (if nextR s i = 10 then 1 else c + 1)) → P i l c
theorem Reach.zero (s : ByteArray) : Reach s 0 1 1 := fun _ h0 _ => h0
theorem Reach.next {s : ByteArray} {i : Nat} {l c : Int} (h : Reach s i l c) (hi : i < s.size) (hr : nextR s i ≠ 65533) : Reach s (i + nextN s i) (if nextR s i = 10 then l + 1 else l) (if nextR s i = 10 then 1 else c + 1) :=
 fun P h0 hn => hn _ _ _ (h P h0 hn) hi hr
theorem Reach.at {s : ByteArray} {i : Nat} {l c : Int} (h : Reach s i l c) : At s i l c := h (At s) (At.zero s) (fun _ _ _ h hi _ => h.next hi)
theorem Reach.front {v s : ByteArray} (hf : Front v s) {i : Nat} {l c : Int} (h : Reach s i l c) (hi : i ≤ v.size) : Reach v i l c := by
 refine h (fun i l c => i ≤ v.size → Reach v i l c) (fun _ => Reach.zero v) ?_ hi
 intro i l c ih his hr hle
 have hz := next_size his
 have hd := hf.decode (show i < v.size by omega) hr hle
 have e1 : nextR v i = nextR s i := by unfold nextR; rw [hd]
 have e2 : nextN v i = nextN s i := by unfold nextN; rw [hd]
 have := (ih (by omega)).next (show i < v.size by omega) (by rw [e1]; exact hr)
 rw [e1, e2] at this
 exact this
theorem Reach.here {s : ByteArray} {i : Nat} {l c : Int} (h : Reach s i l c) (hi : i < s.size) : placeI s (i : Int) = (l, c) := h.at.here (Int.le_refl _) (by have := next_size hi; omega) hi
theorem stepAt_blank {s : ByteArray} {i : Nat} (h : kindAt s i = 3) : stepAt s i = 1 := by
 have hi := kindAt_in (s := s) (i := i) (by omega)
 unfold kindAt at h
 rw [if_pos hi] at h
 have hr : nextR s i < 128 := by
  unfold kindI at h
  repeat' split at h
  all_goals omega
 unfold stepAt
 rw [if_pos hi, (next_byte ((next_low s i).1 hr)).2]
theorem kind_good {s : ByteArray} {i : Nat} (hk : 1 ≤ kindAt s i) : i < s.size ∧ nextR s i ≠ 65533 ∧ stepAt s i = nextN s i := by
 have hi := kindAt_in (s := s) (i := i) (by omega)
 refine ⟨hi, fun e => ?_, by unfold stepAt; rw [if_pos hi]⟩
 unfold kindAt at hk
 rw [if_pos hi, e, kind_err] at hk
 omega
theorem Reach.step {s : ByteArray} {i : Nat} {l c : Int} (h : Reach s i l c) (hk : 1 ≤ kindAt s i) : ∃ l' c', Reach s (i + stepAt s i) l' c' := by
 obtain ⟨h1, h2, h3⟩ := kind_good hk
 rw [h3]
 exact ⟨_, _, h.next h1 h2⟩
theorem Reach.word {s : ByteArray} : ∀ k i l c, s.size - i ≤ k → Reach s i l c → ∃ l' c', Reach s (wordEnd s i) l' c' := by
 intro k
 induction k with
 | zero =>
  intro i l c hk h
  rw [wordEnd_here (fun e => by have := kindAt_in (s := s) (i := i) (by omega); omega)]
  exact ⟨_, _, h⟩
 | succ k ih =>
  intro i l c hk h
  by_cases h2 : kindAt s i = 1 ∨ kindAt s i = 2
  ·have hz := stepAt_size (kindAt_in (s := s) (i := i) (by omega))
   obtain ⟨l', c', h'⟩ := h.step (by omega)
   rw [wordEnd_step h2]
   exact ih _ _ _ (by omega) h'
  ·rw [wordEnd_here h2]; exact ⟨_, _, h⟩
theorem Reach.digits {s : ByteArray} : ∀ k i l c, s.size - i ≤ k → Reach s i l c → ∃ l' c', Reach s (digEnd s i) l' c' := by
 intro k
 induction k with
 | zero =>
  intro i l c hk h
  rw [digEnd_here (fun e => by have := (kindAt_digit.1 e).1; omega)]
  exact ⟨_, _, h⟩
 | succ k ih =>
  intro i l c hk h
  by_cases h2 : kindAt s i = 2
  ·have hz := (kindAt_digit.1 h2).1
   obtain ⟨l', c', h'⟩ := h.step (by omega)
   rw [stepAt_digit h2] at h'
   rw [digEnd_step h2]
   exact ih _ _ _ (by omega) h'
  ·rw [digEnd_here h2]; exact ⟨_, _, h⟩
theorem Reach.number {s : ByteArray} {i : Nat} {l c : Int} (h : Reach s i l c) : ∃ l' c', Reach s (numEnd s i) l' c' := by
 obtain ⟨l', c', h'⟩ := Reach.digits (s := s) _ i l c (Nat.le_refl _) h
 unfold numEnd
 by_cases hc : digEnd s i < s.size ∧ bt s (digEnd s i) = 124 ∧ digEnd s i + 1 < digEnd s (digEnd s i + 1)
 ·rw [if_pos hc]
  obtain ⟨e1, e2⟩ := next_byte (s := s) (i := digEnd s i) (by omega)
  have h2 := h'.next hc.1 (by rw [e1, hc.2.1]; decide)
  rw [e2] at h2
  exact Reach.digits _ _ _ _ (Nat.le_refl _) h2
 ·rw [if_neg hc]; exact ⟨_, _, h'⟩
theorem tokenI_ok {s : ByteArray} {i : Nat} (h : (tokenI s i).2.2.2 = 0) : (kindAt s i = 1 ∧ (tokenI s i).2.2.1 = wordEnd s i ∨ kindAt s i = 2 ∧ (tokenI s i).2.2.1 = numEnd s i ∨ kindAt s i = 4 ∧ (tokenI s i).2.2.1 = i + stepAt s i) ∧ (tokenI s i).2.1 = s.extract i (tokenI s i).2.2.1 := by
 unfold tokenI at h ⊢
 by_cases k1 : kindAt s i = 1
 ·rw [if_pos k1] at h ⊢
  by_cases hc : i + 40 < wordEnd s i
  ·rw [if_pos hc] at h; exact absurd h (by simp)
  ·rw [if_neg hc]; exact ⟨.inl ⟨k1, rfl⟩, rfl⟩
 rw [if_neg k1] at h ⊢
 by_cases k2 : kindAt s i = 2
 ·rw [if_pos k2] at h ⊢
  by_cases hc : 40 < cutI (s.extract i (numEnd s i)) ∨ cutI (s.extract i (numEnd s i)) + 41 < (s.extract i (numEnd s i)).size
  ·rw [if_pos hc] at h; exact absurd h (by simp)
  rw [if_neg hc] at h ⊢
  by_cases hd : numB (s.extract i (numEnd s i)) = true
  ·rw [if_pos hd]; exact ⟨.inr (.inl ⟨k2, rfl⟩), rfl⟩
  ·rw [if_neg hd] at h; exact absurd h (by simp)
 rw [if_neg k2] at h ⊢
 by_cases k4 : kindAt s i = 4
 ·rw [if_pos k4]; exact ⟨.inr (.inr ⟨k4, rfl⟩), rfl⟩
 rw [if_neg k4] at h
 exact absurd h (by simp)
theorem tokenI_kind {s : ByteArray} {i : Nat} (h : (tokenI s i).2.2.2 = 0) : 1 ≤ kindAt s i ∧ kindAt s i ≠ 3 := by
 rcases (tokenI_ok h).1 with e | e | e <;> omega
end
end Go.Proofs.YtaeladkcmpdkhaaGreatDoor
