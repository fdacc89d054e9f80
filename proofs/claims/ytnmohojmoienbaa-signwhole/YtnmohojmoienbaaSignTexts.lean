/-
  Laws of no function: places behind lines; names, and names with one byte more. No conditions of the program.
-/
import Derived.Test.YtnmohojmoienbaaSignPlace
namespace Go.Proofs.Ytnmohojmoienbaa
open Go.Lib

/-- How many lines end ahead of a byte. -/
def lines (s : ByteArray) : Nat → Nat
  | 0 => 0
  | i + 1 => lines s i + (if bt s i = 10 then 1 else 0)
theorem lines_le (s : ByteArray) (i : Nat) : lines s i ≤ i := by
  induction i with
  | zero => exact Nat.le_refl _
  | succ i ih => unfold lines; split <;> omega
theorem lines_same {s : ByteArray} {i : Nat} : ∀ k, (∀ j, i ≤ j → j < i + k → bt s j ≠ 10) → lines s (i + k) = lines s i := by
  intro k
  induction k with
  | zero => intro _; rfl
  | succ k ih =>
    intro h
    rw [show i + (k + 1) = (i + k) + 1 from rfl]
    show lines s (i + k) + (if bt s (i + k) = 10 then 1 else 0) = _
    rw [if_neg (h (i + k) (by omega) (by omega)), ih (fun j h0 h1 => h j h0 (by omega))]; rfl
theorem lines_rune {s : ByteArray} {i : Nat} (hi : i < s.size) : lines s (i + nextN s i) = lines s i + (if nextR s i = 10 then 1 else 0) := by
  have hz := next_size hi
  by_cases h : bt s i = 10
  · rw [if_pos ((next_line s i).2 h), (next_byte (by omega)).2]
    show lines s i + (if bt s i = 10 then 1 else 0) = _
    rw [if_pos h]
  · rw [if_neg (fun e => h ((next_line s i).1 e))]
    refine lines_same _ fun j h0 h1 => ?_
    rcases Nat.lt_or_ge i j with hj | hj
    · have := (next_inner hj h1).2; omega
    · obtain rfl : i = j := by omega
      exact h

/-- Behind the first k bytes, of which the last one ends a line, a rune begins. -/
theorem at_line {u : ByteArray} {k : Nat} (hk : k < u.size) (h10 : bt u k = 10) : ∀ m i l c, At u i l c → i ≤ k → k - i ≤ m → ∃ c', At u k (l + ((lines u k : Int) - lines u i)) c' := by
  intro m
  induction m with
  | zero =>
    intro i l c h hi hm
    obtain rfl : i = k := by omega
    exact ⟨c, by rw [Int.sub_self, Int.add_zero]; exact h⟩
  | succ m ih =>
    intro i l c h hi hm
    rcases Nat.lt_or_ge i k with hlt | hge
    · have hs := next_size (s := u) (i := i) (by omega)
      have hin : i + nextN u i ≤ k := by
        rcases Nat.lt_or_ge k (i + nextN u i) with hb | hb
        · have := (next_inner hlt hb).2; omega
        · exact hb
      have hr := lines_rune (s := u) (i := i) (by omega)
      obtain ⟨c', hc⟩ := ih _ _ _ (h.next (by omega)) hin (by omega)
      refine ⟨c', ?_⟩
      have e : (if nextR u i = 10 then l + 1 else l) + ((lines u k : Int) - lines u (i + nextN u i)) = l + ((lines u k : Int) - lines u i) := by
        rw [hr]; split <;> omega
      rw [e] at hc; exact hc
    · obtain rfl : i = k := by omega
      exact ⟨c, by rw [Int.sub_self, Int.add_zero]; exact h⟩

/-- Another text behind k bytes: its places, so many lines further on. -/
theorem placeF_shift {u t : ByteArray} {k : Nat} (hz : u.size = k + t.size) (hb : ∀ j, bt u (k + j) = bt t j) (at_ : Int) (n : Int) : ∀ f i l c, placeF u (k + at_) f (k + i) (l + n) c = ((placeF t at_ f i l c).1 + n, (placeF t at_ f i l c).2) := by
  intro f
  induction f with
  | zero => intro i l c; rfl
  | succ f ih =>
    intro i l c
    have hd : Utf8.decode u (k + i) = Utf8.decode t i := by
      rw [decode_bt, decode_bt, hb i, show k + i + 1 = k + (i + 1) by omega, show k + i + 2 = k + (i + 2) by omega, show k + i + 3 = k + (i + 3) by omega, hb, hb, hb, hz, Nat.add_sub_add_left]
    have hR : nextR u (k + i) = nextR t i := by unfold nextR; rw [hd]
    have hN : nextN u (k + i) = nextN t i := by unfold nextN; rw [hd]
    unfold placeF
    rw [hR, hN]
    by_cases h1 : i < t.size
    · rw [if_pos h1, if_pos (show k + i < u.size by omega)]
      by_cases h2 : at_ < (i : Int) + nextN t i
      · rw [if_pos h2, if_pos (show (k : Int) + at_ < ((k + i : Nat) : Int) + nextN t i by omega)]
      · rw [if_neg h2, if_neg (show ¬ (k : Int) + at_ < ((k + i : Nat) : Int) + nextN t i by omega), show k + i + nextN t i = k + (i + nextN t i) by omega]
        rw [← ih]
        congr 1
        split <;> omega
    · rw [if_neg h1, if_neg (show ¬ k + i < u.size by omega)]

theorem bt_data (u : ByteArray) (j : Nat) : u.get! j = u.data[j]! := rfl
theorem bt_get {s : ByteArray} {i : Nat} (h : i < s.size) : bt s i = s[i].toNat := by
  unfold bt
  have h' : i < s.data.size := h
  rw [bt_data, getElem!_pos s.data i h']; rfl
theorem bt_append_left (s t : ByteArray) {i : Nat} (h : i < s.size) : bt (s ++ t) i = bt s i := by
  unfold bt
  congr 1
  have h' : i < s.data.size := h
  rw [bt_data, bt_data, ByteArray.data_append, getElem!_pos _ _ (by rw [Array.size_append]; omega), getElem!_pos s.data i h', Array.getElem_append_left h']
theorem bt_append_right (s t : ByteArray) (j : Nat) : bt (s ++ t) (s.size + j) = bt t j := by
  unfold bt
  congr 1
  have e : s.size = s.data.size := rfl
  rw [bt_data, bt_data, ByteArray.data_append, e]
  by_cases h : j < t.data.size
  · rw [getElem!_pos _ _ (by rw [Array.size_append]; omega), getElem!_pos t.data j h, Array.getElem_append_right (by omega)]
    simp
  · rw [getElem!_neg _ _ (by rw [Array.size_append]; omega), getElem!_neg t.data j h]
theorem lines_append_left (s t : ByteArray) : ∀ i, i ≤ s.size → lines (s ++ t) i = lines s i := by
  intro i
  induction i with
  | zero => intro _; rfl
  | succ i ih => intro h; unfold lines; rw [ih (by omega), bt_append_left s t (by omega)]

theorem place_behind (s t : ByteArray) (at_ : Int) (h : 0 ≤ at_) : placeI (s ++ (⟨#[10]⟩ ++ t)) ((s.size : Int) + 1 + at_) = ((placeI t at_).1 + (1 + lines s s.size), (placeI t at_).2) := by
  have hz1 : (⟨#[10]⟩ ++ t : ByteArray).size = 1 + t.size := by rw [ByteArray.size_append]; rfl
  have hz : (s ++ (⟨#[10]⟩ ++ t)).size = s.size + 1 + t.size := by rw [ByteArray.size_append, hz1]; omega
  have hk : s.size < (s ++ (⟨#[10]⟩ ++ t)).size := by omega
  have h10 : bt (s ++ (⟨#[10]⟩ ++ t)) s.size = 10 := by
    have := bt_append_right s (⟨#[10]⟩ ++ t) 0
    rw [Nat.add_zero] at this
    rw [this, bt_append_left _ _ (show 0 < (⟨#[10]⟩ : ByteArray).size from by decide)]; rfl
  obtain ⟨c, hc⟩ := at_line hk h10 s.size 0 1 1 (At.zero _) (Nat.zero_le _) (by omega)
  rw [lines_append_left _ _ _ (Nat.le_refl _)] at hc
  have hn := hc.next hk
  rw [(next_line _ _).2 h10, (next_byte (by omega)).2] at hn
  simp only [if_true] at hn
  have hb : ∀ j, bt (s ++ (⟨#[10]⟩ ++ t)) (s.size + 1 + j) = bt t j := fun j => by
    rw [Nat.add_assoc, bt_append_right]
    have := bt_append_right ⟨#[10]⟩ t j
    rwa [show (⟨#[10]⟩ : ByteArray).size = 1 from rfl] at this
  rw [hn.2 _ (by omega) (t.size + 1) (by omega)]
  have := placeF_shift (k := s.size + 1) hz hb at_ (1 + lines s s.size) (t.size + 1) 0 1 1
  rw [Nat.add_zero] at this
  unfold placeI
  rw [← this]
  congr 1
  show (1 : Int) + ((lines s s.size : Int) - ((0 : Nat) : Int)) + 1 = _
  omega

/-- The words of the language. -/
def keyB (s : ByteArray) : Bool := s.toList == [105, 110] || s.toList == [108, 101, 116] || s.toList == [111, 117, 116]
/-- From a rune's beginning on: letters and digits, the first one a letter. -/
def nameF (s : ByteArray) : Nat → Nat → Bool
  | 0, _ => true
  | f + 1, i => if i < s.size then (if (kindI (nextR s i) ≠ 1 ∧ kindI (nextR s i) ≠ 2) ∨ (kindI (nextR s i) = 2 ∧ i = 0) then false else nameF s f (i + nextN s i)) else true
/-- Whether a text is a name. -/
def nameB (s : ByteArray) : Bool := decide (1 ≤ s.size ∧ s.size ≤ 40) && !keyB s && nameF s (s.size + 1) 0

theorem nameF_more (s : ByteArray) : ∀ f i, s.size < i + f → ∀ g, s.size < i + g → nameF s f i = nameF s g i := by
  intro f
  induction f with
  | zero =>
    intro i hf g hg
    cases g with
    | zero => rfl
    | succ g => unfold nameF; rw [if_neg (by omega)]
  | succ f ih =>
    intro i hf g hg
    cases g with
    | zero => unfold nameF; rw [if_neg (by omega)]
    | succ g =>
      unfold nameF
      by_cases h : i < s.size
      · have := next_size h
        rw [if_pos h, if_pos h, ih _ (by omega) g (by omega)]
      · rw [if_neg h, if_neg h]
theorem kind_err : kindI 65533 = 0 := by decide
theorem next_append (s t : ByteArray) {i : Nat} (hi : i < s.size) (h : nextR s i ≠ 65533) : nextR (s ++ t) i = nextR s i ∧ nextN (s ++ t) i = nextN s i := by
  have e : Utf8.decode (s ++ t) i = Utf8.decode s i := by
    rw [decode_bt, decode_bt, bt_append_left s t hi]
    refine decodeN_more ?_ (by rw [ByteArray.size_append]; omega) (fun h1 => bt_append_left s t (by omega)) (fun h2 => bt_append_left s t (by omega)) (fun h3 => bt_append_left s t (by omega))
    unfold nextR at h
    rw [decode_bt] at h
    intro e; exact h (by rw [e]; rfl)
  unfold nextR nextN
  rw [e]; exact ⟨rfl, rfl⟩
/-- A name's runes stay what they are with something behind them. -/
theorem nameF_append (s t : ByteArray) : ∀ f i, i ≤ s.size → s.size < i + f → nameF s f i = true → ∀ g, (s ++ t).size < i + g → ∃ g', (s ++ t).size < s.size + g' ∧ nameF (s ++ t) g i = nameF (s ++ t) g' s.size := by
  intro f
  induction f with
  | zero => intro i h0 h1; omega
  | succ f ih =>
    intro i h0 h1 h2 g hg
    have hz : (s ++ t).size = s.size + t.size := ByteArray.size_append
    by_cases hi : i < s.size
    · have hn := next_size hi
      unfold nameF at h2
      rw [if_pos hi] at h2
      by_cases hc : (kindI (nextR s i) ≠ 1 ∧ kindI (nextR s i) ≠ 2) ∨ (kindI (nextR s i) = 2 ∧ i = 0)
      · rw [if_pos hc] at h2; exact absurd h2 (by decide)
      · rw [if_neg hc] at h2
        have hne : nextR s i ≠ 65533 := by
          intro e
          rw [e, kind_err] at hc
          exact hc (.inl ⟨by decide, by decide⟩)
        obtain ⟨e1, e2⟩ := next_append s t hi hne
        cases g with
        | zero => omega
        | succ g =>
          obtain ⟨g', hg', e⟩ := ih (i + nextN s i) (by omega) (by omega) h2 g (by omega)
          refine ⟨g', hg', ?_⟩
          rw [← e]
          show (if i < (s ++ t).size then _ else _) = _
          rw [if_pos (by omega), e1, e2, if_neg hc]
    · obtain rfl : i = s.size := by omega
      exact ⟨g, by omega, rfl⟩
/-- With one byte more. -/
theorem nameF_byte {s : ByteArray} (b : UInt8) (h1 : 1 ≤ s.size) (h : nameF s (s.size + 1) 0 = true) : nameF (s ++ ⟨#[b]⟩) ((s ++ ⟨#[b]⟩).size + 1) 0 = decide (b.toNat < 128 ∧ (kindI b.toNat = 1 ∨ kindI b.toNat = 2)) := by
  obtain ⟨g, hg, e⟩ := nameF_append s ⟨#[b]⟩ _ 0 (Nat.zero_le _) (by omega) h ((s ++ ⟨#[b]⟩).size + 1) (by omega)
  rw [e]
  have hz : (s ++ ⟨#[b]⟩).size = s.size + 1 := ByteArray.size_append
  have hb : bt (s ++ ⟨#[b]⟩) s.size = b.toNat := by
    have := bt_append_right s ⟨#[b]⟩ 0
    rw [Nat.add_zero] at this
    rw [this]; rfl
  cases g with
  | zero => omega
  | succ g =>
    show (if s.size < (s ++ ⟨#[b]⟩).size then _ else _) = _
    rw [if_pos (by omega)]
    rcases Nat.lt_or_ge b.toNat 128 with hlt | hge
    · obtain ⟨e1, e2⟩ := next_byte (s := s ++ ⟨#[b]⟩) (i := s.size) (by omega)
      rw [e1, e2, hb]
      have hend : nameF (s ++ ⟨#[b]⟩) g (s.size + 1) = true := by
        cases g with
        | zero => rfl
        | succ g =>
          show (if s.size + 1 < (s ++ ⟨#[b]⟩).size then _ else _) = _
          rw [if_neg (by omega)]
      rw [hend]
      have h0 : ¬ s.size = 0 := by omega
      by_cases hk : kindI b.toNat = 1 ∨ kindI b.toNat = 2
      · rw [if_neg (by rcases hk with hk | hk <;> simp [hk, h0]), decide_eq_true ⟨hlt, hk⟩]
      · rw [if_pos (.inl ⟨fun e => hk (.inl e), fun e => hk (.inr e)⟩), decide_eq_false (fun e => hk e.2)]
    · have e1 : nextR (s ++ ⟨#[b]⟩) s.size = 65533 := by
        unfold nextR
        rw [decode_bt, hz, Nat.add_sub_cancel_left]
        unfold decodeN
        rw [hb, if_neg (by omega)]
        simp
      rw [e1, kind_err, if_pos (.inl ⟨by decide, by decide⟩), decide_eq_false (fun e => by omega)]
theorem nameB_byte {s : ByteArray} (b : UInt8) (h : nameB s = true) : nameB (s ++ ⟨#[b]⟩) = (decide (b.toNat < 128 ∧ (kindI b.toNat = 1 ∨ kindI b.toNat = 2)) && decide ((s ++ ⟨#[b]⟩).size ≤ 40) && !keyB (s ++ ⟨#[b]⟩)) := by
  unfold nameB at h
  simp only [Bool.and_eq_true, decide_eq_true_eq] at h
  have hz : (s ++ ⟨#[b]⟩).size = s.size + 1 := ByteArray.size_append
  unfold nameB
  rw [nameF_byte b h.1.1.1 h.2]
  have e : decide (1 ≤ (s ++ ⟨#[b]⟩).size ∧ (s ++ ⟨#[b]⟩).size ≤ 40) = decide ((s ++ ⟨#[b]⟩).size ≤ 40) := by
    rw [Bool.eq_iff_iff]; simp only [decide_eq_true_eq]; omega
  rw [e, Bool.and_comm, Bool.and_assoc]
theorem nameB_blank {s : ByteArray} (h : nameB s = true) : nameB (s ++ ⟨#[32]⟩) = false := by
  rw [nameB_byte 32 h, decide_eq_false (by decide)]; rfl
theorem nameB_zero (s : ByteArray) : nameB (⟨#[48]⟩ ++ s) = false := by
  unfold nameB
  have hz : (⟨#[48]⟩ ++ s : ByteArray).size = 1 + s.size := ByteArray.size_append
  have hb : bt (⟨#[48]⟩ ++ s) 0 = 48 := by rw [bt_append_left _ _ (by decide)]; rfl
  have e1 := (next_byte (s := ⟨#[48]⟩ ++ s) (i := 0) (by omega)).1
  rw [hb] at e1
  have : nameF (⟨#[48]⟩ ++ s) ((⟨#[48]⟩ ++ s : ByteArray).size + 1) 0 = false := by
    show (if 0 < (⟨#[48]⟩ ++ s : ByteArray).size then _ else _) = _
    rw [if_pos (by omega), e1, if_pos (.inr ⟨by decide, rfl⟩)]
  rw [this, Bool.and_false]
end Go.Proofs.Ytnmohojmoienbaa
