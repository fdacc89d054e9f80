/-
  Contracts of package split's functions right, take, putBack, for every list of words: what taking a line from some words, and putting it back, does to the number in those words; nothing but those words' block turns.
-/
import Derived.Test.YtlokidddbkdclaaDoorTimesB
import Derived.Test.YtlokidddbkdclaaDoorNatMore
namespace Go.Proofs.YtlokidddbkdclaaDoor
open Go.RowKit

/-- Of what there was nothing but block g has turned. -/
def But (g : Nat) (w w' : World) : Prop := w.heap.size ≤ w'.heap.size ∧ ∀ k, k < w.heap.size → k ≠ g → w'.heap[k]? = w.heap[k]?

theorem But.refl (g : Nat) (w : World) : But g w w := ⟨Nat.le_refl _, fun _ _ _ => rfl⟩
theorem But.trans {g : Nat} {a b c : World} (h : But g a b) (k : But g b c) : But g a c :=
  ⟨Nat.le_trans h.1 k.1, fun i hi hg => (k.2 i (Nat.lt_of_lt_of_le hi h.1) hg).trans (h.2 i hi hg)⟩
theorem But.more {g : Nat} {a b c : World} (h : But g a b) (k : Below b.heap.size b c) : But g a c :=
  h.trans ⟨k.size, fun i hi _ => k.block i hi⟩
theorem But.set {g : Nat} {a b : World} (h : But g a b) (k : Nat) (u : Value) : But g a (b.setCell ⟨g, k, none⟩ u) :=
  h.trans ⟨by simp [World.setCell], fun i _ hg => Below.heap_setCell _ _ _ _ hg⟩

/-- A slice apart from block g. -/
def Apart (g : Nat) (a : Option Addr) : Prop := ∀ x, a = some x → x.block ≠ g

theorem add_block (a : Addr) (n : Nat) : (a.add n).block = a.block := by unfold Addr.add; split <;> rfl

theorem IsWords.but {w w' : World} {a : Option Addr} {n c : Nat} {zs : List Int} {g : Nat} (h : IsWords w (.slice a n c) zs) (ha : Apart g a) (hb : But g w w') : IsWords w' (.slice a n c) zs := by
  rcases h with h | ⟨x, cap, e, h1, h2, hc⟩
  · exact .inl h
  · refine .inr ⟨x, cap, e, h1, h2, fun i hi => ?_⟩
    have hci := hc i hi
    simp only [Value.slice.injEq] at e
    rw [World.cell?_of_block (w := w) (hb.2 _ (World.block_lt_of_cell? w _ hci) (by rw [add_block]; exact ha x e.1))]
    exact hci

theorem Own.but {W w w' : World} {a : Option Addr} {n c : Nat} {xs : List Int} {g : Nat} (h : Own W w (.slice a n c) n xs) (ha : Apart g a) (hb : But g w w') (hB : Below W.heap.size W w') : Own W w' (.slice a n c) n xs := by
  refine ⟨⟨h.1.1, ?_⟩, hB⟩
  rcases h.1.2 with h0 | ⟨g', cap, cur, e, h1, hg', h2⟩
  · exact .inl h0
  · refine .inr ⟨g', cap, cur, e, h1, ?_, h2⟩
    simp only [Value.slice.injEq] at e
    rw [hb.2 g' (Array.getElem?_eq_some_iff.1 hg').1 (ha _ e.1)]
    exact hg'

theorem split_right0 (a : Option Addr) (n c : Nat) (zs : List Int) (w : World) (h : IsWords w (.slice a n c) zs) (L : Nat) (hL : lowN zs n = L) :
    Calls Tryd.prog 64 #[.slice a n c] w fun e w' => e = .returned (.slice a L c) ∧ w = w' := by
  have hle : L ≤ n := by rw [← hL]; exact lowN_le _ _
  have hcap := h.cap
  have C := limb_low_words a n c zs w h
  rw [hL] at C
  have h1 : (0 : Int) ≤ L := by omega
  have h2 : (L : Int) ≤ c := by omega
  have hs : a = none → L = 0 ∧ c = 0 := by
    rintro rfl
    rcases h with ⟨e, rfl⟩ | ⟨x, cap, e, -⟩
    · simp only [Value.slice.injEq] at e; omega
    · simp at e
  clear h hL
  rcases a with _ | x
  · obtain ⟨rfl, rfl⟩ := hs rfl
    go_enter Tryd.func64, Tryd.ntmps64
    go_wp2_with (go_at_call 35; with_reducible refine Calls.mono C ?_; rintro e w1 ⟨rfl, rfl⟩)
    go_ret
    exact ⟨rfl, rfl⟩
  · clear hs
    go_enter Tryd.func64, Tryd.ntmps64
    go_wp2_with (go_at_call 35; with_reducible refine Calls.mono C ?_; rintro e w1 ⟨rfl, rfl⟩)
    go_ret
    exact ⟨rfl, rfl⟩

/-- right, in numbers. -/
theorem split_right (a : Option Addr) (n c : Nat) (zs : List Int) (w : World) (h : IsWords w (.slice a n c) zs) (hz : Wd zs) :
    Calls Tryd.prog 64 #[.slice a n c] w fun e w' => e = .returned (.slice a (nl (val zs)) c) ∧ w = w' :=
  split_right0 a n c zs w h _ (h.low hz).1

theorem shift_mul {p c : Nat} : c * (p * 4294967296) = 4294967296 * c * p := by rw [Nat.mul_comm p, ← Nat.mul_assoc, Nat.mul_comm c]

/-- One word's step of taking a line. -/
theorem take_step {p q r S S' V A x z s s' b b' c c' : Nat} (hp : p = q * r) (hs : S' + s * p = S + s' * p) (hi : S + A * x * q = V + (c + b) * p) (hy : s' + z * x + c + b = s + 4294967296 * (c' + b')) :
    S' + (A + z * r) * x * q = V + (c' + b') * (p * 4294967296) := by
  have e : (s' + z * x + c + b) * p = (s + 4294967296 * (c' + b')) * p := by rw [hy]
  have e3 : (A + z * r) * x * q = A * x * q + z * x * p := by
    rw [Nat.add_mul, Nat.add_mul, hp, Nat.mul_right_comm z r x, Nat.mul_assoc (z * x) r q, Nat.mul_comm r q]
  rw [shift_mul, e3]
  rw [Nat.add_mul, Nat.add_mul, Nat.add_mul, Nat.add_mul] at e
  rw [Nat.add_mul] at hi
  omega
/-- The last word's. -/
theorem take_last {p S S' V P s s' b b' c : Nat} (hs : S' + s * p = S + s' * p) (hi : S + P = V + (c + b) * p) (hy : s' + c + b = s + 4294967296 * b') : S' + P = V + b' * (p * 4294967296) := by
  have e : (s' + c + b) * p = (s + 4294967296 * b') * p := by rw [hy]
  rw [shift_mul]
  rw [Nat.add_mul, Nat.add_mul, Nat.add_mul] at e
  rw [Nat.add_mul] at hi
  omega
/-- One word's step of putting it back. -/
theorem back_step {p q r S S' V A z s s' c c' : Nat} (hp : p = q * r) (hs : S' + s * p = S + s' * p) (hi : S + c * p = V + A * q) (hy : s' + 4294967296 * c' = s + z + c) :
    S' + c' * (p * 4294967296) = V + (A + z * r) * q := by
  have e : (s' + 4294967296 * c') * p = (s + z + c) * p := by rw [hy]
  have e3 : (A + z * r) * q = A * q + z * p := by
    rw [Nat.add_mul, hp, Nat.mul_assoc z r q, Nat.mul_comm r q]
  rw [shift_mul, e3]
  rw [Nat.add_mul, Nat.add_mul, Nat.add_mul] at e
  omega
theorem back_last {p S S' V P s s' c c' : Nat} (hs : S' + s * p = S + s' * p) (hi : S + c * p = V + P) (hy : s' + 4294967296 * c' = s + c) : S' + c' * (p * 4294967296) = V + P := by
  have e : (s' + 4294967296 * c') * p = (s + c) * p := by rw [hy]
  rw [shift_mul]
  rw [Nat.add_mul, Nat.add_mul] at e
  omega

theorem drop_set {rs : List Int} {k T : Nat} (y : Int) (h : k < T) : (rs.set k y).drop T = rs.drop T := by
  rw [List.drop_set, if_pos h]
theorem val_lt_of_drop {rs ss : List Int} {T : Nat} (hr : Wd rs) (hd : rs.drop T = ss.drop T) (h : val ss < 4294967296 ^ T) : val rs < 4294967296 ^ T := by
  have h1 := val_split ss T
  have h2 := val_split rs T
  have h3 : val (ss.drop T) = 0 := by
    rcases Nat.eq_zero_or_pos (val (ss.drop T)) with h0 | h0
    · exact h0
    · have : 4294967296 ^ T * 1 ≤ 4294967296 ^ T * val (ss.drop T) := Nat.mul_le_mul_left _ h0
      omega
  rw [hd, h3] at h2
  rw [h2]
  simpa using val_take_lt rs hr T

end Go.Proofs.YtlokidddbkdclaaDoor
