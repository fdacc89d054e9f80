/-
  Small things that the statements' walks share: what came in, literals, lists of numbers, contracts of package nat's functions with the numbers named; a store into another block. No conditions of their own.
-/
import Derived.Test.YtlokidddbkdclaaDoorNatAdd
import Derived.Test.YtlokidddbkdclaaDoorNatSub
namespace Go.Proofs.YtlokidddbkdclaaDoor
open Go.RowKit

theorem came_wd {w : World} {a : Option Addr} {len cap : Nat} {zs : List Int} (h : CameIn .u32 w a len cap zs) : Wd (zs.take len) :=
  fun z hz => wf_u32 ((came_reads h).2.2.2 z hz)

theorem natOf_lit {n : Nat} (zs : List Int) (h : Wd zs) (hv : val zs = n) (hl : lowN zs zs.length = zs.length) : natOf n = zs := by
  rw [← hv, natOf_val zs h, hl]; exact List.take_length

theorem Own.isWords {W w w' : World} {v : Value} {n : Nat} {xs : List Int} (h : Own W w v n xs) (hb : Below w.heap.size w w') : IsWords w' v xs := (h.more hb).words

/-- A literal reads on in later worlds. -/
theorem lit_words2 (w : World) (xs ys : List Int) (n m : Nat) (hn : xs.length = n) (_hm : ys.length = m) (hx : n ≤ maxLen) :
    IsWords ((w.alloc (.cells (xs.map (Value.int .u32)).toArray 36)).alloc (.cells (ys.map (Value.int .u32)).toArray 36)) (.slice (some ⟨w.heap.size, 0, none⟩) n n) xs :=
  (lit_words w xs n hn hx).below ((Below.refl _ _).alloc (Nat.le_refl _) _)

theorem right_nat (n : Nat) : lowN (natOf n) (nl n) = nl n := by
  have := nl_val (natOf n) (wd_natOf n)
  rw [val_natOf] at this
  exact this.symm

theorem sgn_anti (a b : Int) : sgn b a = -sgn a b := by
  unfold sgn
  rcases Int.lt_trichotomy a b with h | h | h
  · rw [if_neg (by omega), if_pos h, if_pos h]; rfl
  · rw [if_neg (by omega), if_neg (by omega), if_neg (by omega), if_neg (by omega)]; rfl
  · rw [if_pos h, if_neg (by omega), if_pos h]
theorem sgn_add (a b c : Int) : sgn (a + c) (b + c) = sgn a b := by
  rcases Int.lt_trichotomy a b with h | h | h
  · rw [sgn_lt h, sgn_lt (by omega)]
  · rw [sgn_eq h, sgn_eq (by omega)]
  · rw [sgn_gt h, sgn_gt (by omega)]

/-- Add's contract, in the numbers' own words. -/
theorem nat_add' {a : Option Addr} {n c : Nat} {zs : List Int} {b : Option Addr} {m d : Nat} {ys : List Int} {w : World} (h : IsWords w (.slice a n c) zs) (hz : Wd zs) (g : IsWords w (.slice b m d) ys) (gz : Wd ys)
    (hn : n ≤ 1000000000000) (hm : m ≤ 1000000000000) (N : Nat) (hN : val zs + val ys = N) : Calls Tryd.prog 20 #[.slice a n c, .slice b m d] w (Ans w N) := by
  rw [← hN]; exact nat_add a n c zs b m d ys w h hz g gz hn hm
theorem nat_cmp' {a : Option Addr} {n c : Nat} {zs : List Int} {b : Option Addr} {m d : Nat} {ys : List Int} {w : World} (h : IsWords w (.slice a n c) zs) (hz : Wd zs) (g : IsWords w (.slice b m d) ys) (gz : Wd ys)
    (s : Int) (hs : sgn (val zs) (val ys) = s) : Calls Tryd.prog 16 #[.slice a n c, .slice b m d] w fun e w' => e = .returned (.int .i64 s) ∧ Below w.heap.size w w' := by
  rw [← hs]; exact nat_cmp a n c zs b m d ys w h hz g gz

theorem nl_small {xs : List Int} (h : Wd xs) (n : Nat) (hn : xs.length ≤ n) : nl (val xs) ≤ n := Nat.le_trans (nl_val_le xs h) hn

theorem wf_u8 {a : Int} (h : (Lit.int .u8 a).wf = true) : 0 ≤ a ∧ a < 256 := by
  simp [Lit.wf, IntKind.min, IntKind.max, IntKind.signed, IntKind.bits] at h; omega

/-- Sub's answer, whether there is a difference or none. -/
def AnsSub (W : World) (N : Nat) (r : Bool) (e : Ending) (w' : World) : Prop := ∃ a c, e = .returned (.tuple #[.slice a (nl N) c, .bool r]) ∧ Own W w' (.slice a (nl N) c) (nl N) (natOf N)

/-- A store into another block of the call's own. -/
theorem Own.other {W w : World} {a : Option Addr} {n c : Nat} {xs : List Int} (h : Own W w (.slice a n c) n xs) {g k : Nat} (hg : W.heap.size ≤ g) (hne : ∀ g', a = some ⟨g', 0, none⟩ → g' ≠ g) (u : Value) :
    Own W (w.setCell ⟨g, k, none⟩ u) (.slice a n c) n xs := by
  refine ⟨⟨h.1.1, ?_⟩, h.2.setCell hg _⟩
  rcases h.1.2 with h0 | ⟨g', cap, cur, e, h1, hg', h2⟩
  · exact .inl h0
  · refine .inr ⟨g', cap, cur, e, h1, ?_, h2⟩
    simp only [Value.slice.injEq] at e
    have := hne g' e.1
    rw [Below.heap_setCell w ⟨g, k, none⟩ u g' (by simpa using this)]
    exact hg'

end Go.Proofs.YtlokidddbkdclaaDoor
