/-
  Contracts of the document's own answers for numbers (package talwegref02: Trim, at, Of, Small, Bits, Cmp, Few) and of talwegref01's Words, for every list of words: as numbers; memory that was there stays.
-/
import Derived.Test.YtlokidddbkdclaaDoorNatB
import Derived.Test.YtlokidddbkdclaaDoorLimbRef
namespace Go.Proofs.YtlokidddbkdclaaDoor
open Go.RowKit

theorem words_step {xs ys : List Int} {k : Nat} (h : xs.take k = ys.take k) (he : xs.getD k 0 = ys.getD k 0) (hx : k < xs.length) (hy : k < ys.length) : xs.take (k + 1) = ys.take (k + 1) := by
  rw [List.take_succ_eq_append_getElem hx, List.take_succ_eq_append_getElem hy, h]
  simp [List.getD_eq_getElem?_getD, hx, hy] at he
  rw [he]

set_option maxHeartbeats 1000000 in
/-- Are two lists of words one? -/
theorem ref_words (a : Option Addr) (n c : Nat) (xs : List Int) (b : Option Addr) (m d : Nat) (ys : List Int) (w : World) (h : IsWords w (.slice a n c) xs) (g : IsWords w (.slice b m d) ys) (r : Bool) (hr : decide (xs = ys) = r) :
    Calls Tryd.prog 12 #[.slice a n c, .slice b m d] w fun e w' => e = .returned (.bool r) ∧ Below w.heap.size w w' := by
  obtain ⟨hr1, hn⟩ := h.reads
  obtain ⟨hr2, hm⟩ := g.reads
  clear h g
  by_cases hl : n = m
  · subst hl
    go_enter Tryd.func12, Tryd.ntmps12
    go_wp2
    go_loopw [5] (fun i v => ∃ k : Nat, k ≤ n ∧ i = .int .i64 k ∧ Below w.heap.size w v ∧ xs.take k = ys.take k) (fun i _ => n - (intOf i).toNat)
    case atStart => exact ⟨0, by omega, rfl, Below.refl _ _, rfl⟩
    case round =>
      obtain ⟨k, hk, rfl, hb, hd⟩ := hrel
      have HD : Hid (xs.take k = ys.take k) := hd
      clear hd
      by_cases hlt : k < n
      · rcases hr1.2 with h0 | ⟨b1, o1, rfl, hc1⟩
        · omega
        rcases hr2.2 with h0 | ⟨b2, o2, rfl, hc2⟩
        · omega
        have h1 := hc1 k hlt
        have h2 := hc2 k hlt
        rw [← hb.cell (p := ⟨b1, o1 + k, none⟩) (World.block_lt_of_cell? w _ h1)] at h1
        rw [← hb.cell (p := ⟨b2, o2 + k, none⟩) (World.block_lt_of_cell? w _ h2)] at h2
        have l1 : Hid (xs.length = n) := hr1.1
        have l2 : Hid (ys.length = n) := hr2.1
        by_cases he : xs.getD k 0 = ys.getD k 0
        · rw [he] at h1
          have HE : Hid (xs.getD k 0 = ys.getD k 0) := he
          generalize ys.getD k 0 = y at h1 h2
          clear hc1 hc2 hr1 hr2 he
          go_wp2
          go_quiet (fail)
          go_wp2
          go_roundw
          case rel => exact ⟨k + 1, by omega, by go_num, below_drewN hb _, words_step HD.out HE.out (by rw [l1.out]; omega) (by rw [l2.out]; omega)⟩
          case measure => simp [intOf]; omega
        · have hf : r = false := by
            rw [← hr]
            simp only [decide_eq_false_iff_not]
            intro e; exact he (by rw [e])
          subst hf
          clear hr
          generalize xs.getD k 0 = x at h1 he
          generalize ys.getD k 0 = y at h2 he
          have hne : (x == y) = false := by simpa using he
          clear hc1 hc2 hr1 hr2 he
          go_wp2
          go_quiet (fail)
          go_wp2
          go_ret
          exact ⟨rfl, below_drewN hb _⟩
      · have ht : r = true := by
          rw [← hr]
          have := HD.out
          rw [List.take_of_length_le (by rw [hr1.1]; omega), List.take_of_length_le (by rw [hr2.1]; omega)] at this
          simpa using this
        subst ht
        clear hr hr1 hr2
        go_wp2
        go_ret
        exact ⟨rfl, hb⟩
  · have hf : r = false := by
      rw [← hr]
      simp only [decide_eq_false_iff_not]
      intro e; exact hl (by rw [← hr1.1, ← hr2.1, e])
    subst hf
    clear hr hr1 hr2
    go_enter Tryd.func12, Tryd.ntmps12
    go_wp2
    go_ret
    exact ⟨rfl, Below.refl _ _⟩


theorem ref_at (a : Option Addr) (n c : Nat) (zs : List Int) (w : World) (h : IsWords w (.slice a n c) zs) (k : Nat) (hk : k ≤ 9223372036854775807) (z : Int) (hz : zs.getD k 0 = z) (z0 : 0 ≤ z) (z1 : z < 4294967296) :
    Calls Tryd.prog 45 #[.slice a n c, .int .i64 k] w fun e w' => e = .returned (.int .u64 z) ∧ w = w' := by
  obtain ⟨⟨hl, hr⟩, hn⟩ := h.reads
  by_cases hlt : k < n
  · rcases hr with h0 | ⟨b, off, rfl, hc⟩
    · omega
    · have hck := hc k hlt
      rw [hz] at hck
      clear hc hz h
      go_enter Tryd.func45, Tryd.ntmps45
      go_wp2
      go_ret
      exact ⟨rfl, rfl⟩
  · have : z = 0 := by rw [← hz]; simp [List.getD_eq_getElem?_getD, List.getElem?_eq_none (by omega : zs.length ≤ k)]
    subst this
    clear h hr hz
    go_enter Tryd.func45, Tryd.ntmps45
    go_wp2
    go_ret
    exact ⟨rfl, rfl⟩
end Go.Proofs.YtlokidddbkdclaaDoor
