/-
  The walk of the statement LimbLow: for every word and every list of words it returns true; memory that was there stays.
-/
import Derived.Test.YtpehignbgdpbiaaLimbLaws
namespace Go.Proofs.Ytpehignbgdpbiaa
open Go.RowKit

/-- What the frame of a statement says of a slice of integers that came in. -/
def CameIn (k : IntKind) (w : World) (a : Option Addr) (len cap : Nat) (zs : List Int) : Prop :=
  (a = none ∧ len = 0 ∧ cap = 0 ∧ zs = []) ∨
  ∃ x, a = some x ∧ len ≤ cap ∧ cap ≤ maxLen ∧ zs.length = cap ∧ (∀ i, i < zs.length → w.cell? (x.add i) = some (.int k (zs.getD i 0))) ∧ ∀ n ∈ zs, (Lit.int k n).wf = true

theorem came_reads {k : IntKind} {w : World} {a : Option Addr} {len cap : Nat} {zs : List Int} (h : CameIn k w a len cap zs) :
    Reads k w a len (zs.take len) ∧ len ≤ 9223372036854775807 ∧ len ≤ cap ∧ ∀ n ∈ zs.take len, (Lit.int k n).wf = true := by
  rcases h with ⟨rfl, rfl, rfl, rfl⟩ | ⟨x, rfl, hl, hm, hz, hc, hw⟩
  · exact ⟨⟨rfl, .inl rfl⟩, by omega, by omega, by simp⟩
  · refine ⟨⟨by simp; omega, ?_⟩, by unfold maxLen at hm; omega, hl, fun n hn => hw n (List.mem_of_mem_take hn)⟩
    by_cases h0 : len = 0
    · exact .inl h0
    · obtain ⟨b, off, rfl, hc'⟩ := Go.ints_at hc (by omega)
      refine .inr ⟨b, off, rfl, fun i hi => ?_⟩
      rw [hc' i (by omega)]
      simp [List.getD_eq_getElem?_getD, hi]

theorem Reads.below {k : IntKind} {w w' : World} {a : Option Addr} {n : Nat} {zs : List Int} (h : Reads k w a n zs) (hb : Below w.heap.size w w') : Reads k w' a n zs := by
  refine ⟨h.1, h.2.imp id ?_⟩
  rintro ⟨b, off, rfl, hc⟩
  refine ⟨b, off, rfl, fun i hi => ?_⟩
  have hci := hc i hi
  rw [hb.cell (p := ⟨b, off + i, none⟩) (World.block_lt_of_cell? w _ hci)]
  exact hci

set_option maxHeartbeats 1000000 in
theorem law_LimbLow (a : Int) (s : Option Addr) (len cap : Nat) (zs : List Int) (w : World) (h0 : (Lit.int .u32 a).wf = true) (h1 : CameIn .u32 w s len cap zs) :
    Calls Try.prog 6 #[.int .u32 a, .slice s len cap] w fun e w' => e = .returned (.bool true) ∧ Below w.heap.size w w' := by
  obtain ⟨a0, a1⟩ := wf_u32 h0
  obtain ⟨hr, hl, -, -⟩ := came_reads h1
  have HR : Hid (Reads .u32 w s len (zs.take len)) := hr
  clear h0 h1 hr
  by_cases h100 : 100 < len
  · go_enter Try.func6, Try.ntmps6
    go_wp2_with (go_at_call 10; refine (limb_awake _).mono ?_; rintro e w0 ⟨rfl, x0⟩)
    go_ret
    exact ⟨rfl, x0⟩
  · go_enter Try.func6, Try.ntmps6
    go_wp2_with (first
      | (go_at_call 10; refine (limb_awake _).mono ?_; rintro e w0 ⟨rfl, x0⟩)
      | (go_at_call 19; refine (limb_bits a _ a0 a1).mono ?_; rintro e w1 ⟨rfl, rfl⟩)
      | (go_at_call 20; refine (ref_bits a _ a0 a1).mono ?_; rintro e w1 ⟨rfl, rfl⟩)
      | (go_at_call 21; refine (limb_low s len cap (zs.take len) _ (Reads.below HR.out x0) hl).mono ?_; rintro e w1 ⟨rfl, rfl⟩)
      | (go_at_call 22; refine (ref_low s len cap (zs.take len) _ (Reads.below HR.out x0) hl).mono ?_; rintro e w1 ⟨rfl, rfl⟩))
    go_ret
    exact ⟨rfl, x0⟩
end Go.Proofs.Ytpehignbgdpbiaa
