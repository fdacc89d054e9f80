/-
  Laws of no function: slices of 32-bit words that a call reads or makes: what reads as words, what the call owns, append onto an owned row, of words and of zeros. Conditions: Go's own limits on sizes.
-/
import Derived.Test.YtnmohojmoienbaaOwn
import Derived.Test.YtnmohojmoienbaaRows
import Derived.OpenShut
namespace Go.Proofs.Ytnmohojmoienbaa
open Go.RowKit

theorem infoU32 : (Try.prog.info? 49).map (fun i => (i.zero, i.size, i.bytes)) = some (some (.int .u32 0), 1, 4) := by kernel_rfl

/-- The slice value v reads as the words zs. -/
def IsWords (w : World) (v : Value) (zs : List Int) : Prop :=
  (v = .slice none 0 0 ∧ zs = []) ∨ ∃ x cap, v = .slice (some x) zs.length cap ∧ zs.length ≤ cap ∧ cap ≤ maxLen ∧ ∀ i, i < zs.length → w.cell? (x.add i) = some (.int .u32 (zs.getD i 0))

/-- The call that began in W owns v, n words xs; nothing older than W has turned. -/
def Own (W w : World) (v : Value) (n : Nat) (xs : List Int) : Prop :=
  w.ownsRow W.heap.size 49 1 v n (xs.map (Value.int .u32)) ∧ Below W.heap.size W w

theorem Own.length {W w : World} {v : Value} {n : Nat} {xs : List Int} (h : Own W w v n xs) : xs.length = n := by
  have := h.1.1; simpa using this

theorem Own.words {W w : World} {v : Value} {n : Nat} {xs : List Int} (h : Own W w v n xs) : IsWords w v xs := by
  have hl := h.length
  rcases h.1.2 with ⟨rfl, rfl⟩ | ⟨g, cap, cur, rfl, -, hg, hnc, hcm, -, -⟩
  · exact .inl ⟨rfl, List.eq_nil_of_length_eq_zero hl⟩
  · refine .inr ⟨⟨g, 0, none⟩, cap, by rw [hl], by omega, hcm, fun i hi => ?_⟩
    refine h.1.cells (g := g) rfl i _ ?_
    simp [hi]

theorem IsWords.below {w w' : World} {v : Value} {zs : List Int} (h : IsWords w v zs) (hb : Below w.heap.size w w') : IsWords w' v zs := by
  rcases h with h | ⟨x, cap, rfl, h1, h2, hc⟩
  · exact .inl h
  · refine .inr ⟨x, cap, rfl, h1, h2, fun i hi => ?_⟩
    have hci := hc i hi
    rw [hb.cell (p := x.add i) (World.block_lt_of_cell? w _ hci)]
    exact hci

theorem IsWords.lit {w : World} {v : Value} {zs : List Int} (h : IsWords w v zs) : ∃ a c, v = .slice a zs.length c := by
  rcases h with ⟨rfl, rfl⟩ | ⟨x, cap, rfl, -⟩
  · exact ⟨none, 0, rfl⟩
  · exact ⟨_, _, rfl⟩

theorem Own.lit {W w : World} {v : Value} {n : Nat} {xs : List Int} (h : Own W w v n xs) : ∃ a c, v = .slice a n c := by
  obtain ⟨a, c, e⟩ := h.words.lit
  exact ⟨a, c, by rw [e, h.length]⟩

theorem Own.below {W w : World} {v : Value} {n : Nat} {xs : List Int} (h : Own W w v n xs) : Below W.heap.size W w := h.2

theorem oneCells (ys : List Int) : ∀ u ∈ ys.map (Value.int .u32), u.oneCell' = true := by
  intro u hu
  obtain ⟨y, -, rfl⟩ := List.mem_map.1 hu
  rfl

theorem below_grown {W w w' : World} {v : Value} {n : Nat} {xs : List Int} (h : Own W w v n xs) (hg : w.grownBy w' v.ownBlock) : Below W.heap.size W w' :=
  h.2.grown hg h.2.size (fun k hk => (h.1.lt k hk).1)

theorem Own.alloc {W w : World} {v : Value} {n : Nat} {xs : List Int} (h : Own W w v n xs) (o : Obj) : Own W (w.alloc o) v n xs := ⟨h.1.alloc o, h.2.alloc h.2.size o⟩
theorem Own.drew {W w : World} {v : Value} {n : Nat} {xs : List Int} (h : Own W w v n xs) : Own W w.drew v n xs := ⟨h.1, h.2.drew⟩

/-- A literal of n words in a new block reads as these words. -/
theorem lit_words (w : World) (xs : List Int) (n : Nat) (hn : xs.length = n) (hm : n ≤ maxLen) :
    IsWords (w.alloc (.cells (xs.map (Value.int .u32)).toArray 49)) (.slice (some ⟨w.heap.size, 0, none⟩) n n) xs := by
  refine .inr ⟨_, n, by rw [hn], by omega, hm, fun i hi => ?_⟩
  rw [Go.WideShapes.add_plain]
  simp [hi]

/-- A literal of n words in a new block is the call's own. -/
theorem own_lit (W w : World) (xs : List Int) (n : Nat) (hb : Below W.heap.size W w) (hn : xs.length = n) (hm : n ≤ maxLen) :
    Own W (w.alloc (.cells (xs.map (Value.int .u32)).toArray 49)) (.slice (some ⟨w.heap.size, 0, none⟩) n n) n xs :=
  ⟨by simpa using World.ownsRow_lit (base := W.heap.size) (e := 49) (size := 1) w (xs.map (Value.int .u32)).toArray n hb.size hm (by simp [hn]), hb.alloc hb.size _⟩
end Go.Proofs.Ytnmohojmoienbaa
