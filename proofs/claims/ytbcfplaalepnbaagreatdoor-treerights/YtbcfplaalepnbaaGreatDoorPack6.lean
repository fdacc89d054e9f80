/-
  Texts of mine put together in build order, as far as TreeParses, TreeRight need them: LexA, LexB, LexC, LexD, LexE, LexF, LexG, LexH, LexI, LexK, RatText. No conditions of their own.
-/
import Derived.Test.YtbcfplaalepnbaaGreatDoorRows
import Derived.WalkKit
import Derived.ProofKit
import Derived.WalkLawsBesides
import Derived.Deep.QuietTactic
import Derived.BigQuiet
import Derived.Outline
import Derived.Lib.AppendZerosOnto
import Derived.Lib.DecodeN
import Derived.Lib.BitFns
import Derived.OpenShut
import Derived.Laws.CopyOwn
import Derived.Deep.LoopGhost
import Derived.Lib.OthersKept
import Derived.Deep.RegionHeld3
import Derived.Lib.Strings
import Derived.Lib.BufferWrite
import Derived.Lib.UnsafeStr
import Derived.Laws.MakeOwn
import Derived.Deep.RegionWith
import Derived.Deep.RegionLaw
import Derived.Deep.DrawnRows
import Derived.Laws.IdiomStrings
import Derived.Laws.Bits64b
import Derived.RangeFuncNested
import Derived.RangeFuncBound
import Derived.RangeFuncCalls
import Derived.RangeFuncLeaves
import Derived.Shelf.Abstract
import Derived.Shelf.RegionOpen
import Derived.OwnWalkIn
import Derived.TacticsInMore
import Derived.LoopNIn
import Derived.LoopIn
import Derived.Sort.LoopGhostIn
import Derived.Test.YtbcfplaalepnbaaGreatDoorPack1
import Derived.Test.YtbcfplaalepnbaaGreatDoorPack2
import Derived.Test.YtbcfplaalepnbaaGreatDoorPack3
import Derived.Test.YtbcfplaalepnbaaGreatDoorPack4
import Derived.Test.YtbcfplaalepnbaaGreatDoorPack5
namespace Go.Proofs.YtbcfplaalepnbaaGreatDoor
open Go.RowKit Go.Lib
def ks (K : List Int) : Array Value := (K.map fun k => Value.int .i64 k).toArray
theorem ks_get {v : World} {g : Nat} {K : List Int} (h : BoxC v g (ks K) 3) {t : Nat} (ht : t < K.length) : v.cell? ⟨g, t, none⟩ = some (.int .i64 K[t]) := by
  rw [(h.cell t).1]
  unfold ks
  simp [ht]
set_option maxHeartbeats 4000000 in
theorem lib_index (g : Nat) (K : List Int) (w : World) (hB : BoxC w g (ks K) 3) (hl : K.length ≤ 10) (x : Int) :
    Calls Tryz.prog 129 #[.slice (some ⟨g, 0, none⟩) K.length K.length, .int .i64 x] w fun e w' => ∃ r : Int, e = .returned (.int .i64 r) ∧ (x ∈ K ∧ 0 ≤ r ∨ x ∉ K ∧ r = -1) ∧ w = w' := by
  have HB : Hid (BoxC w g (ks K) 3 ∧ K.length ≤ 10) := ⟨hB, hl⟩
  clear hB hl
  go_enter Tryz.func129, Tryz.ntmps129
  go_wp2
  go_loopg [8] K.length (fun q s8 v => ∃ t : Nat, s8 = .int .i64 t ∧ t + q = K.length ∧ (∀ j (h : j < K.length), j < t → K[j] ≠ x) ∧ w = v)
  case atStart => exact ⟨0, rfl, by omega, fun j _ h => absurd h (by omega), rfl⟩
  case round =>
    obtain ⟨t, rfl, hq, hN, rfl⟩ := hrel
    obtain ⟨hB, hl⟩ := HB.out
    rcases Nat.lt_or_ge t K.length with h | h
    · have h1 : (t : Int) < K.length := by omega
      have hc := ks_get hB h
      by_cases h2 : K[t] = x
      · have e2 : (x == K[t]) = true := by rw [beq_iff_eq]; exact h2.symm
        have HM : Hid (x ∈ K) := by show _; rw [← h2]; exact List.getElem_mem h
        generalize K[t] = y at *
        clear hN hB HB hl hq h2
        go_wp2
        go_ret
        exact ⟨_, rfl, .inl ⟨HM.out, by omega⟩, rfl⟩
      · have e2 : (x == K[t]) = false := by rw [beq_eq_false_iff_ne]; exact fun e => h2 e.symm
        have HN : Hid (∀ j (h : j < K.length), j < t + 1 → K[j] ≠ x) := by
          intro j hj hjt
          rcases Nat.lt_or_ge j t with h3 | h3
          · exact hN j hj h3
          · obtain rfl : j = t := by omega
            exact h2
        have q1 : 0 ≤ (t : Int) + 1 := by omega
        have q2 : (t : Int) + 1 < 10000000 := by omega
        have HG : Hid (t + gk = K.length ∧ t < K.length) := ⟨hq, h⟩
        generalize K[t] = y at *
        clear hN hB hl hq h2
        have W1 : Hid (wrap64 ((t : Int) + 1) = (t : Int) + 1) := wrap_smalls q1 q2
        clear q1 q2
        go_wp2
        have hG := HG.out
        go_roundg (K.length - (t + 1))
        case measure => omega
        case rel => exact ⟨t + 1, by rw [W1.out]; go_num, by omega, HN.out, rfl⟩
    · have h1 : ¬ (t : Int) < K.length := by omega
      have HM : Hid (x ∉ K) := by
        intro hm
        obtain ⟨j, hj, e⟩ := List.getElem_of_mem hm
        exact hN j hj (by omega) e
      clear hN hB HB hl hq
      go_wp2
      go_ret
      exact ⟨_, rfl, .inr ⟨HM.out, rfl⟩, rfl⟩
set_option maxHeartbeats 4000000 in
theorem lib_contains (g : Nat) (K : List Int) (w : World) (hB : BoxC w g (ks K) 3) (hl : K.length ≤ 10) (x : Int) :
    Calls Tryz.prog 108 #[.slice (some ⟨g, 0, none⟩) K.length K.length, .int .i64 x] w fun e w' => e = .returned (.bool (decide (x ∈ K))) ∧ w = w' := by
  have I := lib_index g K w hB hl x
  generalize K.length = n at *
  by_cases hx : x ∈ K
  · have I2 : Calls Tryz.prog 129 #[.slice (some ⟨g, 0, none⟩) n n, .int .i64 x] w fun e w' => ∃ r : Int, e = .returned (.int .i64 r) ∧ 0 ≤ r ∧ w = w' := by
      refine I.mono ?_
      rintro e w' ⟨r, h1, h2, h3⟩
      exact ⟨r, h1, by rcases h2 with h2 | h2; exact h2.2; exact absurd hx h2.1, h3⟩
    rw [decide_eq_true hx]
    clear I hB hl hx
    go_enter Tryz.func108, Tryz.ntmps108
    go_wp2_with (go_at_call 129; (with_reducible refine Calls.mono I2 ?_); rintro e v1 ⟨r, rfl, hr, rfl⟩)
    go_ret
    exact ⟨rfl, rfl⟩
  · have I2 : Calls Tryz.prog 129 #[.slice (some ⟨g, 0, none⟩) n n, .int .i64 x] w fun e w' => e = .returned (.int .i64 (-1)) ∧ w = w' := by
      refine I.mono ?_
      rintro e w' ⟨r, h1, h2, h3⟩
      rcases h2 with h2 | h2
      · exact absurd h2.1 hx
      · exact ⟨by rw [h1, h2.2], h3⟩
    rw [decide_eq_false hx]
    clear I hB hl hx
    go_enter Tryz.func108, Tryz.ntmps108
    go_wp2_with (go_at_call 129; (with_reducible refine Calls.mono I2 ?_); rintro e v1 ⟨rfl, rfl⟩)
    go_ret
    exact ⟨rfl, rfl⟩
set_option maxHeartbeats 8000000 in
/-- Where runes of these kinds end. -/
theorem lex_span (s : ByteArray) (hs : s.size ≤ 1000000) (g : Nat) (K : List Int) (w : World) (hB : BoxC w g (ks K) 3) (hl : K.length ≤ 10) (n : Nat) (hn : K.length = n) :
    Calls Tryz.prog 76 #[.string s, .slice (some ⟨g, 0, none⟩) n n] w fun e w' => e = .returned (.int .i64 (spanE K s 0)) ∧ Below w.heap.size w w' := by
  subst hn
  have HB : Hid (BoxC w g (ks K) 3 ∧ K.length ≤ 10 ∧ s.size ≤ 1000000) := ⟨hB, hl, hs⟩
  generalize hE : spanE K s 0 = E
  have HE : Hid (spanE K s 0 = E) := hE
  clear hB hl hs hE
  go_enter Tryz.func76, Tryz.ntmps76
  go_wp2
  go_loopg [] s.size (fun q v => ∃ i : Nat, i + q = s.size ∧ v.heap[w.heap.size]? = some (.stringIter s i) ∧ Below w.heap.size w v ∧ spanE K s i = E)
  case atStart => exact ⟨0, by omega, iter_new w s, below_iter w s 0, HE.out⟩
  case round =>
    obtain ⟨i, hq, hit, bw, hF⟩ := hrel
    clear HE
    obtain ⟨hB, hl, hs⟩ := HB.out
    rcases Nat.lt_or_ge i s.size with hi | hi
    · have hnx : ∀ ty, (Instr.next (.pointer (some ⟨w.heap.size, 0, none⟩)) true ty).run Tryz.prog wr = .ok (.tuple #[.bool true, .int .i64 i, .int .i32 (nextR s i)]) (wr.iterAt w.heap.size s (i + nextN s i)) := fun ty => run_next_any_at wr w.heap.size s i ty hit hi
      have hi2 := iterAt_heap wr w.heap.size s i (i + nextN s i) hit
      have bw2 := below_iterAt bw (Nat.le_refl _) s (i + nextN s i)
      have hz := next_size hi
      have C := lib_contains g K _ (hB.more bw2) hl (kindI (nextR s i))
      have KD := fun v => sign_kind (nextR s i) _ rfl v
      have e1 : kindAt s i = kindI (nextR s i) := by unfold kindAt; rw [if_pos hi]
      have e2 : stepAt s i = nextN s i := by unfold stepAt; rw [if_pos hi]
      by_cases hm : kindI (nextR s i) ∈ K
      · have HF : Hid (spanE K s (i + nextN s i) = E) := by
          have := spanE_step (K := K) hi (by rw [e1]; exact hm)
          rw [e2] at this
          exact this.symm.trans hF
        rw [decide_eq_true hm] at C
        have HG : Hid (i + gk = s.size ∧ 1 ≤ nextN s i ∧ i + nextN s i ≤ s.size) := ⟨hq, hz.1, hz.2.2⟩
        generalize kindI (nextR s i) = k at *
        generalize nextR s i = R at *
        generalize nextN s i = M at *
        generalize wr.iterAt w.heap.size s (i + M) = wi at *
        clear hB hl hs hq hit bw hF hz hi e1 e2 hm
        go_wp2_with (first
          | (go_at_call 78; (with_reducible refine Calls.mono (KD _) ?_); rintro e v1 ⟨rfl, rfl⟩)
          | (go_at_call 108; (with_reducible refine Calls.mono C ?_); rintro e v2 ⟨rfl, rfl⟩))
        have hG := HG.out
        go_roundg (s.size - (i + M))
        case measure => omega
        case rel => exact ⟨i + M, by omega, hi2, bw2, HF.out⟩
      · have hE2 := spanE_here (K := K) (s := s) (i := i) (fun e => hm (by rw [← e1]; exact e.2))
        rw [hE2] at hF
        subst hF
        rw [decide_eq_false hm] at C
        generalize kindI (nextR s i) = k at *
        generalize nextR s i = R at *
        generalize nextN s i = M at *
        generalize wr.iterAt w.heap.size s (i + M) = wi at *
        clear hB hl hs hq hit bw hz hi e1 e2 hm hE2
        go_wp2_with (first
          | (go_at_call 78; (with_reducible refine Calls.mono (KD _) ?_); rintro e v1 ⟨rfl, rfl⟩)
          | (go_at_call 108; (with_reducible refine Calls.mono C ?_); rintro e v2 ⟨rfl, rfl⟩))
        go_ret
        exact ⟨rfl, bw2⟩
    · have hnx : ∀ ty, (Instr.next (.pointer (some ⟨w.heap.size, 0, none⟩)) true ty).run Tryz.prog wr = .ok (.tuple #[.bool false]) wr := fun ty => run_next_end_at wr w.heap.size s i ty hit (by omega)
      rw [spanE_here (fun e => by omega)] at hF
      obtain rfl : i = s.size := by omega
      subst hF
      clear hB hl hs hq hit hi
      go_wp2
      go_ret
      exact ⟨rfl, bw⟩
theorem lex_span1 (s : ByteArray) (hs : s.size ≤ 1000000) (g : Nat) (k : Int) (w : World) (hB : BoxC w g #[.int .i64 k] 3) :
    Calls Tryz.prog 76 #[.string s, .slice (some ⟨g, 0, none⟩) 1 1] w fun e w' => e = .returned (.int .i64 (spanE [k] s 0)) ∧ Below w.heap.size w w' := lex_span s hs g [k] w hB (by simp) 1 rfl
theorem lex_span2 (s : ByteArray) (hs : s.size ≤ 1000000) (g : Nat) (k l : Int) (w : World) (hB : BoxC w g #[.int .i64 k, .int .i64 l] 3) :
    Calls Tryz.prog 76 #[.string s, .slice (some ⟨g, 0, none⟩) 2 2] w fun e w' => e = .returned (.int .i64 (spanE [k, l] s 0)) ∧ Below w.heap.size w w' := lex_span s hs g [k, l] w hB (by simp) 2 rfl
end Go.Proofs.YtbcfplaalepnbaaGreatDoor
namespace Go.Proofs.YtbcfplaalepnbaaGreatDoor
open Go.RowKit Go.Lib
theorem stroke_first {x : ByteArray} (h : 0 < x.size) : ((x.extract 0 1).toList == [124]) = decide (bt x 0 = 124) := by
  have hz : (x.extract 0 1).size = 1 := by rw [ByteArray.size_extract]; omega
  have hf := front x (e := 1) (by omega)
  have h0 := hf.same 0 (by omega)
  rw [← h0]
  generalize x.extract 0 1 = y at *
  rw [ByteArray.toList_eq]
  obtain ⟨⟨l⟩⟩ := y
  have hl : l.length = 1 := hz
  obtain ⟨b, rfl⟩ := List.length_eq_one_iff.1 hl
  rw [Bool.eq_iff_iff, beq_iff_eq, decide_eq_true_eq]
  show [b] = [124] ↔ b.toNat = 124
  constructor
  · intro e; rw [List.cons.inj e |>.1]; rfl
  · intro e; rw [show b = 124 from UInt8.toNat_inj.1 e]
set_option maxHeartbeats 4000000 in
/-- What is behind the stroke, if a text begins with one. -/
theorem cut_stroke {s u : ByteArray} (hs : s.size ≤ 1000000) {g : Bool} (h : (s.size = 0 ∧ g = false ∧ u = s) ∨ (0 < s.size ∧ g = true ∧ ((s.extract 0 1).toList == [124]) = true ∧ s.extract 1 s.size = u) ∨ (0 < s.size ∧ g = false ∧ ((s.extract 0 1).toList == [124]) = false ∧ u = s)) (w : World) :
    Calls Tryz.prog 131 #[.string s, .string ⟨#[124]⟩] w fun e w' => e = .returned (.tuple #[.string u, .bool g]) ∧ w = w' := by
  have H : ∀ (q : Bool), ((s.size = 0 ∧ q = false) ∨ (0 < s.size ∧ ((s.extract 0 1).toList == [124]) = q)) → Calls Tryz.prog 156 #[.string s, .string ⟨#[124]⟩] w fun e w' => e = .returned (.bool q) ∧ w = w' := by
    clear h
    intro q h
    rcases h with ⟨h0, rfl⟩ | ⟨h0, hq⟩
    case' inl => have h1 : ¬ (1 : Int) ≤ s.size := by omega
    case' inr => have h1 : (1 : Int) ≤ s.size := by omega
    all_goals
      go_enter Tryz.func156, Tryz.ntmps156
      go_wp2
      go_ret
      exact ⟨rfl, rfl⟩
  have H2 : Calls Tryz.prog 145 #[.string s, .string ⟨#[124]⟩] w fun e w' => e = .returned (.tuple #[.string u, .bool g]) ∧ w = w' := by
    rcases h with ⟨h0, rfl, rfl⟩ | ⟨h0, rfl, hq, hu⟩ | ⟨h0, rfl, hq, rfl⟩
    case' inl => have H1 := H false (.inl ⟨h0, rfl⟩)
    case' inr.inl =>
      have H1 := H true (.inr ⟨h0, hq⟩)
      have h1 : (1 : Int) ≤ s.size := by omega
    case' inr.inr => have H1 := H false (.inr ⟨h0, hq⟩)
    all_goals
      clear H
      go_enter Tryz.func145, Tryz.ntmps145
      go_wp2_with (go_at_call 156; (with_reducible refine Calls.mono H1 ?_); rintro e w1 ⟨rfl, rfl⟩)
      go_ret2
      exact ⟨rfl, rfl⟩
  clear H h
  go_enter Tryz.func131, Tryz.ntmps131
  go_wp2_with (go_at_call 145; (with_reducible refine Calls.mono H2 ?_); rintro e w1 ⟨rfl, rfl⟩)
  go_ret2
  exact ⟨rfl, rfl⟩
set_option maxHeartbeats 4000000 in
theorem lex_plain (x : ByteArray) (hx : x.size ≤ 1000000) (r : Bool) (hr : plainB x = r) (w : World) :
    Calls Tryz.prog 132 #[.string x] w fun e w' => e = .returned (.bool r) ∧ w = w' := by
  unfold plainB at hr
  by_cases h1 : (x.toList == [48]) = true
  · obtain rfl : r = true := by rw [← hr, h1]; rfl
    clear hr
    go_enter Tryz.func132, Tryz.ntmps132
    go_wp2
    go_ret
    exact ⟨rfl, rfl⟩
  · have h1' : (x.toList == [48]) = false := by rw [Bool.eq_false_iff]; exact h1
    rw [h1', Bool.false_or] at hr
    by_cases h0 : x.size = 0
    · have e0 : (x.toList == []) = true := by rw [size_zero h0, ByteArray.toList_eq]; rfl
      obtain rfl : r = false := by rw [← hr, decide_eq_false (fun e => e h0)]; rfl
      clear hr h1 h0
      go_enter Tryz.func132, Tryz.ntmps132
      go_wp2
      go_ret
      exact ⟨rfl, rfl⟩
    · have e0 : (x.toList == []) = false := text_full (by omega)
      have k0 : 0 < x.size := by omega
      have k1 : (0 : Int) < x.size := by omega
      have e2 : ((x[0].toNat : Int) != 48) = r := by
        rw [← hr, decide_eq_true h0, Bool.true_and, bt_get k0, Bool.eq_iff_iff, bne_iff_ne, decide_eq_true_eq]
        omega
      clear hr h1 h0 hx
      go_enter Tryz.func132, Tryz.ntmps132
      go_wp2
      go_ret
      exact ⟨rfl, rfl⟩
end Go.Proofs.YtbcfplaalepnbaaGreatDoor
namespace Go.Proofs.YtbcfplaalepnbaaGreatDoor
open Go.RowKit Go.Lib
theorem text_empty {x : ByteArray} (h : x.size = 0) : (x.toList == []) = true := by rw [size_zero h, ByteArray.toList_eq]; rfl
set_option maxHeartbeats 4000000 in
theorem lex_size (a b : ByteArray) (ha : a.size ≤ 1000000) (hb : b.size ≤ 1000000) (r : Nat) (hr : (if b.size = 0 then a.size else a.size + 1 + b.size) = r) (w : World) :
    Calls Tryz.prog 114 #[.agg #[.string a, .string b]] w fun e w' => e = .returned (.int .i64 r) ∧ Below w.heap.size w w' := by
  obtain ⟨b1, bV, hV⟩ := boxes1 w #[.string a, .string b] 137
  obtain ⟨x0, x1, -, -⟩ := b1.cells2
  by_cases h : b.size = 0
  · rw [if_pos h] at hr
    subst hr
    have e0 := text_empty h
    clear h ha hb
    go_enter Tryz.func114, Tryz.ntmps114
    go_wp2
    go_ret
    exact ⟨rfl, bV⟩
  · rw [if_neg h] at hr
    have e0 : (b.toList == []) = false := text_full (by omega)
    have HR : Hid (((a.size : Int) + 1 + b.size) = r) := by show ((a.size : Int) + 1 + b.size) = r; omega
    have W1 : wrap64 ((a.size : Int) + 1) = (a.size : Int) + 1 := wrap_smalls (by omega) (by omega)
    have W2 : wrap64 ((a.size : Int) + 1 + b.size) = (a.size : Int) + 1 + b.size := wrap_smalls (by omega) (by omega)
    clear h ha hb hr
    go_enter Tryz.func114, Tryz.ntmps114
    go_wp2
    go_ret
    exact ⟨by rw [← HR.out]; simp only [W1, W2]; rfl, bV⟩
set_option maxHeartbeats 4000000 in
theorem lex_long (a b : ByteArray) (r : Bool) (hr : longB a b = r) (w : World) :
    Calls Tryz.prog 112 #[.agg #[.string a, .string b]] w fun e w' => e = .returned (.bool r) ∧ Below w.heap.size w w' := by
  obtain ⟨b1, bV, hV⟩ := boxes1 w #[.string a, .string b] 137
  obtain ⟨x0, x1, -, -⟩ := b1.cells2
  unfold longB at hr
  by_cases h : 40 < a.size
  · have k : 40 < (a.size : Int) := by omega
    obtain rfl : r = true := by rw [← hr, decide_eq_true h]; rfl
    clear h hr
    go_enter Tryz.func112, Tryz.ntmps112
    go_wp2
    go_ret
    exact ⟨rfl, bV⟩
  · have k : ¬ 40 < (a.size : Int) := by omega
    rw [decide_eq_false h, Bool.false_or] at hr
    by_cases h2 : 40 < b.size
    · have k2 : 40 < (b.size : Int) := by omega
      obtain rfl : r = true := by rw [← hr, decide_eq_true h2]
      clear h h2 hr
      go_enter Tryz.func112, Tryz.ntmps112
      go_wp2
      go_ret
      exact ⟨rfl, bV⟩
    · have k2 : ¬ 40 < (b.size : Int) := by omega
      obtain rfl : r = false := by rw [← hr, decide_eq_false h2]
      clear h h2 hr
      go_enter Tryz.func112, Tryz.ntmps112
      go_wp2
      go_ret
      exact ⟨rfl, bV⟩
set_option maxHeartbeats 8000000 in
theorem lex_may (a b : ByteArray) (ha : a.size ≤ 1000000) (hb : b.size ≤ 1000000) (r : Bool) (hr : mayB a b = r) (w : World) :
    Calls Tryz.prog 113 #[.agg #[.string a, .string b]] w fun e w' => e = .returned (.bool r) ∧ Below w.heap.size w w' := by
  obtain ⟨b1, bV, hV⟩ := boxes1 w #[.string a, .string b] 137
  obtain ⟨x0, x1, -, -⟩ := b1.cells2
  have LG := fun v => lex_long a b _ rfl v
  have PA := fun v => lex_plain a ha _ rfl v
  have PB := fun v => lex_plain b hb _ rfl v
  unfold mayB at hr
  generalize longB a b = l at *
  generalize plainB a = p at *
  generalize plainB b = q at *
  cases l with
  | true =>
    obtain rfl : r = false := by rw [← hr]; rfl
    clear hr PA PB ha hb
    go_enter Tryz.func113, Tryz.ntmps113
    go_wp2_with (go_at_call 112; (with_reducible refine Calls.mono (LG _) ?_); rintro e v1 ⟨rfl, d1⟩)
    go_ret
    exact ⟨rfl, below_more bV d1⟩
  | false =>
    cases p with
    | false =>
      obtain rfl : r = false := by rw [← hr]; rfl
      clear hr PB ha hb
      go_enter Tryz.func113, Tryz.ntmps113
      go_wp2_with (first
        | (go_at_call 112; (with_reducible refine Calls.mono (LG _) ?_); rintro e v1 ⟨rfl, d1⟩; obtain ⟨x0, x1, -, -⟩ := (b1.more d1).cells2)
        | (go_at_call 132; (with_reducible refine Calls.mono (PA _) ?_); rintro e v2 ⟨rfl, rfl⟩))
      go_ret
      exact ⟨rfl, below_more bV d1⟩
    | true =>
      by_cases h : b.size = 0
      · obtain rfl : r = true := by rw [← hr, decide_eq_true h]; rfl
        have e0 := text_empty h
        clear hr PB ha hb h
        go_enter Tryz.func113, Tryz.ntmps113
        go_wp2_with (first
          | (go_at_call 112; (with_reducible refine Calls.mono (LG _) ?_); rintro e v1 ⟨rfl, d1⟩; obtain ⟨x0, x1, -, -⟩ := (b1.more d1).cells2)
          | (go_at_call 132; (with_reducible refine Calls.mono (PA _) ?_); rintro e v2 ⟨rfl, rfl⟩))
        go_ret
        exact ⟨rfl, below_more bV d1⟩
      · have e0 : (b.toList == []) = false := text_full (by omega)
        rw [decide_eq_false h] at hr
        simp only [Bool.not_false, Bool.true_and, Bool.false_or] at hr
        generalize hg : (b.toList == [48]) = g at *
        have hne : (b.toList != [48]) = !g := by rw [← hg]; rfl
        cases q <;> cases g
        all_goals
          simp only [Bool.not_false, Bool.not_true, Bool.true_and, Bool.false_and] at hr hne
          subst hr
          clear ha hb h
          go_enter Tryz.func113, Tryz.ntmps113
          go_wp2_with (first
            | (go_at_call 112; (with_reducible refine Calls.mono (LG _) ?_); rintro e v1 ⟨rfl, d1⟩; obtain ⟨x0, x1, -, -⟩ := (b1.more d1).cells2)
            | (go_at_call 132; (with_reducible refine Calls.mono (PA _) ?_); rintro e v2 ⟨rfl, rfl⟩)
            | (go_at_call 132; (with_reducible refine Calls.mono (PB _) ?_); rintro e v3 ⟨rfl, rfl⟩))
          go_ret
          exact ⟨by simp, below_more bV d1⟩
end Go.Proofs.YtbcfplaalepnbaaGreatDoor
namespace Go.Proofs.YtbcfplaalepnbaaGreatDoor
open Go.RowKit Go.Lib
theorem below_text {t : ByteArray} (h : digEnd t 0 + 1 ≤ t.size) : (t.extract (digEnd t 0 + 1) t.size).extract 0 (digEnd (t.extract (digEnd t 0 + 1) t.size) 0) = t.extract (digEnd t 0 + 1) (digEnd t (digEnd t 0 + 1)) := by
  have hsh := shifted_rest t h
  have h1 := hsh.digits _ 0 (Nat.le_refl _)
  rw [Nat.add_zero] at h1
  rw [h1, ← hsh.extract 0 (digEnd (t.extract (digEnd t 0 + 1) t.size) 0), Nat.add_zero]
set_option maxHeartbeats 8000000 in
theorem lex_numeral (t : ByteArray) (ht : t.size ≤ 1000000) (w : World) :
    Calls Tryz.prog 111 #[.string t] w fun e w' => e = .returned (.agg #[.string (above t), .string (below t)]) ∧ Below w.heap.size w w' := by
  obtain ⟨b1, b2, bV, hV⟩ := boxes2 w #[.string ⟨#[]⟩, .string ⟨#[]⟩] #[.int .i64 2] 137 3
  have S1 := lex_span1 t ht _ 2 _ b2
  rw [spanE_digits] at S1
  have hD := (digEnd_range t 0).2 (Nat.zero_le _)
  have hz : (t.extract 0 (digEnd t 0)).size = digEnd t 0 := by rw [ByteArray.size_extract]; omega
  have hzr : (t.extract (digEnd t 0) t.size).size = t.size - digEnd t 0 := by rw [ByteArray.size_extract]; omega
  have hb0 := ext_bt t (digEnd t 0) hD 0
  rw [Nat.add_zero] at hb0
  have ha : above t = t.extract 0 (digEnd t 0) := rfl
  rw [ha]
  clear ha
  unfold below
  by_cases hc : digEnd t 0 < t.size ∧ bt t (digEnd t 0) = 124
  · rw [if_pos hc, ← below_text (by omega)]
    have hu : (t.extract (digEnd t 0) t.size).extract 1 (t.extract (digEnd t 0) t.size).size = t.extract (digEnd t 0 + 1) t.size := extract_more _ _
    have CU := fun v => cut_stroke (s := t.extract (digEnd t 0) t.size) (u := t.extract (digEnd t 0 + 1) t.size) (by omega) (g := true) (.inr (.inl ⟨by omega, rfl, by rw [stroke_first (by omega), decide_eq_true (by rw [hb0]; exact hc.2)], hu⟩)) v
    have hy : (t.extract (digEnd t 0 + 1) t.size).size ≤ 1000000 := by rw [ByteArray.size_extract]; omega
    have hE := (digEnd_range (t.extract (digEnd t 0 + 1) t.size) 0).2 (Nat.zero_le _)
    have S2 := fun (v : World) (cs : Array Value) => lex_span1 (t.extract (digEnd t 0 + 1) t.size) hy _ 2 _ (boxes2 v cs #[.int .i64 2] 137 3).2.1
    rw [spanE_digits] at S2
    have k1 : (digEnd t 0 : Int) ≤ t.size := by omega
    have k2 : (digEnd (t.extract (digEnd t 0 + 1) t.size) 0 : Int) ≤ (t.extract (digEnd t 0 + 1) t.size).size := by omega
    generalize t.extract (digEnd t 0 + 1) t.size = y at *
    generalize digEnd y 0 = E at *
    generalize digEnd t 0 = D at *
    clear ht hD hzr hb0 hc hu hy hE
    go_enter Tryz.func111, Tryz.ntmps111
    go_wp2_with (first
      | (go_at_call 76; (with_reducible refine Calls.mono S1 ?_); rintro e w1 ⟨rfl, d1⟩; have N := boxes2 w1 #[.string (t.extract 0 D), .string ⟨#[]⟩] #[.int .i64 2] 137 3)
      | (go_at_call 131; (with_reducible refine Calls.mono (CU _) ?_); rintro e w0 ⟨rfl, rfl⟩)
      | (go_at_call 76; (with_reducible refine Calls.mono (S2 _ _) ?_); rintro e w2 ⟨rfl, d2⟩; obtain ⟨n0, n1, n2, n3⟩ := (N.1.more d2).cells2; obtain ⟨r0, r1, r2, r3⟩ := (((b1.more d1).more N.2.2.1).more d2).cells2; have hq : w.heap.size < w1.heap.size := Nat.lt_of_lt_of_le (Nat.lt_of_succ_lt hV) d1.size))
    exact bodyPost_ret (v := .agg #[.string (t.extract 0 D), .string (y.extract 0 E)]) (by simp [results, Tryz.results111, go_sem, r0, r1]) rfl ⟨rfl, (((below_more (below_more (below_more bV d1) N.2.2.1) d2).setCell (p := ⟨w1.heap.size, 1, none⟩) (Nat.le_of_lt hq) _).setCell (p := ⟨w.heap.size, 0, none⟩) (Nat.le_refl _) _).setCell (p := ⟨w.heap.size, 1, none⟩) (Nat.le_refl _) _⟩
  · rw [if_neg hc]
    have CU := fun v => cut_stroke (s := t.extract (digEnd t 0) t.size) (u := t.extract (digEnd t 0) t.size) (by omega) (g := false) (by
      by_cases h0 : digEnd t 0 < t.size
      · exact .inr (.inr ⟨by omega, rfl, by rw [stroke_first (by omega), decide_eq_false (by rw [hb0]; exact fun e => hc ⟨h0, e⟩)], rfl⟩)
      · exact .inl ⟨by omega, rfl, rfl⟩) v
    have k1 : (digEnd t 0 : Int) ≤ t.size := by omega
    generalize digEnd t 0 = D at *
    clear ht hD hzr hb0 hc
    go_enter Tryz.func111, Tryz.ntmps111
    go_wp2_with (first
      | (go_at_call 76; (with_reducible refine Calls.mono S1 ?_); rintro e w1 ⟨rfl, d1⟩; have N := boxes1 w1 #[.string (t.extract 0 D), .string ⟨#[]⟩] 137; obtain ⟨n0, n1, n2, n3⟩ := N.1.cells2; obtain ⟨r0, r1, r2, r3⟩ := (b1.more d1).cells2; have hq : w.heap.size < w1.heap.size := Nat.lt_of_lt_of_le (Nat.lt_of_succ_lt hV) d1.size)
      | (go_at_call 131; (with_reducible refine Calls.mono (CU _) ?_); rintro e w0 ⟨rfl, rfl⟩))
    have bb := ((below_more bV d1).setCell (p := ⟨w.heap.size, 0, none⟩) (Nat.le_refl _) (.string (t.extract 0 D))).setCell (p := ⟨w.heap.size, 1, none⟩) (Nat.le_refl _) (.string ⟨#[]⟩)
    obtain ⟨z0, z1, -, -⟩ := ((((b1.more d1).set 0 (.string (t.extract 0 D))).set 1 (.string ⟨#[]⟩)).alloc (.cells #[.string (t.extract 0 D), .string ⟨#[]⟩] 137)).cells2
    exact bodyPost_ret (v := .agg #[.string (t.extract 0 D), .string ⟨#[]⟩]) (by simp [results, Tryz.results111, go_sem, z0, z1]) rfl ⟨rfl, bb.alloc bb.size _⟩
theorem above_le (t : ByteArray) : (above t).size ≤ t.size := by
  rw [above_size]; exact (digEnd_range t 0).2 (Nat.zero_le _)
theorem below_le (t : ByteArray) : (below t).size ≤ t.size := by
  have h1 := digEnd_range t (digEnd t 0 + 1)
  rw [below_size]
  split
  · have := h1.2 (by omega)
    omega
  · omega
end Go.Proofs.YtbcfplaalepnbaaGreatDoor
namespace Go.Proofs.YtbcfplaalepnbaaGreatDoor
open Go.RowKit Go.Lib
theorem lex_infoU8 : (Tryz.prog.info? 5).map (fun i => (i.zero, i.size, i.bytes)) = some (some (.int .u8 0), 1, 1) := by kernel_rfl
set_option maxHeartbeats 4000000 in
set_option maxRecDepth 100000 in
theorem lib_clone0 (s : ByteArray) (w : World) (hlim : s.size ≤ 1000000) :
    Calls Tryz.prog 144 #[.string s] w fun e w' => e = .returned (.string s) ∧ Below w.heap.size w w' := by
  by_cases h0 : s.size = 0
  · obtain rfl := size_zero h0
    go_enter Tryz.func144, Tryz.ntmps144
    go_wp2
    go_ret
    exact ⟨rfl, Below.refl _ _⟩
  · obtain ⟨i0, hi, hz0, hz1, hz2⟩ := info_parts lex_infoU8
    have hinfo : (Tryz.prog.info? 5).map (·.size) = some 1 := by rw [hi]; simp [hz1]
    have hco : Tryz.prog.cellsOf 5 = 1 := by simp [Program.cellsOf, hi, hz1]
    obtain ⟨M, hM⟩ : ∃ M, M = madeCells (Value.int .u8 0).cells (((s.size : Nat) : Int).toNat * i0.size) := ⟨_, rfl⟩
    have hMs : M.size = s.size := by rw [hM, size_madeCells, hz1]; simp
    have hmk : ∀ W : World, (Instr.makeSlice 129 (.int .i64 (s.size : Int)) (.int .i64 (s.size : Int))).run Tryz.prog W = .ok (.slice (some ⟨W.heap.size, 0, none⟩) s.size s.size) (W.alloc (.cells M 5)) := fun W => by
      have h := run_make (P := Tryz.prog) W 129 5 i0 (.int .u8 0) Tryz.underlying129 hi hz0 .i64 .i64 (s.size : Int) (s.size : Int) (by omega) (by omega) (by rw [hz2]; omega) (by omega)
      rw [← hM] at h
      simpa using h
    clear hM
    have hcp := Lib.run_copy_row_string (P := Tryz.prog) (w.alloc (.cells M 5)) 129 9 3 5 w.heap.size 0 s.size s.size s M 5 Tryz.underlying129 hinfo (heap_alloc_new w _) (Nat.le_refl _) (by omega)
    obtain ⟨Y, hY⟩ : ∃ Y, Y = (M.toList.take 0 ++ Lib.byteCells s.data.toList ++ M.toList.drop (0 + s.size)).toArray := ⟨_, rfl⟩
    rw [← hY] at hcp
    have hYl : Y.toList = Lib.byteCells s.data.toList := by
      rw [hY, List.toList_toArray, List.take_zero, List.nil_append, List.drop_of_length_le (by rw [Array.length_toList]; omega), List.append_nil]
    have hYs : Y.size = s.size := by rw [← Array.length_toList, hYl, Lib.byteCells_length, ← Lib.size_eq]
    have hgY : ((w.alloc (.cells M 5)).setRow w.heap.size Y).heap[w.heap.size]? = some (.cells Y 5 (0, 0)) := setRow_heap _ _ M _ 5 (0, 0) (heap_alloc_new w _)
    have hne : s.data.toList ≠ [] := fun e => h0 (by rw [Lib.size_eq, e]; rfl)
    have hUS := Lib.run_unsafeString_row (P := Tryz.prog) ((w.alloc (.cells M 5)).setRow w.heap.size Y) 171 3 9 5 Tryz.underlying171 hco w.heap.size Y.size (by unfold World.shape?; rw [hgY]) s.data.toList hne (by rw [← Lib.size_eq]; omega) (by rw [← Lib.size_eq]; omega)
      (fun j x hx => Lib.cells_of_row hgY Y.size j _ (by rw [List.take_of_length_le (by rw [Array.length_toList]; exact Nat.le_refl _), hYl]; simp [Lib.byteCells, hx]))
    rw [← Lib.size_eq] at hUS
    clear hY
    go_enter Tryz.func144, Tryz.ntmps144
    go_wp2
    go_ret
    have hb1 : Below w.heap.size w (w.alloc (.cells M 5)) := (Below.refl _ w).alloc (Nat.le_refl _) _
    have hb2 : Below w.heap.size (w.alloc (.cells M 5)) ((w.alloc (.cells M 5)).setRow w.heap.size Y) := ⟨rfl, rfl, rfl, by simp, fun k hk => setRow_other _ _ _ _ (by omega)⟩
    exact ⟨rfl, Lib.below_freeze (hb1.trans hb2) (p := ⟨w.heap.size, 0, none⟩) (Nat.le_refl _) _⟩
set_option maxHeartbeats 4000000 in
theorem lib_clone (s : ByteArray) (hlim : s.size ≤ 1000000) (w : World) :
    Calls Tryz.prog 130 #[.string s] w fun e w' => e = .returned (.string s) ∧ Below w.heap.size w w' := by
  have C := fun v => lib_clone0 s v hlim
  clear hlim
  go_enter Tryz.func130, Tryz.ntmps130
  go_wp2_with (go_at_call 144; (with_reducible refine Calls.mono (C _) ?_); rintro e w1 ⟨rfl, d1⟩)
  go_ret
  exact ⟨rfl, d1⟩
end Go.Proofs.YtbcfplaalepnbaaGreatDoor
namespace Go.Proofs.YtbcfplaalepnbaaGreatDoor
open Go.RowKit Go.Lib
def RdL (W w : World) (t : ByteArray) (L C : Int) (l : List Tok) : Prop :=
  ∃ a c, BoxC w W.heap.size #[.int .i64 0, .int .i64 0] 29 ∧ BoxC w (W.heap.size + 1) #[.string t, .int .i64 L, .int .i64 C, .slice a l.length c] 87 ∧ OwnT W w (.slice a l.length c) l.length l
theorem RdL.more {W w w' : World} {t : ByteArray} {L C : Int} {l : List Tok} (h : RdL W w t L C l) (hb : Below w.heap.size w w') : RdL W w' t L C l := by
  obtain ⟨a, c, h1, h2, h3⟩ := h
  exact ⟨a, c, h1.more hb, h2.more hb, h3.more hb⟩
theorem RdL.below {W w : World} {t : ByteArray} {L C : Int} {l : List Tok} (h : RdL W w t L C l) : Below W.heap.size W w := by
  obtain ⟨a, c, h1, h2, h3⟩ := h
  exact h3.below
theorem reader_ne_tok : (87 : TypeId) ≠ 66 := by decide
theorem RdL.rest {W w : World} {t : ByteArray} {L C : Int} {l : List Tok} (h : RdL W w t L C l) (u : ByteArray) : RdL W (w.setCell ⟨W.heap.size + 1, 0, none⟩ (.string u)) u L C l := by
  obtain ⟨a, c, h1, h2, h3⟩ := h
  exact ⟨a, c, h1.other (by omega) _, h2.set 0 (.string u), h3.box h2 reader_ne_tok (by omega) _ _⟩
theorem RdL.line {W w : World} {t : ByteArray} {L C : Int} {l : List Tok} (h : RdL W w t L C l) (x : Int) : RdL W (w.setCell ⟨W.heap.size + 1, 1, none⟩ (.int .i64 x)) t x C l := by
  obtain ⟨a, c, h1, h2, h3⟩ := h
  exact ⟨a, c, h1.other (by omega) _, h2.set 1 (.int .i64 x), h3.box h2 reader_ne_tok (by omega) _ _⟩
theorem RdL.col {W w : World} {t : ByteArray} {L C : Int} {l : List Tok} (h : RdL W w t L C l) (x : Int) : RdL W (w.setCell ⟨W.heap.size + 1, 2, none⟩ (.int .i64 x)) t L x l := by
  obtain ⟨a, c, h1, h2, h3⟩ := h
  exact ⟨a, c, h1.other (by omega) _, h2.set 2 (.int .i64 x), h3.box h2 reader_ne_tok (by omega) _ _⟩
theorem RdL.alloc {W w : World} {t : ByteArray} {L C : Int} {l : List Tok} (h : RdL W w t L C l) (o : Obj) : RdL W (w.alloc o) t L C l := h.more ((Below.refl _ _).alloc (Nat.le_refl _) _)
theorem RdL.drew {W w : World} {t : ByteArray} {L C : Int} {l : List Tok} (h : RdL W w t L C l) : RdL W w.drew t L C l := by
  obtain ⟨a, c, h1, h2, h3⟩ := h
  exact ⟨a, c, h1.drew, h2.drew, h3.more (Below.refl _ _).drew⟩
theorem RdL.cells {W w : World} {t : ByteArray} {L C : Int} {l : List Tok} (h : RdL W w t L C l) :
    w.cell? ⟨W.heap.size + 1, 0, none⟩ = some (.string t) ∧ w.cell? ⟨W.heap.size + 1, 1, none⟩ = some (.int .i64 L) ∧ w.cell? ⟨W.heap.size + 1, 2, none⟩ = some (.int .i64 C) ∧
    w.frozen? ⟨W.heap.size + 1, 0, none⟩ = false ∧ w.frozen? ⟨W.heap.size + 1, 1, none⟩ = false ∧ w.frozen? ⟨W.heap.size + 1, 2, none⟩ = false ∧ w.frozen? ⟨W.heap.size + 1, 3, none⟩ = false ∧ W.heap.size + 1 < w.heap.size := by
  obtain ⟨a, c, h1, h2, h3⟩ := h
  exact ⟨(h2.cell 0).1, (h2.cell 1).1, (h2.cell 2).1, (h2.cell 0).2, (h2.cell 1).2, (h2.cell 2).2, (h2.cell 3).2, h2.lt⟩
set_option maxHeartbeats 8000000 in
theorem lex_pass {W w : World} {t : ByteArray} {L C : Int} {l : List Tok} (h : RdL W w t L C l) (ht : t.size ≤ 1000000) (hL : 1 ≤ L ∧ L ≤ 1000001) (hC : 1 ≤ C ∧ C ≤ 1000001) (n : Nat) {p c : Int} (hr : Reach t n p c) :
    Calls Tryz.prog 75 #[.pointer (some ⟨W.heap.size + 1, 0, none⟩), .int .i64 n] w fun e w' => e = .returned (.tuple #[]) ∧ RdL W w' (t.extract n t.size) (L + (p - 1)) (if p = 1 then C + (c - 1) else c) l := by
  obtain ⟨hn, p0, p1, c0, c1⟩ := hr.range
  have PL := fun v => sign_place (t.extract 0 n) n v (by rw [ByteArray.size_extract]; omega) (by omega) (by omega)
  rw [reach_alone hr] at PL
  unfold AnsL at PL
  obtain ⟨x0, x1, x2, y0, y1, y2, -, hk⟩ := h.cells
  have k1 : (n : Int) ≤ t.size := by omega
  have HR : Hid (RdL W w t L C l) := h
  clear hr h
  by_cases h1 : p = 1
  · subst h1
    rw [if_pos rfl, show L + ((1 : Int) - 1) = L by omega]
    have w1 : IntKind.i64.wrap (c - 1) = c - 1 := by rw [IntKind.wrap_i64]; omega
    have w2 : IntKind.i64.wrap (C + (c - 1)) = C + (c - 1) := by rw [IntKind.wrap_i64]; omega
    clear hn p0 p1 c0 c1 hL hC ht
    go_enter Tryz.func75, Tryz.ntmps75
    go_wp2_with (first
      | (go_at_call 23; (with_reducible refine Calls.mono (PL _) ?_); rintro e v1 ⟨rfl, d1⟩; have N := boxes1 v1 #[.int .i64 1, .int .i64 c] 29; obtain ⟨n0, n1, n2, n3⟩ := N.1.cells2; have hq : W.heap.size + 1 < v1.heap.size := Nat.lt_of_lt_of_le hk d1.size; obtain ⟨x0, x1, x2, y0, y1, y2, -, -⟩ := (HR.out.more d1).cells))
    go_region
    all_goals go_wp2
    go_end0
    exact ⟨rfl, ((((HR.out.more d1).col _).rest _).alloc _).drew⟩
  · have e1 : ((p : Int) == 1) = false := by rw [beq_eq_false_iff_ne]; exact h1
    rw [if_neg h1, show L + (p - 1) = L + p - 1 by omega]
    have w1 : IntKind.i64.wrap (L + p) = L + p := by rw [IntKind.wrap_i64]; omega
    have w2 : IntKind.i64.wrap (L + p - 1) = L + p - 1 := by rw [IntKind.wrap_i64]; omega
    clear hn p0 p1 c0 c1 hL hC ht h1
    go_enter Tryz.func75, Tryz.ntmps75
    go_wp2_with (first
      | (go_at_call 23; (with_reducible refine Calls.mono (PL _) ?_); rintro e v1 ⟨rfl, d1⟩; have N := boxes1 v1 #[.int .i64 p, .int .i64 c] 29; obtain ⟨n0, n1, n2, n3⟩ := N.1.cells2; have hq : W.heap.size + 1 < v1.heap.size := Nat.lt_of_lt_of_le hk d1.size; obtain ⟨x0, x1, x2, y0, y1, y2, -, -⟩ := (HR.out.more d1).cells))
    go_region
    all_goals go_wp2
    go_end0
    exact ⟨rfl, (((((HR.out.more d1).line _).col _).rest _).alloc _).drew⟩
end Go.Proofs.YtbcfplaalepnbaaGreatDoor
namespace Go.Proofs.YtbcfplaalepnbaaGreatDoor
open Go.RowKit Go.Lib
theorem Shifted.span {K : List Int} {u t : ByteArray} {k : Nat} (h : Shifted u t k) : ∀ m i, t.size - i ≤ m → spanE K u (k + i) = k + spanE K t i := by
  have hz := h.size
  intro m
  induction m with
  | zero =>
    intro i hm
    rw [spanE_here (fun e => by omega), spanE_here (fun e => by omega)]
  | succ m ih =>
    intro i hm
    by_cases h2 : i < t.size ∧ kindAt t i ∈ K
    · have hs := stepAt_size h2.1
      rw [spanE_step h2.1 h2.2, spanE_step (s := u) (i := k + i) (by omega) (by rw [(h.kind i).1]; exact h2.2), (h.kind i).2, Nat.add_assoc]
      exact ih _ (by omega)
    · rw [spanE_here h2, spanE_here (fun e => h2 ⟨by omega, by rw [← (h.kind i).1]; exact e.2⟩)]
set_option maxHeartbeats 4000000 in
theorem lex_skip {W w : World} {s : ByteArray} {i : Nat} {L C : Int} {l : List Tok} (h : RdL W w (s.extract i s.size) L C l) (hs : s.size ≤ 1000000) (hr : Reach s i L C) :
    Calls Tryz.prog 51 #[.pointer (some ⟨W.heap.size + 1, 0, none⟩)] w fun e w' => e = .returned (.tuple #[]) ∧ ∃ L' C', RdL W w' (s.extract (spanE [3] s i) s.size) L' C' l ∧ Reach s (spanE [3] s i) L' C' := by
  have hg := hr.range
  have hsh := shifted_rest s hg.1
  have hz : (s.extract i s.size).size = s.size - i := by rw [ByteArray.size_extract]; omega
  obtain ⟨p, c, hp⟩ := Reach.span (K := [3]) (by decide) _ 0 1 1 (Nat.le_refl _) (Reach.zero (s.extract i s.size))
  have hon := hr.on hsh hp
  have he := hsh.span (K := [3]) _ 0 (Nat.le_refl _)
  rw [Nat.add_zero] at he
  rw [he, ← extract_more]
  have PS := fun v (q : RdL W v (s.extract i s.size) L C l) => lex_pass q (by omega) (by omega) (by omega) _ hp
  have S1 := lex_span1 (s.extract i s.size) (by omega) _ 3 _ (boxes1 w #[.int .i64 3] 3).1
  have R1 := h.more (boxes1 w #[.int .i64 3] 3).2.1
  obtain ⟨x0, x1, x2, y0, y1, y2, -, hk⟩ := h.cells
  generalize spanE [3] (s.extract i s.size) 0 = n at *
  have HO : Hid (Reach s (i + n) (L + (p - 1)) (if p = 1 then C + (c - 1) else c)) := hon
  generalize s.extract i s.size = t at *
  clear hg hsh hz hp hon he hr hs
  go_enter Tryz.func51, Tryz.ntmps51
  go_wp2_with (first
    | (go_at_call 76; (with_reducible refine Calls.mono S1 ?_); rintro e w1 ⟨rfl, d1⟩)
    | (go_at_call 75; (with_reducible refine Calls.mono (PS _ (R1.more d1)) ?_); rintro e w2 ⟨rfl, r2⟩))
  go_end0
  exact ⟨rfl, _, _, r2, HO.out⟩
theorem stp_append_tok {ops : Array Oper} {o : Oper} {a : Act} {K : Act → World → Prop} {Q : Exit → Act → World → Prop} {E : Prop} (s x : Operand)
    (ho : o.op = .call { callee := .builtin .append, args := #[s, x], argTypes := #[53, 53] }) (hgd : Region.wanted o (yielded ops a.tmps) = true)
    (W w : World) (v : Value) (n : Nat) (l : List Tok) (t : Tok) (g : Nat) (hs : a.eval s = v) (hx : a.eval x = .slice (some ⟨g, 0, none⟩) 1 1) (hown : OwnT W w v n l) (hsrc : BoxC w g (tcA t) 66) (hle : n ≤ 1000000)
    (h : ∀ a' c' w', OwnT W w' (.slice a' (n + 1) c') (n + 1) (l ++ [t]) → w.grownBy w' v.ownBlock → K (a.put o.dst (.slice a' (n + 1) c')) w') : if Region.wanted o (yielded ops a.tmps) = true then Oper.wp Tryz.prog o a w K Q else E := by
  obtain ⟨i, hi, hz, hs1, hby⟩ := info_parts infoTok
  have hmax : n + 1 ≤ maxLen := by unfold maxLen; omega
  rw [if_pos hgd]
  refine wp_append_own (P := Tryz.prog) w s x 53 ho W.heap.size 66 i _ 4 40 Tryz.underlying53 hi hz hs1 hby rfl (by decide) v n _ hs hown.1 ⟨g, 0, none⟩ 1 1 (tcA t).toList hx rfl ?_ ?_ hmax (by omega) hown.2.size ?_
  · intro j u hj
    rw [Go.WideShapes.add_plain, Nat.zero_add, (hsrc.cell j).1]
    simpa using hj
  · intro u hu
    simp [tcA] at hu
    rcases hu with rfl | rfl | rfl | rfl <;> rfl
  · intro v' w' h1 h2 _
    have hnew : OwnT W w' v' (n + 1) (l ++ [t]) := ⟨by rw [tcs_append]; simpa [tcs] using h1, hown.2.grown h2 hown.2.size (fun k hk => (hown.1.lt k hk).1)⟩
    obtain ⟨a', c', rfl⟩ := hnew.lit
    exact h a' c' w' hnew h2
end Go.Proofs.YtbcfplaalepnbaaGreatDoor
namespace Go.Proofs.YtbcfplaalepnbaaGreatDoor
open Go.RowKit Go.Lib
theorem rd_new {W w : World} {t : ByteArray} {L C : Int} {l : List Tok} {x : Tok} {v0 : Value} {a' : Option Addr} {c' : Nat}
    (h1 : BoxC w W.heap.size #[.int .i64 0, .int .i64 0] 29) (h2 : BoxC w (W.heap.size + 1) #[.string t, .int .i64 L, .int .i64 C, v0] 87) (h3 : OwnT W w (.slice a' (l.length + 1) c') (l.length + 1) (l ++ [x])) :
    RdL W (w.setCell ⟨W.heap.size + 1, 3, none⟩ (.slice a' (l.length + 1) c')) t L C (l ++ [x]) := by
  have e : (l ++ [x]).length = l.length + 1 := by simp
  refine ⟨a', c', h1.other (by omega) _, ?_, ?_⟩
  · rw [e]; exact h2.set 3 (.slice a' (l.length + 1) c')
  · rw [e]; exact h3.box h2 reader_ne_tok (by omega) _ _
set_option maxHeartbeats 16000000 in
theorem lex_take {W w : World} {t : ByteArray} {L C : Int} {l : List Tok} (h : RdL W w t L C l) (ht : t.size ≤ 1000000) (hL : 1 ≤ L ∧ L ≤ 1000001) (hC : 1 ≤ C ∧ C ≤ 1000001) (hl : l.length ≤ 4000) (n : Nat) (k : Int) {p c : Int} (hr : Reach t n p c) :
    Calls Tryz.prog 110 #[.pointer (some ⟨W.heap.size + 1, 0, none⟩), .int .i64 k, .int .i64 n] w fun e w' => e = .returned (.tuple #[]) ∧ RdL W w' (t.extract n t.size) (L + (p - 1)) (if p = 1 then C + (c - 1) else c) (l ++ [(k, t.extract 0 n, L, C)]) := by
  have hn := hr.range.1
  have k1 : (n : Int) ≤ t.size := by omega
  have CL := fun v => lib_clone (t.extract 0 n) (by rw [ByteArray.size_extract]; omega) v
  have PS := fun v (q : RdL W v t L C (l ++ [(k, t.extract 0 n, L, C)])) => lex_pass q ht hL hC n hr
  obtain ⟨a, d, B1, B2, o⟩ := h
  have B2' := B2.lt
  have x0 := (B2.cell 0).1
  have x1 := (B2.cell 1).1
  have x2 := (B2.cell 2).1
  have x3 := (B2.cell 3).1
  have HX : Hid (OwnT W w (.slice a l.length d) l.length l ∧ l.length ≤ 4000) := ⟨o, hl⟩
  have HA : Hid ((Value.slice a l.length d).ownBlock ≠ some (W.heap.size + 1) ∧ (Value.slice a l.length d).ownBlock ≠ some W.heap.size) := ⟨o.apart B2 reader_ne_tok, o.apart B1 place_ne_tok⟩
  generalize L + (p - 1) = L' at *
  generalize (if p = 1 then C + (c - 1) else c) = C' at *
  generalize hN : l.length = N at *
  clear hr hn ht hL hC o hl
  go_enter Tryz.func110, Tryz.ntmps110
  go_wp2
  go_region_law (first
    | (go_simp; go_at_call 130; (with_reducible refine Calls.mono (CL _) ?_); rintro e w1 ⟨rfl, d1⟩; have B3 := BoxC.new w1 (tcA (k, t.extract 0 n, L, C)) 66; have hq : W.heap.size + 1 < w1.heap.size := Nat.lt_of_lt_of_le B2' d1.size; have C2 := B2.drew.more d1; have x0 := (C2.cell 0).1; have x1 := (C2.cell 1).1; have x2 := (C2.cell 2).1; have x3 := (C2.cell 3).1; have oo := fun z => ((HX.out.1.more (Below.refl _ _).drew).more d1).alloc z)
    | (refine stp_append_tok (.tmp 10) (.tmp 24) rfl rfl W _ _ N l (k, t.extract 0 n, L, C) w1.heap.size rfl rfl (oo _) B3 (by have := HX.out.2; omega) ?_; intro a3 c3 w3 o3 g3; have D2 := (C2.alloc _).grown g3 HA.out.1; have y3 := (D2.cell 3).2; have x3' := (D2.cell 3).1))
  all_goals
    subst hN
    have D1 := ((B1.drew.more d1).alloc _).grown g3 HA.out.2
    have RN := rd_new D1 D2 o3
    have P1 := PS _ RN
    clear B1 B2 C2 D1 D2 B3 o3 RN PS CL oo x0 x1 x2 x3 x3' y3 HX HA g3 d1
    go_wp2_with (go_at_call 75; (with_reducible refine Calls.mono P1 ?_); rintro e w5 ⟨rfl, r5⟩)
    go_end0
    exact ⟨rfl, r5⟩
end Go.Proofs.YtbcfplaalepnbaaGreatDoor
namespace Go.Proofs.YtbcfplaalepnbaaGreatDoor
open Go.RowKit Go.Lib
def AnsRL (W : World) (t : ByteArray) (L C : Int) (l : List Tok) (e : Ending) (w' : World) : Prop :=
  e = .returned (.int .i64 (tokenI t 0).2.2.2) ∧ ((tokenI t 0).2.2.2 = 0 → ∃ p c, Reach t (tokenI t 0).2.2.1 p c ∧ RdL W w' (t.extract (tokenI t 0).2.2.1 t.size) (L + (p - 1)) (if p = 1 then C + (c - 1) else c) (l ++ [((tokenI t 0).1, (tokenI t 0).2.1, L, C)])) ∧ ((tokenI t 0).2.2.2 ≠ 0 → RdL W w' t L C l)
theorem ansR_no {W w' : World} {t : ByteArray} {L C : Int} {l : List Tok} {k : Int} {x : ByteArray} {n : Nat} {er : Int} (h : tokenI t 0 = (k, x, n, er)) (he : er ≠ 0) (hr : RdL W w' t L C l) : AnsRL W t L C l (.returned (.int .i64 er)) w' := by
  unfold AnsRL
  rw [h]
  exact ⟨rfl, fun e => absurd e he, fun _ => hr⟩
theorem ansR_yes {W w' : World} {t : ByteArray} {L C : Int} {l : List Tok} {k : Int} {x : ByteArray} {n : Nat} (h : tokenI t 0 = (k, x, n, 0)) {p c : Int} (hp : Reach t n p c) (hr : RdL W w' (t.extract n t.size) (L + (p - 1)) (if p = 1 then C + (c - 1) else c) (l ++ [(k, x, L, C)])) : AnsRL W t L C l (.returned (.int .i64 0)) w' := by
  unfold AnsRL
  rw [h]
  exact ⟨rfl, fun _ => ⟨p, c, hp, hr⟩, fun e => absurd rfl e⟩
section
variable {W w : World} {t : ByteArray} {L C : Int} {l : List Tok}
set_option maxHeartbeats 4000000 in
theorem lex_word (h : RdL W w t L C l) (ht : t.size ≤ 1000000) (hL : 1 ≤ L ∧ L ≤ 1000001) (hC : 1 ≤ C ∧ C ≤ 1000001) (hl : l.length ≤ 4000) (hk : kindAt t 0 = 1) :
    Calls Tryz.prog 79 #[.pointer (some ⟨W.heap.size + 1, 0, none⟩)] w (AnsRL W t L C l) := by
  have TK : tokenI t 0 = if 0 + 40 < wordEnd t 0 then (0, ⟨#[]⟩, wordEnd t 0, 4) else (0, t.extract 0 (wordEnd t 0), wordEnd t 0, 0) := by unfold tokenI; rw [if_pos hk]
  obtain ⟨p, c, hp⟩ := Reach.word _ 0 1 1 (Nat.le_refl _) (Reach.zero t)
  have TA := fun v (q : RdL W v t L C l) => lex_take q ht hL hC hl _ 0 hp
  have S2 := lex_span2 t ht _ 1 2 _ (boxes1 w #[.int .i64 1, .int .i64 2] 3).1
  rw [spanE_word] at S2
  have R1 := h.more (boxes1 w #[.int .i64 1, .int .i64 2] 3).2.1
  obtain ⟨x0, x1, x2, y0, y1, y2, -, hk2⟩ := h.cells
  generalize wordEnd t 0 = n at *
  by_cases h4 : 0 + 40 < n
  · rw [if_pos h4] at TK
    have HT : Hid (tokenI t 0 = (0, ⟨#[]⟩, n, 4)) := TK
    have k4 : 40 < (n : Int) := by omega
    clear TK TA hp h hk hl hL hC ht h4
    go_enter Tryz.func79, Tryz.ntmps79
    go_wp2_with (go_at_call 76; (with_reducible refine Calls.mono S2 ?_); rintro e w1 ⟨rfl, d1⟩)
    go_ret
    exact ansR_no HT.out (by decide) (R1.more d1)
  · rw [if_neg h4] at TK
    have HT : Hid (tokenI t 0 = (0, t.extract 0 n, n, 0)) := TK
    have HP : Hid (Reach t n p c) := hp
    have k4 : ¬ 40 < (n : Int) := by omega
    clear TK hp h hk hl hL hC ht h4
    go_enter Tryz.func79, Tryz.ntmps79
    go_wp2_with (first
      | (go_at_call 76; (with_reducible refine Calls.mono S2 ?_); rintro e w1 ⟨rfl, d1⟩)
      | (go_at_call 110; (with_reducible refine Calls.mono (TA _ (R1.more d1)) ?_); rintro e w2 ⟨rfl, r2⟩))
    go_ret
    exact ansR_yes HT.out HP.out r2
set_option maxHeartbeats 8000000 in
theorem lex_number (h : RdL W w t L C l) (ht : t.size ≤ 1000000) (hL : 1 ≤ L ∧ L ≤ 1000001) (hC : 1 ≤ C ∧ C ≤ 1000001) (hl : l.length ≤ 4000) (hk : kindAt t 0 = 2) :
    Calls Tryz.prog 80 #[.pointer (some ⟨W.heap.size + 1, 0, none⟩)] w (AnsRL W t L C l) := by
  have TK := token_number hk
  obtain ⟨p, c, hp⟩ := (Reach.zero t).number
  have TA := fun v (q : RdL W v t L C l) => lex_take q ht hL hC hl _ 1 hp
  have NO := fun v => lex_numeral t ht v
  have ha := above_le t
  have hb := below_le t
  have SZ := fun v => lex_size (above t) (below t) (by omega) (by omega) (numEnd t 0) (numEnd_size t).symm v
  have MY := fun v => lex_may (above t) (below t) (by omega) (by omega) _ rfl v
  have LG := fun v => lex_long (above t) (below t) _ rfl v
  obtain ⟨x0, x1, x2, y0, y1, y2, -, hk2⟩ := h.cells
  have HH : Hid (RdL W w t L C l ∧ Reach t (numEnd t 0) p c) := ⟨h, hp⟩
  generalize longB (above t) (below t) = g at *
  generalize mayB (above t) (below t) = m at *
  generalize numEnd t 0 = n at *
  generalize above t = a at *
  generalize below t = b at *
  clear h hp hk hl hL hC ht ha hb
  cases g with
  | true =>
    rw [if_pos rfl] at TK
    have HT : Hid (tokenI t 0 = (0, ⟨#[]⟩, n, 4)) := TK
    clear TK TA SZ MY
    go_enter Tryz.func80, Tryz.ntmps80
    go_wp2_with (first
      | (go_at_call 111; (with_reducible refine Calls.mono (NO _) ?_); rintro e w1 ⟨rfl, d1⟩; have N := boxes1 w1 #[.string a, .string b] 137; obtain ⟨n0, n1, n2, n3⟩ := N.1.cells2)
      | (go_at_call 112; (with_reducible refine Calls.mono (LG _) ?_); rintro e w2 ⟨rfl, d2⟩))
    go_ret
    exact ansR_no HT.out (by decide) (((HH.out.1.more d1).more N.2.1).more d2)
  | false =>
    rw [if_neg (by decide)] at TK
    cases m with
    | false =>
      rw [if_neg (by decide)] at TK
      have HT : Hid (tokenI t 0 = (0, ⟨#[]⟩, n, 5)) := TK
      clear TK TA SZ
      go_enter Tryz.func80, Tryz.ntmps80
      go_wp2_with (first
        | (go_at_call 111; (with_reducible refine Calls.mono (NO _) ?_); rintro e w1 ⟨rfl, d1⟩; have N := boxes1 w1 #[.string a, .string b] 137; obtain ⟨n0, n1, n2, n3⟩ := N.1.cells2)
        | (go_at_call 112; (with_reducible refine Calls.mono (LG _) ?_); rintro e w2 ⟨rfl, d2⟩; obtain ⟨n0, n1, n2, n3⟩ := (N.1.more d2).cells2)
        | (go_at_call 113; (with_reducible refine Calls.mono (MY _) ?_); rintro e w3 ⟨rfl, d3⟩))
      go_ret
      exact ansR_no HT.out (by decide) ((((HH.out.1.more d1).more N.2.1).more d2).more d3)
    | true =>
      rw [if_pos rfl] at TK
      have HT : Hid (tokenI t 0 = (1, t.extract 0 n, n, 0)) := TK
      clear TK
      go_enter Tryz.func80, Tryz.ntmps80
      go_wp2_with (first
        | (go_at_call 111; (with_reducible refine Calls.mono (NO _) ?_); rintro e w1 ⟨rfl, d1⟩; have N := boxes1 w1 #[.string a, .string b] 137; obtain ⟨n0, n1, n2, n3⟩ := N.1.cells2)
        | (go_at_call 112; (with_reducible refine Calls.mono (LG _) ?_); rintro e w2 ⟨rfl, d2⟩; obtain ⟨n0, n1, n2, n3⟩ := (N.1.more d2).cells2)
        | (go_at_call 113; (with_reducible refine Calls.mono (MY _) ?_); rintro e w3 ⟨rfl, d3⟩; obtain ⟨n0, n1, n2, n3⟩ := ((N.1.more d2).more d3).cells2)
        | (go_at_call 114; (with_reducible refine Calls.mono (SZ _) ?_); rintro e w4 ⟨rfl, d4⟩)
        | (go_at_call 110; (with_reducible refine Calls.mono (TA _ (((((HH.out.1.more d1).more N.2.1).more d2).more d3).more d4)) ?_); rintro e w5 ⟨rfl, r5⟩))
      go_ret
      exact ansR_yes HT.out HH.out.2 r5
set_option maxHeartbeats 4000000 in
theorem lex_mark (h : RdL W w t L C l) (ht : t.size ≤ 1000000) (hL : 1 ≤ L ∧ L ≤ 1000001) (hC : 1 ≤ C ∧ C ≤ 1000001) (hl : l.length ≤ 4000) (hk : kindAt t 0 = 4) :
    Calls Tryz.prog 81 #[.pointer (some ⟨W.heap.size + 1, 0, none⟩)] w (AnsRL W t L C l) := by
  have h0 := kindAt_in (s := t) (i := 0) (by omega)
  have TK : tokenI t 0 = (2, t.extract 0 (0 + stepAt t 0), 0 + stepAt t 0, 0) := by unfold tokenI; rw [if_neg (by omega), if_neg (by omega), if_pos hk]
  obtain ⟨p, c, hp⟩ := (Reach.zero t).step (by omega)
  have TA := fun v (q : RdL W v t L C l) => lex_take q ht hL hC hl _ 2 hp
  have NX : ∀ v, Calls Tryz.prog 77 #[.string t, .int .i64 0] v fun e w' => e = .returned (.tuple #[.int .i32 (nextR t 0), .int .i64 (stepAt t 0)]) ∧ Below v.heap.size v w' := fun v => by
    have := sign_next t 0 v ht h0
    unfold stepAt
    rw [if_pos h0]; exact this
  rw [Nat.zero_add] at TK hp TA
  obtain ⟨x0, x1, x2, y0, y1, y2, -, hk2⟩ := h.cells
  have HH : Hid (RdL W w t L C l ∧ Reach t (stepAt t 0) p c ∧ tokenI t 0 = (2, t.extract 0 (stepAt t 0), stepAt t 0, 0)) := ⟨h, hp, TK⟩
  generalize stepAt t 0 = n at *
  generalize nextR t 0 = R at *
  clear h hp TK hk hl hL hC ht h0
  go_enter Tryz.func81, Tryz.ntmps81
  go_wp2_with (first
    | (go_at_call 77; (with_reducible refine Calls.mono (NX _) ?_); rintro e w1 ⟨rfl, d1⟩)
    | (go_at_call 110; (with_reducible refine Calls.mono (TA _ (HH.out.1.more d1)) ?_); rintro e w5 ⟨rfl, r5⟩))
  go_ret
  exact ansR_yes HH.out.2.2 HH.out.2.1 r5
set_option maxHeartbeats 4000000 in
theorem lex_nothing (h : RdL W w t L C l) (hk : kindAt t 0 ≠ 1 ∧ kindAt t 0 ≠ 2 ∧ kindAt t 0 ≠ 4) :
    Calls Tryz.prog 82 #[.pointer (some ⟨W.heap.size + 1, 0, none⟩)] w (AnsRL W t L C l) := by
  have TK : tokenI t 0 = (0, ⟨#[]⟩, 0, 5) := by unfold tokenI; rw [if_neg hk.1, if_neg hk.2.1, if_neg hk.2.2]
  have HH : Hid (RdL W w t L C l ∧ tokenI t 0 = (0, ⟨#[]⟩, 0, 5)) := ⟨h, TK⟩
  clear h TK hk
  go_enter Tryz.func82, Tryz.ntmps82
  go_wp2
  go_ret
  exact ansR_no HH.out.2 (by decide) HH.out.1
set_option maxHeartbeats 4000000 in
/-- Which of these is to be called. -/
theorem lex_next (h : RdL W w t L C l) (ht : t.size ≤ 1000000) (h0 : 0 < t.size) (N : Nat) (hN : kindAt t 0 = 1 ∧ N = 79 ∨ kindAt t 0 = 2 ∧ N = 80 ∨ kindAt t 0 = 4 ∧ N = 81 ∨ (kindAt t 0 ≠ 1 ∧ kindAt t 0 ≠ 2 ∧ kindAt t 0 ≠ 4) ∧ N = 82) :
    Calls Tryz.prog 52 #[.pointer (some ⟨W.heap.size + 1, 0, none⟩)] w fun e w' => e = .returned (.func (.func N) #[.pointer (some ⟨W.heap.size + 1, 0, none⟩)] #[]) ∧ RdL W w' t L C l := by
  have NX : ∀ v, Calls Tryz.prog 77 #[.string t, .int .i64 0] v fun e w' => e = .returned (.tuple #[.int .i32 (nextR t 0), .int .i64 (nextN t 0)]) ∧ Below v.heap.size v w' := fun v => sign_next t 0 v ht h0
  have e1 : kindAt t 0 = kindI (nextR t 0) := by unfold kindAt; rw [if_pos h0]
  have KD := fun v => sign_kind (nextR t 0) _ rfl v
  rw [← e1] at KD
  obtain ⟨x0, x1, x2, y0, y1, y2, -, hk2⟩ := h.cells
  have HH : Hid (RdL W w t L C l) := h
  have hmf : ∀ (fn : Fn) (first cap : Array Value) (v : World), (Instr.makeFunc fn first cap).run Tryz.prog v = .ok (.func fn first cap) v := fun _ _ _ _ => rfl
  generalize kindAt t 0 = k at *
  generalize nextR t 0 = R at *
  generalize nextN t 0 = M at *
  clear h ht h0 e1
  rcases hN with ⟨rfl, rfl⟩ | ⟨rfl, rfl⟩ | ⟨rfl, rfl⟩ | ⟨⟨q1, q2, q4⟩, rfl⟩
  case' inr.inr.inr =>
    have f1 : (k == 1) = false := by rw [beq_eq_false_iff_ne]; exact q1
    have f2 : (k == 2) = false := by rw [beq_eq_false_iff_ne]; exact q2
    have f4 : (k == 4) = false := by rw [beq_eq_false_iff_ne]; exact q4
    clear q1 q2 q4
  all_goals
    go_enter Tryz.func52, Tryz.ntmps52
    go_wp2_with (first
      | (go_at_call 77; (with_reducible refine Calls.mono (NX _) ?_); rintro e w1 ⟨rfl, d1⟩)
      | (go_at_call 78; (with_reducible refine Calls.mono (KD _) ?_); rintro e w2 ⟨rfl, rfl⟩))
    go_ret
    exact ⟨rfl, HH.out.more d1⟩
end
end Go.Proofs.YtbcfplaalepnbaaGreatDoor
namespace Go.Proofs.YtbcfplaalepnbaaGreatDoor
open Go.RowKit Go.Lib
theorem RdL.reach {W w : World} {t : ByteArray} {L C : Int} {l : List Tok} (h : RdL W w t L C l) : ∃ a c, BoxC w W.heap.size #[.int .i64 0, .int .i64 0] 29 ∧ BoxC w (W.heap.size + 1) #[.string t, .int .i64 L, .int .i64 C, .slice a l.length c] 87 ∧ OwnT W w (.slice a l.length c) l.length l := h
theorem stay_no {W w : World} {t : ByteArray} {L C : Int} {l : List Tok} (h : RdL W w t L C l) (x y : Value) : Below W.heap.size W ((w.setCell ⟨W.heap.size, 0, none⟩ x).setCell ⟨W.heap.size, 1, none⟩ y) :=
  (h.below.setCell (p := ⟨W.heap.size, 0, none⟩) (Nat.le_refl _) x).setCell (p := ⟨W.heap.size, 1, none⟩) (Nat.le_refl _) y
set_option maxRecDepth 100000 in
set_option maxHeartbeats 20000000 in
theorem lex_Lex (s : ByteArray) (hs : s.size ≤ 1000000) (w : World) : Calls Tryz.prog 25 #[.string s] w (AnsX w (lexI s)) := by
  obtain ⟨b1, b2, bV, hV⟩ := boxes2 w #[.int .i64 0, .int .i64 0] #[.string s, .int .i64 1, .int .i64 1, .slice none 0 0] 29 87
  have x0 := (b1.cell 0).2
  have x1 := (b1.cell 1).2
  have z0 := (b2.cell 0).1
  have z1 := (b2.cell 1).1
  have z2 := (b2.cell 2).1
  unfold lexI
  by_cases h6 : 60000 < s.size
  · rw [if_pos h6]
    have k6 : 60000 < (s.size : Int) := by omega
    clear hs h6
    go_enter Tryz.func25, Tryz.ntmps25
    go_wp2
    go_region
    all_goals go_wp2
    obtain ⟨q1, q2, qV, -⟩ := boxes2 w #[.int .i64 1, .int .i64 1] #[.string s, .int .i64 1, .int .i64 1, .slice none 0 0] 29 87
    obtain ⟨y0, y1, -, -⟩ := q1.drew.cells2
    exact bodyPost_ret (v := .tuple #[.slice none 0 0, .agg #[.int .i64 1, .int .i64 1], .int .i64 4]) (by simp [results, Tryz.results25, go_sem, y0, y1]) rfl (ansX_no qV.drew)
  rw [if_neg h6]
  have k6 : ¬ 60000 < (s.size : Int) := by omega
  have hs6 : s.size ≤ 60000 := Nat.not_lt.1 h6
  clear x0 x1 z0 z1 z2
  have R0 : RdL w ((w.alloc (.cells #[.int .i64 0, .int .i64 0] 29)).alloc (.cells #[.string s, .int .i64 1, .int .i64 1, .slice none 0 0] 87)) (s.extract 0 s.size) 1 1 [] := by
    rw [extract_all]
    exact ⟨none, 0, b1, b2, OwnT.nil bV⟩
  have SK := fun v i L C l (q : RdL w v (s.extract i s.size) L C l) (r : Reach s i L C) => lex_skip q hs r
  have S0 := SK _ 0 1 1 [] R0 (Reach.zero s)
  have HS : Hid (s.size ≤ 60000) := hs6
  have HP : Hid (lexF s (s.size + 1) 0 [] = lexF s (s.size + 1) (spanE [3] s 0) []) := lexF_blanks s [] _ 0 (Nat.le_refl _)
  have HK : Hid (kindAt s (spanE [3] s 0) ≠ 3) := blanks_end s _ 0 (Nat.le_refl _)
  have HG : Hid (spanE [3] s 0 ≤ s.size) := (spanE_range [3] s 0).2 (Nat.zero_le _)
  generalize lexF s (s.size + 1) 0 [] = P at *
  generalize spanE [3] s 0 = E0 at *
  clear h6 hs6 b1 b2 bV hV
  go_enter Tryz.func25, Tryz.ntmps25
  go_wp2_with (go_at_call 51; (with_reducible refine Calls.mono S0 ?_); rintro e V ⟨rfl, L0, C0, r0, c0⟩)
  go_loopg [] (s.size - E0) (fun g v => ∃ (i : Nat) (L C : Int) (l : List Tok), i + g = s.size ∧ kindAt s i ≠ 3 ∧ l.length ≤ 4000 ∧ RdL w v (s.extract i s.size) L C l ∧ Reach s i L C ∧ lexF s (s.size + 1) i l = P)
  case atStart => exact ⟨E0, L0, C0, [], by have := HG.out; omega, HK.out, by simp, r0, c0, HP.out.symm⟩
  case round =>
    obtain ⟨i, L, C, l, hg, hk, hl, hR, hr, hF⟩ := hrel
    clear HP HK HG r0 c0 S0 R0
    have hi0 := hr.range.1
    have hz : (s.extract i s.size).size = s.size - i := by rw [ByteArray.size_extract]; omega
    have sh := shifted_rest s hi0
    have hS := HS.out
    obtain ⟨a, c, B1, B2, o⟩ := hR.reach
    have z0 := (B2.cell 0).1
    have z1 := (B2.cell 1).1
    have z2 := (B2.cell 2).1
    have z3 := (B2.cell 3).1
    have x0 := (B1.cell 0).2
    have x1 := (B1.cell 1).2
    have x2 := (B1.cell 0).1
    have x3 := (B1.cell 1).1
    rcases Nat.lt_or_ge i s.size with hi | hi
    · have e0 : ((s.extract i s.size).toList == []) = false := text_full (by omega)
      have hT := lexF_step (out := l) hi
      rw [hF, if_neg hk] at hT
      have hpl := hr.here hi
      by_cases h4 : 4000 ≤ l.length
      · rw [if_pos h4, hpl] at hT
        have HT : Hid (P = ([], (L, C), 4)) := hT
        have e4 : ((l.length : Int) == 4000) = true := by rw [beq_iff_eq]; omega
        have HR : Hid (RdL w wr (s.extract i s.size) L C l) := hR
        have hq : w.heap.size < wr.heap.size := B1.lt
        generalize s.extract i s.size = t at *
        generalize l.length = n at *
        clear hF hT hpl h4 hg hk hl hR hr hi0 hz sh hS B1 B2 o hi SK hs
        go_wp2
        go_region
        all_goals go_wp2
        have HT2 := HT.out
        subst HT2
        obtain ⟨a', c', B1', B2', o'⟩ := HR.out.reach
        obtain ⟨y0, y1, -, -⟩ := ((B1'.set 0 (.int .i64 L)).set 1 (.int .i64 C)).drew.cells2
        exact bodyPost_ret (v := .tuple #[.slice none 0 0, .agg #[.int .i64 L, .int .i64 C], .int .i64 4]) (by simp [results, Tryz.results25, go_sem, y0, y1]) rfl (ansX_no (stay_no HR.out _ _).drew)
      · rw [if_neg h4] at hT
        have e4 : ((l.length : Int) == 4000) = false := by rw [beq_eq_false_iff_ne]; omega
        have hkt := (sh.kind 0).1
        have htk := sh.token 0
        rw [Nat.add_zero] at hkt htk
        have hL := hr.range
        have hl3 : l.length ≤ 4000 := hl
        have hrd : ∃ N, (N = 79 ∨ N = 80 ∨ N = 81 ∨ N = 82) ∧ (∀ v, RdL w v (s.extract i s.size) L C l → Calls Tryz.prog 52 #[.pointer (some ⟨w.heap.size + 1, 0, none⟩)] v fun e w' => e = .returned (.func (.func N) #[.pointer (some ⟨w.heap.size + 1, 0, none⟩)] #[]) ∧ RdL w w' (s.extract i s.size) L C l) ∧
            (∀ v, RdL w v (s.extract i s.size) L C l → Calls Tryz.prog N #[.pointer (some ⟨w.heap.size + 1, 0, none⟩)] v (AnsRL w (s.extract i s.size) L C l)) := by
          by_cases q1 : kindAt (s.extract i s.size) 0 = 1
          · exact ⟨_, .inl rfl, fun v q => lex_next q (by omega) (by omega) _ (.inl ⟨q1, rfl⟩), fun v q => lex_word q (by omega) (by omega) (by omega) hl3 q1⟩
          by_cases q2 : kindAt (s.extract i s.size) 0 = 2
          · exact ⟨_, .inr (.inl rfl), fun v q => lex_next q (by omega) (by omega) _ (.inr (.inl ⟨q2, rfl⟩)), fun v q => lex_number q (by omega) (by omega) (by omega) hl3 q2⟩
          by_cases q4 : kindAt (s.extract i s.size) 0 = 4
          · exact ⟨_, .inr (.inr (.inl rfl)), fun v q => lex_next q (by omega) (by omega) _ (.inr (.inr (.inl ⟨q4, rfl⟩))), fun v q => lex_mark q (by omega) (by omega) (by omega) hl3 q4⟩
          · exact ⟨_, .inr (.inr (.inr rfl)), fun v q => lex_next q (by omega) (by omega) _ (.inr (.inr (.inr ⟨⟨q1, q2, q4⟩, rfl⟩))), fun v q => lex_nothing q ⟨q1, q2, q4⟩⟩
        obtain ⟨N, hN, NX, RD⟩ := hrd
        have hend := tokenI_end hi
        rw [htk] at hT hend
        dsimp only at hT hend
        by_cases her : (tokenI (s.extract i s.size) 0).2.2.2 = 0
        · rw [if_neg (fun e => e her), hpl] at hT
          obtain ⟨q1, q2⟩ := hend her
          have RD2 : ∀ v, RdL w v (s.extract i s.size) L C l → Calls Tryz.prog N #[.pointer (some ⟨w.heap.size + 1, 0, none⟩)] v fun e w' => e = .returned (.int .i64 0) ∧ ∃ L' C', RdL w w' (s.extract (i + (tokenI (s.extract i s.size) 0).2.2.1) s.size) L' C' (l ++ [((tokenI (s.extract i s.size) 0).1, (tokenI (s.extract i s.size) 0).2.1, L, C)]) ∧ Reach s (i + (tokenI (s.extract i s.size) 0).2.2.1) L' C' := by
            intro v q
            refine (RD v q).mono ?_
            rintro e w' ⟨h1, h2, -⟩
            obtain ⟨p', c', h3, h5⟩ := h2 her
            rw [her] at h1
            rw [extract_more] at h5
            exact ⟨h1, _, _, h5, hr.on sh h3⟩
          generalize (tokenI (s.extract i s.size) 0).2.2.1 = E at *
          generalize (tokenI (s.extract i s.size) 0).1 = k0 at *
          generalize (tokenI (s.extract i s.size) 0).2.1 = u at *
          rw [lexF_blanks s _ _ (i + E) (Nat.le_refl _)] at hT
          have HT : Hid (P = lexF s (s.size + 1) (spanE [3] s (i + E)) (l ++ [(k0, u, L, C)])) := hT
          have hr2 := spanE_range [3] s (i + E)
          have HI : Hid (kindAt s (spanE [3] s (i + E)) ≠ 3 ∧ i < spanE [3] s (i + E) ∧ spanE [3] s (i + E) ≤ s.size ∧ i + gk = s.size ∧ l.length < 4000) := ⟨blanks_end s _ (i + E) (Nat.le_refl _), by omega, hr2.2 (by omega), hg, by omega⟩
          have HR : Hid (RdL w wr (s.extract i s.size) L C l) := hR
          have SK2 := fun v L' C' (q : RdL w v (s.extract (i + E) s.size) L' C' (l ++ [(k0, u, L, C)])) (r : Reach s (i + E) L' C') => SK v (i + E) L' C' _ q r
          generalize spanE [3] s (i + E) = I at *
          generalize s.extract i s.size = t at *
          generalize hn : l.length = n at *
          have HN : Hid (l.length = n) := hn
          clear hF hT hpl h4 hg hk hl hl3 hR hr hi0 hz sh hS B1 B2 o hi SK hs hend hr2 q1 q2 RD hL hkt htk her hn x0 x1 x2 x3
          rcases hN with rfl | rfl | rfl | rfl
          all_goals
            go_wp2_with (first
              | (go_at_call 52; (with_reducible refine Calls.mono (NX _ HR.out) ?_); rintro e w1 ⟨rfl, r1⟩)
              | (go_at_call 79; (with_reducible refine Calls.mono (RD2 _ r1) ?_); rintro e w2 ⟨rfl, L1, C1, r2, g2⟩)
              | (go_at_call 80; (with_reducible refine Calls.mono (RD2 _ r1) ?_); rintro e w2 ⟨rfl, L1, C1, r2, g2⟩)
              | (go_at_call 81; (with_reducible refine Calls.mono (RD2 _ r1) ?_); rintro e w2 ⟨rfl, L1, C1, r2, g2⟩)
              | (go_at_call 82; (with_reducible refine Calls.mono (RD2 _ r1) ?_); rintro e w2 ⟨rfl, L1, C1, r2, g2⟩)
              | (go_at_call 51; (with_reducible refine Calls.mono (SK2 _ _ _ r2 g2) ?_); rintro e w3 ⟨rfl, L2, C2, r3, g3⟩))
            obtain ⟨j1, j2, j3, j4, j5⟩ := HI.out
            go_roundg (s.size - I)
            case measure => omega
            case rel => exact ⟨I, L2, C2, _, by omega, j1, by rw [List.length_append, HN.out]; exact j5, r3, g3, HT.out.symm⟩
        · rw [if_pos her, hpl] at hT
          have HT : Hid (P = ([], (L, C), (tokenI (s.extract i s.size) 0).2.2.2)) := hT
          have RD2 : ∀ v, RdL w v (s.extract i s.size) L C l → Calls Tryz.prog N #[.pointer (some ⟨w.heap.size + 1, 0, none⟩)] v fun e w' => e = .returned (.int .i64 (tokenI (s.extract i s.size) 0).2.2.2) ∧ RdL w w' (s.extract i s.size) L C l := by
            intro v q
            refine (RD v q).mono ?_
            rintro e w' ⟨h1, -, h2⟩
            exact ⟨h1, h2 her⟩
          generalize (tokenI (s.extract i s.size) 0).2.2.2 = er at *
          have e5 : (er != 0) = true := by rw [bne_iff_ne]; exact her
          have HR : Hid (RdL w wr (s.extract i s.size) L C l) := hR
          generalize s.extract i s.size = t at *
          generalize hn : l.length = n at *
          clear hF hT hpl h4 hg hk hl hl3 hR hr hi0 hz sh hS B1 B2 o hi SK hs hend RD hL hkt htk her hn x0 x1 x2 x3
          rcases hN with rfl | rfl | rfl | rfl
          all_goals
            go_wp2_with (first
              | (go_at_call 52; (with_reducible refine Calls.mono (NX _ HR.out) ?_); rintro e w1 ⟨rfl, r1⟩)
              | (go_at_call 79; (with_reducible refine Calls.mono (RD2 _ r1) ?_); rintro e w2 ⟨rfl, r2⟩)
              | (go_at_call 80; (with_reducible refine Calls.mono (RD2 _ r1) ?_); rintro e w2 ⟨rfl, r2⟩)
              | (go_at_call 81; (with_reducible refine Calls.mono (RD2 _ r1) ?_); rintro e w2 ⟨rfl, r2⟩)
              | (go_at_call 82; (with_reducible refine Calls.mono (RD2 _ r1) ?_); rintro e w2 ⟨rfl, r2⟩))
            obtain ⟨a2, c2, D1, D2, o2⟩ := r2.reach
            have z0 := (D2.cell 0).1
            have z1 := (D2.cell 1).1
            have z2 := (D2.cell 2).1
            have x0 := (D1.cell 0).2
            have x1 := (D1.cell 1).2
            have x2 := (D1.cell 0).1
            have x3 := (D1.cell 1).1
            have hq : w.heap.size < w2.heap.size := D1.lt
            go_region
            all_goals go_wp2
            have HT2 := HT.out
            subst HT2
            obtain ⟨y0, y1, -, -⟩ := ((D1.set 0 (.int .i64 L)).set 1 (.int .i64 C)).drew.cells2
            exact bodyPost_ret (v := .tuple #[.slice none 0 0, .agg #[.int .i64 L, .int .i64 C], .int .i64 er]) (by simp [results, Tryz.results25, go_sem, y0, y1]) rfl (ansX_no (stay_no r2 _ _).drew)
    · have e0 : ((s.extract i s.size).toList == []) = true := text_empty (by omega)
      rw [lexF_end (out := l) (Nat.not_lt.2 hi)] at hF
      subst hF
      have HO : Hid (OwnT w wr (.slice a l.length c) l.length l ∧ BoxC wr w.heap.size #[.int .i64 0, .int .i64 0] 29) := ⟨o, B1⟩
      generalize s.extract i s.size = t at *
      generalize hn : l.length = n at *
      clear hg hk hl hR hr hi0 hz sh hS B1 B2 o hi SK hs
      go_wp2
      subst hn
      obtain ⟨o', B1'⟩ := HO.out
      obtain ⟨y0, y1, -, -⟩ := ((B1'.set 0 (.int .i64 0)).set 1 (.int .i64 0)).cells2
      exact bodyPost_ret (v := .tuple #[.slice a l.length c, .agg #[.int .i64 0, .int .i64 0], .int .i64 0]) (by simp [results, Tryz.results25, go_sem, y0, y1]) rfl ⟨a, c, rfl, (o'.box B1' place_ne_tok (Nat.le_refl _) 0 _).box (B1'.set 0 _) place_ne_tok (Nat.le_refl _) 1 _⟩
end Go.Proofs.YtbcfplaalepnbaaGreatDoor
namespace Go.Proofs.YtbcfplaalepnbaaGreatDoor
theorem front_app {l m : List UInt8} (h : ∀ c ∈ l, c ≠ 124) : frontR (l ++ 124 :: m) = l ∧ restR (l ++ 124 :: m) = 124 :: m := by
  induction l with
  | nil => exact ⟨by unfold frontR; rw [List.nil_append, List.takeWhile_cons_of_neg (by decide)], by unfold restR; rw [List.nil_append, List.dropWhile_cons_of_neg (by decide)]⟩
  | cons c l ih =>
    have hc := h c (by simp)
    obtain ⟨i1, i2⟩ := ih (fun d hd => h d (by simp [hd]))
    unfold frontR restR at *
    rw [List.cons_append, List.takeWhile_cons_of_pos (by simpa using hc), List.dropWhile_cons_of_pos (by simpa using hc), i1, i2]
    exact ⟨rfl, rfl⟩
theorem front_all {l : List UInt8} (h : ∀ c ∈ l, c ≠ 124) : frontR l = l ∧ restR l = [] := by
  induction l with
  | nil => exact ⟨rfl, rfl⟩
  | cons c l ih =>
    have hc := h c (by simp)
    obtain ⟨i1, i2⟩ := ih (fun d hd => h d (by simp [hd]))
    unfold frontR restR at *
    rw [List.takeWhile_cons_of_pos (by simpa using hc), List.dropWhile_cons_of_pos (by simpa using hc), i1, i2]
    exact ⟨rfl, rfl⟩
end Go.Proofs.YtbcfplaalepnbaaGreatDoor
