/-
  Texts of mine put together in build order, as far as TreeParses, TreeRight need them: SignB, WholeA, DeciWalks, DeciA, DeciPad, DeciB, BytesW, DeciC, DeciD, RangeMade, DeciE, DeciF, WholeD, RatioA, RatioF, RatioG, RatioH, RatioJ, SignWalksD, SignC, TreeFields, TreePg. No conditions of their own.
-/
import Derived.Test.YtbcfplaalepnbaaGreatDoorRows
import Derived.WalkKit
import Derived.ProofKit
import Derived.WalkLawsBesides
import Derived.Deep.QuietTactic
import Derived.BigQuiet
import Derived.Outline
import Derived.Lib.AppendZerosOnto
import Derived.Lib.DecodeN
import Derived.Lib.BitFns
import Derived.OpenShut
import Derived.Laws.CopyOwn
import Derived.Deep.LoopGhost
import Derived.Lib.OthersKept
import Derived.Deep.RegionWith
import Derived.Deep.DrawnRows
import Derived.Deep.RegionLaw
import Derived.Deep.RegionHeld3
import Derived.Laws.IdiomStrings
import Derived.RangeFuncNested
import Derived.RangeFuncLeaves
import Derived.RangeFuncBound
import Derived.RangeFuncCalls
import Derived.Shelf.Abstract
import Derived.Shelf.RegionOpen
import Derived.OwnWalkIn
import Derived.TacticsInMore
import Derived.LoopNIn
import Derived.LoopIn
import Derived.Sort.LoopGhostIn
import Derived.Laws.EntriesVeiled
import Derived.Deep.DeepCutAuto
import Derived.Laws.Bits64b
import Derived.Lib.Bytealg
import Derived.Laws.AppendOwn
import Derived.Laws.AppendOwnNone
import Derived.Test.YtbcfplaalepnbaaGreatDoorPack1
import Derived.Test.YtbcfplaalepnbaaGreatDoorPack2
import Derived.Test.YtbcfplaalepnbaaGreatDoorPack3
import Derived.Test.YtbcfplaalepnbaaGreatDoorPack4
namespace Go.Proofs.YtbcfplaalepnbaaGreatDoor
open Go.RowKit Go.Lib
theorem ext_bt (s : ByteArray) (i : Nat) (hi : i ≤ s.size) (j : Nat) : bt (s.extract i s.size) j = bt s (i + j) := by
  have hz : (s.extract i s.size).size = s.size - i := by rw [ByteArray.size_extract]; omega
  by_cases h : i + j < s.size
  · rw [bt_get (by omega), bt_get h, ByteArray.getElem_extract]
  · unfold bt
    have e : s.size = s.data.size := rfl
    have e2 : (s.extract i s.size).size = (s.extract i s.size).data.size := rfl
    rw [bt_data, bt_data, getElem!_neg _ _ (by omega), getElem!_neg _ _ (by omega)]
theorem ext_next (s : ByteArray) (i : Nat) (hi : i ≤ s.size) (j : Nat) : nextR (s.extract i s.size) j = nextR s (i + j) ∧ nextN (s.extract i s.size) j = nextN s (i + j) := by
  have hz : (s.extract i s.size).size = s.size - i := by rw [ByteArray.size_extract]; omega
  have e : Utf8.decode (s.extract i s.size) j = Utf8.decode s (i + j) := by
    rw [decode_bt, decode_bt, ext_bt s i hi, ext_bt s i hi, ext_bt s i hi, ext_bt s i hi, hz, Nat.sub_sub]
    rfl
  unfold nextR nextN
  rw [e]; exact ⟨rfl, rfl⟩
theorem text_full {s : ByteArray} (h : 1 ≤ s.size) : (s.toList == []) = false := by
  rw [beq_eq_false_iff_ne, ByteArray.toList_eq]
  intro e
  have : s.data.toList.length = s.size := by simp
  rw [e] at this
  exact absurd this (by simp only [List.length_nil]; omega)
set_option maxHeartbeats 4000000 in
theorem sign_next (s : ByteArray) (i : Nat) (w : World) (hs : s.size ≤ 1000000) (hi : i < s.size) : Calls Tryz.prog 77 #[.string s, .int .i64 i] w fun e w' => e = .returned (.tuple #[.int .i32 (nextR s i), .int .i64 (nextN s i)]) ∧ Below w.heap.size w w' := by
  have k0 : ¬ (i : Int) < 0 := by omega
  have k1 : ¬ (s.size : Int) ≤ i := by omega
  have k2 : (i : Int) ≤ s.size := by omega
  have hz := next_size hi
  have hT : (s.extract i s.size).size = s.size - i := by rw [ByteArray.size_extract]; omega
  obtain ⟨hR, hN⟩ := ext_next s i (Nat.le_of_lt hi) 0
  rw [Nat.add_zero] at hR hN
  have HH : Hid (nextR (s.extract i s.size) 0 = nextR s i ∧ nextN (s.extract i s.size) 0 = nextN s i ∧ 1 ≤ nextN s i ∧ nextN s i ≤ (s.extract i s.size).size ∧ (s.extract i s.size).size ≤ 1000000) := ⟨hR, hN, hz.1, by omega, by omega⟩
  clear hR hN hz hT hs hi
  generalize nextR s i = R at *
  generalize nextN s i = M at *
  go_enter Tryz.func77, Tryz.ntmps77
  go_wp2
  generalize s.extract i s.size = u at *
  go_loopg [4] u.size (fun g s4 v => ∃ (pos : Nat) (x : Int), s4 = .int .i32 x ∧ pos + g = u.size ∧ v.heap[w.heap.size]? = some (.stringIter u pos) ∧ Below w.heap.size w v ∧ (pos = 0 ∨ pos = M ∧ x = R))
  case atStart => exact ⟨0, 0, rfl, by omega, iter_new w u, below_iter w u 0, .inl rfl⟩
  case round =>
    obtain ⟨pos, x, rfl, hg, hit, bw, hp⟩ := hrel
    obtain ⟨h1, h2, h3, h4, h5⟩ := HH.out
    rcases hp with rfl | ⟨rfl, rfl⟩
    · have hnx : ∀ ty, (Instr.next (.pointer (some ⟨w.heap.size, 0, none⟩)) true ty).run Tryz.prog wr = .ok (.tuple #[.bool true, .int .i64 (0 : Nat), .int .i32 (nextR u 0)]) (wr.iterAt w.heap.size u (0 + nextN u 0)) := fun ty => run_next_any_at wr w.heap.size u 0 ty hit (by omega)
      have hi2 := iterAt_heap wr w.heap.size u 0 (0 + nextN u 0) hit
      have bw2 := below_iterAt bw (Nat.le_refl _) u (0 + nextN u 0)
      rw [h1, h2, Nat.zero_add] at hnx
      rw [h2, Nat.zero_add] at hi2 bw2
      generalize wr.iterAt w.heap.size u M = wi at *
      have HG : Hid (0 + gk = u.size) := hg
      clear hit bw h1 h2 h3 h4 h5 hg
      go_wp2
      have hg := HG.out
      obtain ⟨h1, h2, h3, h4, h5⟩ := HH.out
      go_roundg (u.size - M)
      case measure => omega
      case rel => exact ⟨M, R, rfl, by omega, hi2, bw2, .inr ⟨rfl, rfl⟩⟩
    · rcases Nat.lt_or_ge pos u.size with hp | hp
      · have hnx : ∀ ty, (Instr.next (.pointer (some ⟨w.heap.size, 0, none⟩)) true ty).run Tryz.prog wr = .ok (.tuple #[.bool true, .int .i64 pos, .int .i32 (nextR u pos)]) (wr.iterAt w.heap.size u (pos + nextN u pos)) := fun ty => run_next_any_at wr w.heap.size u pos ty hit hp
        have bw2 := below_iterAt bw (Nat.le_refl _) u (pos + nextN u pos)
        have k3 : 0 < (pos : Int) := by omega
        generalize wr.iterAt w.heap.size u (pos + nextN u pos) = wi at *
        clear hit bw h1 h2 h3 h4 h5 hg hp
        go_wp2
        go_ret2
        exact ⟨rfl, bw2⟩
      · obtain rfl : pos = u.size := by omega
        have hnx : ∀ ty, (Instr.next (.pointer (some ⟨w.heap.size, 0, none⟩)) true ty).run Tryz.prog wr = .ok (.tuple #[.bool false]) wr := fun ty => run_next_end_at wr w.heap.size u u.size ty hit (Nat.lt_irrefl _)
        clear hit h1 h2 h3 h4 h5 hg hp
        go_wp2
        go_ret2
        exact ⟨rfl, bw⟩
set_option maxHeartbeats 8000000 in
theorem sign_name (s : ByteArray) (w : World) (hs : s.size ≤ 1000000) (r : Bool) (hr : nameB s = r) : Calls Tryz.prog 69 #[.string s] w fun e w' => e = .returned (.bool r) ∧ Below w.heap.size w w' := by
  have KY := fun v => sign_key s _ rfl v
  unfold nameB at hr
  rcases (by by_cases h1 : s.size < 1 <;> by_cases h2 : 40 < s.size <;> by_cases h3 : keyB s = true <;> simp [h1, h2, h3] : s.size < 1 ∨ (¬ s.size < 1 ∧ 40 < s.size) ∨ (¬ s.size < 1 ∧ ¬ 40 < s.size ∧ keyB s = true) ∨ (¬ s.size < 1 ∧ ¬ 40 < s.size ∧ keyB s = false)) with h | ⟨h, h2⟩ | ⟨h, h2, h3⟩ | ⟨h, h2, h3⟩
  · have e0 : (s.toList == []) = true := by
      have : s.data.toList = [] := List.eq_nil_of_length_eq_zero ((show s.data.toList.length = s.size by simp).trans (by omega))
      rw [ByteArray.toList_eq, this]; rfl
    obtain rfl : r = false := by rw [← hr, decide_eq_false (by omega)]; rfl
    clear hr hs KY
    go_enter Tryz.func69, Tryz.ntmps69
    go_wp2
    go_ret
    exact ⟨rfl, Below.refl _ _⟩
  · have e0 : (s.toList == []) = false := text_full (by omega)
    obtain rfl : r = false := by rw [← hr, decide_eq_false (by omega)]; rfl
    have k2 : 40 < (s.size : Int) := by omega
    clear hr hs KY
    go_enter Tryz.func69, Tryz.ntmps69
    go_wp2
    go_ret
    exact ⟨rfl, Below.refl _ _⟩
  · have e0 : (s.toList == []) = false := text_full (by omega)
    obtain rfl : r = false := by rw [← hr, h3]; simp
    have k2 : ¬ 40 < (s.size : Int) := by omega
    rw [h3] at KY
    clear hr hs h3
    go_enter Tryz.func69, Tryz.ntmps69
    go_wp2_with (go_at_call 101; (with_reducible refine Calls.mono (KY _) ?_); rintro e v1 ⟨rfl, rfl⟩)
    go_ret
    exact ⟨rfl, Below.refl _ _⟩
  · have e0 : (s.toList == []) = false := text_full (by omega)
    have k2 : ¬ 40 < (s.size : Int) := by omega
    have hF : nameF s (s.size + 1) 0 = r := by rw [← hr, h3, decide_eq_true (by omega : 1 ≤ s.size ∧ s.size ≤ 40)]; rfl
    have HF : Hid (nameF s (s.size + 1) 0 = r) := hF
    rw [h3] at KY
    clear hr h3 hF hs h h2
    go_enter Tryz.func69, Tryz.ntmps69
    go_wp2_with (go_at_call 101; (with_reducible refine Calls.mono (KY _) ?_); rintro e v1 ⟨rfl, rfl⟩)
    go_loopg [2] s.size (fun g s2 v => ∃ i : Nat, s2 = .bool false ∧ i + g = s.size ∧ v.heap[w.heap.size]? = some (.stringIter s i) ∧ Below w.heap.size w v ∧ nameF s (s.size + 1) i = r)
    case atStart => exact ⟨0, rfl, by omega, iter_new w s, below_iter w s 0, HF.out⟩
    case round =>
      obtain ⟨i, rfl, hg, hit, bw, hF⟩ := hrel
      clear HF KY
      have HF : Hid (nameF s (s.size + 1) i = r) := hF
      clear hF
      rcases Nat.lt_or_ge i s.size with hi | hi
      · have hnx : ∀ ty, (Instr.next (.pointer (some ⟨w.heap.size, 0, none⟩)) true ty).run Tryz.prog wr = .ok (.tuple #[.bool true, .int .i64 i, .int .i32 (nextR s i)]) (wr.iterAt w.heap.size s (i + nextN s i)) := fun ty => run_next_any_at wr w.heap.size s i ty hit hi
        have hi2 := iterAt_heap wr w.heap.size s i (i + nextN s i) hit
        have bw2 := below_iterAt bw (Nat.le_refl _) s (i + nextN s i)
        have hz := next_size hi
        have HS : Hid (nameF s (s.size + 1) i = if (kindI (nextR s i) ≠ 1 ∧ kindI (nextR s i) ≠ 2) ∨ (kindI (nextR s i) = 2 ∧ i = 0) then false else nameF s (s.size + 1) (i + nextN s i)) := nameF_step hi
        have K1 := fun v => sign_kind (nextR s i) _ rfl v
        have hk := kindI_range (nextR s i)
        have HZ : Hid (1 ≤ nextN s i ∧ i + nextN s i ≤ s.size) := ⟨hz.1, hz.2.2⟩
        generalize wr.iterAt w.heap.size s (i + nextN s i) = wi at *
        generalize kindI (nextR s i) = k at *
        generalize nextR s i = R at *
        generalize nextN s i = M at *
        clear hz hit bw hi
        rcases (by omega : ((k = 0 ∨ k = 3 ∨ k = 4) ∨ (k = 2 ∧ i = 0)) ∨ (k = 1 ∨ (k = 2 ∧ i ≠ 0))) with hA | hB
        · obtain rfl : r = false := by rw [← HF.out, HS.out, if_pos (by omega)]
          clear hk HS HF
          rcases hA with (rfl | rfl | rfl) | ⟨rfl, h0⟩
          all_goals
            (try (have e0 : ((i : Int) == 0) = true := by (rw [beq_iff_eq]; omega)); clear h0)
            go_wp2_with (go_at_call 78; (with_reducible refine Calls.mono (K1 _) ?_); rintro e v2 ⟨rfl, rfl⟩)
            go_ret
            exact ⟨rfl, bw2⟩
        · have HR : Hid (nameF s (s.size + 1) (i + M) = r) := by show _ = _; rw [← HF.out, HS.out, if_neg (by omega)]
          clear hk HS HF
          rcases hB with rfl | ⟨rfl, h0⟩
          all_goals
            (try (have e0 : ((i : Int) == 0) = false := by (rw [beq_eq_false_iff_ne]; omega)); clear h0)
            go_wp2_with (go_at_call 78; (with_reducible refine Calls.mono (K1 _) ?_); rintro e v2 ⟨rfl, rfl⟩)
            have hZ := HZ.out
            go_roundg (s.size - (i + M))
            case measure => omega
            case rel => exact ⟨i + M, rfl, by omega, hi2, bw2, HR.out⟩
      · have hnx : ∀ ty, (Instr.next (.pointer (some ⟨w.heap.size, 0, none⟩)) true ty).run Tryz.prog wr = .ok (.tuple #[.bool false]) wr := fun ty => run_next_end_at wr w.heap.size s i ty hit (by omega)
        obtain rfl : r = true := by rw [← HF.out, nameF_end (by omega)]
        clear HF hit
        go_wp2
        go_ret
        exact ⟨rfl, bw⟩
end Go.Proofs.YtbcfplaalepnbaaGreatDoor
namespace Go.Proofs.YtbcfplaalepnbaaGreatDoor
open Go.RowKit
theorem sign_nl (s : Bool) (m : Nat) : (s && decide (0 < nl m)) = decide (iv s m < 0) := by
  rw [iv_neg]
  congr 1
  rw [Bool.eq_iff_iff]; simp only [decide_eq_true_eq]
  constructor
  · intro h; rcases Nat.eq_zero_or_pos m with e | e
    · rw [e, nl_zero] at h; omega
    · exact e
  · exact nl_pos
set_option maxHeartbeats 2000000 in
theorem whole_signed (s : Bool) (a : Option Addr) (n c : Nat) (w : World) (r : Bool) (hr : (s && decide (0 < n)) = r) :
    Calls Tryz.prog 170 #[.bool s, .slice a n c] w fun e w' => e = .returned (.agg #[.bool r, .slice a n c]) ∧ Below w.heap.size w w' := by
  cases s
  case' false => obtain ⟨r', HR⟩ : ∃ r' : Bool, Hid (r = false) := ⟨false, by rw [← hr]; exact (rfl : false = false)⟩
  case' true => obtain ⟨r', HR⟩ : ∃ r' : Bool, Hid (r = decide (0 < n)) := ⟨false, by rw [← hr]; exact (rfl : decide (0 < n) = decide (0 < n))⟩
  all_goals
    clear hr
    have q := fun o => (Below.refl _ w).alloc (Nat.le_refl _) o
    go_enter Tryz.func170, Tryz.ntmps170
    go_wp2
    exact bodyPost_ret (v := .agg #[.bool r, .slice a n c]) (by simp [results, Tryz.results170, go_sem, HR.out]) rfl ⟨by rw [HR.out], q _⟩
set_option maxHeartbeats 2000000 in
theorem whole_of (n : Int) (w : World) (h0 : -9223372036854775808 ≤ n) (h1 : n < 9223372036854775808) :
    Calls Tryz.prog 160 #[.int .i64 n] w (AnsI w n) := by
  obtain ⟨b1, bV, hs⟩ := boxes1 w #[.bool false, .slice none 0 0] 82
  have e0 := iv_self n
  have G := fun v a1 c1 => whole_signed (decide (n < 0)) a1 (nl n.natAbs) c1 v _ (by rw [sign_nl (decide (n < 0)) n.natAbs, e0])
  clear e0
  rcases Int.lt_or_le n 0 with h | h
  case' inl =>
    have O := fun v => nat_of (-n) v (by omega) (by omega)
    have e1 : IntKind.u64.wrap n = n + 18446744073709551616 := by simp [IntKind.wrap, IntKind.bits, IntKind.signed]; omega
    have e2 : IntKind.u64.wrap (0 - (n + 18446744073709551616)) = -n := by simp [IntKind.wrap, IntKind.bits, IntKind.signed]; omega
    have e3 : IntKind.u64.wrap (-(n + 18446744073709551616)) = -n := by simp [IntKind.wrap, IntKind.bits, IntKind.signed]; omega
    rw [show (-n).toNat = n.natAbs by omega] at O
    unfold AnsI
    rw [decide_eq_true h] at G ⊢
    obtain ⟨r, hr⟩ : ∃ r : Bool, r = true := ⟨_, rfl⟩
  case' inr =>
    have O := fun v => nat_of n v (by omega) (by omega)
    have e1 : IntKind.u64.wrap n = n := by simp [IntKind.wrap, IntKind.bits, IntKind.signed]; omega
    rw [show n.toNat = n.natAbs by omega] at O
    unfold AnsI
    rw [decide_eq_false (by omega : ¬ n < 0)] at G ⊢
    obtain ⟨r, hr⟩ : ∃ r : Bool, r = false := ⟨_, rfl⟩
  all_goals
    unfold Ans at O
    generalize n.natAbs = N at O G ⊢
    go_enter Tryz.func160, Tryz.ntmps160
    go_wp2_with (first
      | (go_at_call 168; (with_reducible refine Calls.mono (O _) ?_); rintro e w1 ⟨a1, c1, rfl, o1⟩)
      | (go_at_call 170; (with_reducible refine Calls.mono (G _ _ _) ?_); rintro e w2 ⟨rfl, d2⟩; obtain ⟨y0, y1, g0, g1⟩ := ((b1.more o1.below).more d2).cells2))
    have q := fun x y => (((o1.more d2).above bV).set (k := w.heap.size) (by omega) hs 0 x).set (k := w.heap.size) (by omega) hs 1 y
    exact bodyPost_ret (v := .agg #[.bool r, .slice a1 (nl N) c1]) (by simp [results, Tryz.results160, go_sem, y0, y1, hr]) rfl ⟨a1, c1, by rw [hr], (q _ _).own (by omega)⟩
end Go.Proofs.YtbcfplaalepnbaaGreatDoor
namespace Go.Proofs.YtbcfplaalepnbaaGreatDoor
open Go.RowKit
def ParseOk : Prop := ∀ (s : ByteArray) (w : World), s.size ≤ maxLen → Calls Tryz.prog 161 #[.string s] w (AnsP w (pnum s.data.toList) (perr s.data.toList))
def PrintOk : Prop := ∀ {a : Option Addr} {n c : Nat} {zs : List Int} {w : World}, IsWords w (.slice a n c) zs → Wd zs → n ≤ 1000000 → ∀ N : Nat, val zs = N →
    Calls Tryz.prog 164 #[.slice a n c] w fun e w' => e = .returned (.string ⟨(decOf N).toArray⟩) ∧ Below w.heap.size w w'
def DigitsOk : Prop := ∀ {a : Option Addr} {n c : Nat} {zs : List Int} {w : World}, IsWords w (.slice a n c) zs → Wd zs → n ≤ 1000000 → ∀ N : Nat, val zs = N →
    Calls Tryz.prog 153 #[.slice a n c] w fun e w' => e = .returned (.int .i64 ((decOf N).length : Nat)) ∧ Below w.heap.size w w'
end Go.Proofs.YtbcfplaalepnbaaGreatDoor
namespace Go.Proofs.YtbcfplaalepnbaaGreatDoor
open Go.RowKit Go.Lib
theorem take_byte (s : ByteArray) (k : Nat) (h : k < s.size) : s.data.toList.take (k + 1) = s.data.toList.take k ++ [s[k]] := by
  rw [List.take_succ_eq_append_getElem (by simpa using h)]; rfl
theorem below_iterAt' {w wr : World} (hb : Below w.heap.size w wr) (s : ByteArray) (pos : Nat) : Below w.heap.size w (wr.iterAt w.heap.size s pos) := below_iterAt hb (Nat.le_refl w.heap.size) s pos
theorem deci_ways (s : ByteArray) (h : DigS s.data.toList) :
    ((s.toList == [48]) = false ∧ s.toList.isEmpty = true ∧ (Num s.data.toList ↔ False)) ∨ ((s.toList == [48]) = true ∧ (Num s.data.toList ↔ True)) ∨
    ((s.toList == [48]) = false ∧ s.toList.isEmpty = false ∧ ∃ h : 0 < s.size, ((s[0]'h).toNat : Int) = 48 ∧ (Num s.data.toList ↔ False)) ∨
    ((s.toList == [48]) = false ∧ s.toList.isEmpty = false ∧ ∃ h : 0 < s.size, ((s[0]'h).toNat : Int) ≠ 48 ∧ (Num s.data.toList ↔ True)) := by
  have hl : s.data.toList.length = s.size := by simp
  by_cases h0 : 0 < s.size
  · have hd := drop_byte s 0 h0
    rw [List.drop_zero] at hd
    have ht : s.toList = s[0] :: s.data.toList.drop (0 + 1) := by rw [ByteArray.toList_eq]; exact hd
    by_cases e : s.toList = [48]
    · refine .inr (.inl ⟨by rw [e]; rfl, ?_⟩)
      rw [ByteArray.toList_eq] at e
      rw [e]
      exact ⟨fun _ => trivial, fun _ => by decide⟩
    · have e1 : (s.toList == [48]) = false := by simpa using e
      have e2 : s.toList.isEmpty = false := by rw [ht]; rfl
      by_cases hc : ((s[0]'h0).toNat : Int) = 48
      · refine .inr (.inr (.inl ⟨e1, e2, h0, hc, ?_⟩))
        have h48 : s[0] = 48 := UInt8.toNat_inj.1 (by show s[0].toNat = 48; omega)
        refine ⟨fun hn => e ?_, False.elim⟩
        have := hn.2.2 (by rw [hd, h48]; rfl)
        rw [ht, h48, List.eq_nil_of_length_eq_zero (l := s.data.toList.drop (0 + 1)) (by rw [List.length_drop]; omega)]
      · refine .inr (.inr (.inr ⟨e1, e2, h0, hc, ?_⟩))
        refine ⟨fun _ => trivial, fun _ => ⟨by rw [hd]; simp, h, fun hh => ?_⟩⟩
        rw [hd] at hh
        have h48 : s[0] = 48 := Option.some.inj hh
        exact absurd (by rw [h48]; rfl) hc
  · have e : s.data.toList = [] := List.eq_nil_of_length_eq_zero (by omega)
    have ht : s.toList = [] := by rw [ByteArray.toList_eq]; exact e
    exact .inl ⟨by rw [ht]; rfl, by rw [ht]; rfl, fun hn => hn.1 e, False.elim⟩
set_option maxHeartbeats 4000000 in
theorem deci_isNumber (s : ByteArray) (w : World) (hs : s.size ≤ 1000) (b : Bool) (hb : (b = true ↔ Num s.data.toList)) :
    Calls Tryz.prog 174 #[.string s] w fun e w' => e = .returned (.bool b) ∧ Below w.heap.size w w' := by
  have HB : Hid (b = true ↔ Num s.data.toList) := hb
  have HS : Hid (s.data.toList.length = s.size ∧ s.size ≤ 1000) := ⟨by simp, hs⟩
  clear hb hs
  go_enter Tryz.func174, Tryz.ntmps174
  go_wp2
  go_loopg [4] s.size (fun k s4 v => ∃ (pos : Nat), pos + k = s.size ∧ v.heap[w.heap.size]? = some (.stringIter s pos) ∧ Below w.heap.size w v ∧ DigS (s.data.toList.take pos))
  case atStart => exact ⟨0, by omega, iter_new w s, below_iter w s 0, by rw [List.take_zero]; intro c hc; cases hc⟩
  case round =>
    obtain ⟨pos, hk, hit, bw, hd⟩ := hrel
    have HD : Hid (DigS (s.data.toList.take pos)) := hd
    cases gk with
    | zero =>
      have e : s.data.toList.take pos = s.data.toList := List.take_of_length_le (by rw [HS.out.1]; omega)
      rw [e] at hd
      have hnx : ∀ ty, (Instr.next (.pointer (some ⟨w.heap.size, 0, none⟩)) true ty).run Tryz.prog wr = _ := fun ty => run_next_end_at wr w.heap.size s pos ty hit (by omega)
      have HD2 : Hid (DigS s.data.toList) := hd
      clear e hd HD hit hk
      rcases deci_ways s HD2.out with ⟨c1, c2, c3⟩ | ⟨c1, c3⟩ | ⟨c1, c2, c0, c4, c3⟩ | ⟨c1, c2, c0, c4, c3⟩
      all_goals
        have HC : Hid (b = true ↔ _) := HB.out.trans c3
        clear c3
        go_wp2
        go_ret
        exact ⟨ret_bool (by rw [Bool.eq_iff_iff, HC.out]; first | (simp; done) | simpa using c4), bw⟩
    | succ k =>
      have hp : pos < s.size := by omega
      by_cases hdig : 48 ≤ (s[pos].toNat : Int) ∧ (s[pos].toNat : Int) ≤ 57
      · obtain ⟨c0, c1⟩ := hdig
        have hnx : ∀ ty, (Instr.next (.pointer (some ⟨w.heap.size, 0, none⟩)) true ty).run Tryz.prog wr = _ := fun ty => run_next_ascii_at wr w.heap.size s pos ty hit hp (by omega)
        have HD2 : Hid (DigS (s.data.toList.take (pos + 1))) := by
          show DigS _
          rw [take_byte s pos hp, digS_append, digS_one]; exact ⟨hd, by omega⟩
        have hi2 := iterAt_heap wr w.heap.size s pos (pos + 1) hit
        have hbl := below_iterAt' bw s (pos + 1)
        generalize wr.iterAt w.heap.size s (pos + 1) = wi at hnx hi2 hbl
        clear hd HD hit
        go_wp2
        go_roundg k
        case measure => omega
        case rel => exact ⟨pos + 1, by omega, hi2, hbl, HD2.out⟩
      · have hn : ¬ Num s.data.toList := fun hN => hdig (by have := hN.2.1 s[pos] (by rw [← List.take_append_drop pos s.data.toList, drop_byte s pos hp]; simp); omega)
        have hbf : b = false := by
          cases b with
          | false => rfl
          | true => exact absurd (HB.out.1 rfl) hn
        have HQ : Hid (b = false) := hbf
        have hdec := decode_not hp (a := 48) (b := 57) (by omega) (by omega)
        have hnx : ∀ ty, (Instr.next (.pointer (some ⟨w.heap.size, 0, none⟩)) true ty).run Tryz.prog wr = _ := fun ty => run_next_any_at wr w.heap.size s pos ty hit hp
        have hbl := below_iterAt' bw s (pos + (Utf8.decode s pos).2)
        generalize wr.iterAt w.heap.size s (pos + (Utf8.decode s pos).2) = wi at hnx hbl
        generalize (Utf8.decode s pos).1 = r at hnx hdec
        clear hd HD hit hn hbf hdig
        rcases (by omega : (r : Int) < 48 ∨ (¬ (r : Int) < 48 ∧ 57 < (r : Int))) with d0 | ⟨d0, d1⟩
        all_goals
          clear hdec
          go_wp2
          go_ret
          exact ⟨by rw [HQ.out]; rfl, hbl⟩
set_option maxHeartbeats 4000000 in
theorem deci_parse : ParseOk := by
  intro s w hs
  unfold maxLen at hs
  have hsz : s.data.toList.length = s.size := by simp
  by_cases h1 : 1000 < s.size
  · rw [pnum_long (by omega), perr_long (by omega)]
    clear hsz
    go_enter Tryz.func161, Tryz.ntmps161
    go_wp2
    go_ret2
    exact ansP_no (Below.refl _ _)
  have h1' : ¬ (1000 : Int) < (s.size : Int) := by omega
  by_cases hn : Num s.data.toList
  case neg =>
    rw [pnum_no hn, perr_no (by omega) hn]
    have N1 := fun v => deci_isNumber s v (by omega) false (by simpa using hn)
    clear hsz hs hn
    go_enter Tryz.func161, Tryz.ntmps161
    go_wp2_with (go_at_call 174; (with_reducible refine Calls.mono (N1 _) ?_); rintro e w1 ⟨rfl, b1⟩)
    go_ret2
    exact ansP_no b1
  case pos =>
    rw [pnum_ok (by omega) hn, perr_ok (by omega) hn]
    have N1 := fun v => deci_isNumber s v (by omega) true (by simpa using hn)
    have HN : Hid (DigS s.data.toList ∧ s.data.toList.length = s.size) := ⟨hn.2.1, hsz⟩
    clear hsz hs hn
    go_enter Tryz.func161, Tryz.ntmps161
    go_wp2_with (go_at_call 174; (with_reducible refine Calls.mono (N1 _) ?_); rintro e w1 ⟨rfl, b1⟩)
    clear N1
    go_loopg [4, 6] s.size (fun k s4 s6 v => ∃ (pos : Nat) (a4 : Option Addr) (n4 c4 : Nat), pos + k = s.size ∧ v.heap[w1.heap.size]? = some (.stringIter s pos) ∧ s4 = .slice a4 n4 c4 ∧ n4 = nl (valD (s.data.toList.take pos)) ∧ Own w v (.slice a4 n4 c4) n4 (natOf (valD (s.data.toList.take pos))))
    case atStart =>
      refine ⟨0, none, 0, 0, by omega, iter_new w1 s, rfl, ?_, ?_⟩
      · rw [List.take_zero, valD_nil, nl_zero]
      · rw [List.take_zero, valD_nil, natOf_zero]; exact Own.nil (below_more b1 (below_iter w1 s 0))
    case round =>
      obtain ⟨pos, a4, n4, c4, hk, hit, rfl, e4, o4⟩ := hrel
      cases gk with
      | zero =>
        have e : s.data.toList.take pos = s.data.toList := List.take_of_length_le (by rw [HN.out.2]; omega)
        rw [e] at e4 o4
        subst e4
        have hnx : ∀ ty, (Instr.next (.pointer (some ⟨w1.heap.size, 0, none⟩)) true ty).run Tryz.prog wr = _ := fun ty => run_next_end_at wr w1.heap.size s pos ty hit (by omega)
        clear e hit hk
        go_wp2
        go_ret2
        exact ⟨_, _, rfl, o4⟩
      | succ k =>
        have hp : pos < s.size := by omega
        have hsize : w.heap.size ≤ w1.heap.size := b1.size
        have hdig := HN.out.1 s[pos] (by rw [← List.take_append_drop pos s.data.toList, drop_byte s pos hp]; simp)
        have c0 : 48 ≤ (s[pos].toNat : Int) := by omega
        have c1 : (s[pos].toNat : Int) ≤ 57 := by omega
        have hd : DigS (s.data.toList.take pos) := fun c hc => HN.out.1 c (List.mem_of_mem_take hc)
        have hnx : ∀ ty, (Instr.next (.pointer (some ⟨w1.heap.size, 0, none⟩)) true ty).run Tryz.prog wr = _ := fun ty => run_next_ascii_at wr w1.heap.size s pos ty hit hp (by omega)
        have b4 := nl_digits hd
        have hlen := List.length_take_le pos s.data.toList
        have O1 := fun v (p : IsWords v (.slice a4 n4 c4) (natOf (valD (s.data.toList.take pos)))) => times_one' p (wd_natOf _) (x := 10) (y := (s[pos].toNat : Int) - 48) (by omega) (by omega) (by omega) (by omega) (by omega) (valD (s.data.toList.take (pos + 1))) (by rw [val_natOf, take_byte s pos hp, valD_snoc, show (10 : Int).toNat = 10 from rfl]; omega)
        unfold Ans at O1
        generalize valD (s.data.toList.take pos) = K1 at e4 o4 b4 O1
        generalize hK2 : valD (s.data.toList.take (pos + 1)) = K2 at O1
        have HK : Hid (valD (s.data.toList.take (pos + 1)) = K2) := hK2
        have oi := o4.iterAt hit hsize (pos + 1)
        have hi2 := iterAt_heap wr w1.heap.size s pos (pos + 1) hit
        generalize wr.iterAt w1.heap.size s (pos + 1) = wi at hnx oi hi2
        clear hK2 hd b4 e4 hit hlen hdig
        go_wp2_with (go_at_call 175; (with_reducible refine Calls.mono (O1 _ oi.words) ?_); rintro e w2 ⟨a6, c6, rfl, o6⟩)
        have k2 := HK.out
        go_roundg k
        case measure => omega
        case rel => exact ⟨pos + 1, _, _, _, by omega, iter_more hi2 o6.below, rfl, by rw [k2], by rw [k2]; exact o6.outer oi.below⟩
end Go.Proofs.YtbcfplaalepnbaaGreatDoor
namespace Go.Proofs.YtbcfplaalepnbaaGreatDoor
def pad : Nat → Nat → List UInt8
  | 0, _ => []
  | k + 1, g => pad k (g / 10) ++ [UInt8.ofNat (48 + g % 10)]
theorem pad_len (k g : Nat) : (pad k g).length = k := by
  induction k generalizing g with
  | zero => rfl
  | succ k ih => rw [pad, List.length_append, ih, List.length_singleton]
theorem digS_pad (k g : Nat) : DigS (pad k g) := by
  induction k generalizing g with
  | zero => intro c hc; cases hc
  | succ k ih => rw [pad, digS_append, digS_one, digit_nat]; exact ⟨ih _, by omega⟩
theorem valD_pad (k g : Nat) : valD (pad k g) = g % 10 ^ k := by
  induction k generalizing g with
  | zero => rw [Nat.pow_zero, Nat.mod_one]; rfl
  | succ k ih =>
    rw [pad, valD_snoc, ih, digit_nat, Nat.pow_succ, Nat.mul_comm (10 ^ k) 10, Nat.mod_mul]
    omega
theorem valD_group (l : List UInt8) {k g : Nat} (h : g < 10 ^ k) : valD (l ++ pad k g) = valD l * 10 ^ k + g := by
  rw [valD_append, pad_len, valD_pad, Nat.mod_eq_of_lt h]
theorem trim_dg {l : List UInt8} (h : DigS l) : l.dropWhile (· == 48) = dg (valD l) := by
  induction l with
  | nil => rw [valD_nil, dg_zero]; rfl
  | cons c l ih =>
    obtain ⟨hc, hl⟩ := digS_cons.1 h
    by_cases e : c = 48
    · subst e
      rw [List.dropWhile_cons_of_pos (by decide), ih hl, valD_cons]
      congr 1
      simp
    · rw [List.dropWhile_cons_of_neg (by simpa using e)]
      exact (dg_valD h (by simpa using e)).symm
theorem told_step (N B j : Nat) : N / B ^ (j + 1) * B + N / B ^ j % B = N / B ^ j := by
  rw [Nat.pow_succ, ← Nat.div_div_eq_div_mul]
  have := Nat.div_add_mod (N / B ^ j) B
  rw [Nat.mul_comm] at this
  exact this
end Go.Proofs.YtbcfplaalepnbaaGreatDoor
namespace Go.Proofs.YtbcfplaalepnbaaGreatDoor
open Go.RowKit
def Grps (N m : Nat) (zs : List Int) : Prop := zs.length = m ∧ ∀ i, i < m → zs.getD i 0 = ((N / 1000000000 ^ i % 1000000000 : Nat) : Int)
theorem grps_nil (N : Nat) : Grps N 0 [] := ⟨rfl, fun i h => absurd h (Nat.not_lt_zero i)⟩
theorem grps_more {N m : Nat} {zs : List Int} (h : Grps N m zs) : Grps N (m + 1) (zs ++ [((N / 1000000000 ^ m % 1000000000 : Nat) : Int)]) := by
  refine ⟨by rw [List.length_append, h.1, List.length_singleton], fun i hi => ?_⟩
  rcases Nat.lt_or_ge i m with h1 | h1
  · rw [List.getD_eq_getElem?_getD, List.getElem?_append_left (by rw [h.1]; exact h1), ← List.getD_eq_getElem?_getD]; exact h.2 i h1
  · obtain rfl : i = m := by omega
    rw [List.getD_eq_getElem?_getD, List.getElem?_append_right (by rw [h.1]; exact Nat.le_refl _), h.1, Nat.sub_self]; rfl
theorem grps_few {N m : Nat} (h : 0 < N / 1000000000 ^ m) : m < 2 * nl N := by
  have h1 : 1000000000 ^ m ≤ N := by
    rcases Nat.lt_or_ge N (1000000000 ^ m) with h2 | h2
    · rw [Nat.div_eq_of_lt h2] at h; omega
    · exact h2
  have h2 : 65536 ^ m ≤ 1000000000 ^ m := Nat.pow_le_pow_left (by omega) m
  have h3 := lt_nl N
  have h4 : 4294967296 ^ nl N = 65536 ^ (2 * nl N) := by rw [Nat.pow_mul]
  rw [h4] at h3
  exact (Nat.pow_lt_pow_iff_right (by omega : 1 < 65536)).1 (by omega)
set_option maxHeartbeats 4000000 in
theorem deci_groups {a : Option Addr} {n c : Nat} {zs : List Int} {w : World} (h : IsWords w (.slice a n c) zs) (hz : Wd zs) (hn : n ≤ 1000000) (N : Nat) (hN : val zs = N) :
    Calls Tryz.prog 181 #[.slice a n c] w fun e w' => ∃ (a' : Option Addr) (m c' : Nat) (ys : List Int), e = .returned (.slice a' m c') ∧ Own w w' (.slice a' m c') m ys ∧ Grps N m ys ∧ N < 1000000000 ^ m ∧ m ≤ 2000000 := by
  have lN : nl N ≤ 1000000 := by rw [← hN]; exact nl_small hz _ (by rw [h.len]; exact hn)
  have HL : Hid (nl N ≤ 1000000) := lN
  have HI : Hid (IsWords w (.slice a n c) zs ∧ Wd zs ∧ n ≤ 1000000 ∧ val zs = N) := ⟨h, hz, hn, hN⟩
  clear h hz hn hN lN
  go_enter Tryz.func181, Tryz.ntmps181
  go_wp2
  go_loopg [0, 3] N (fun X s0 s3 v => ∃ (a0 : Option Addr) (n0 c0 : Nat) (xs : List Int) (a3 : Option Addr) (m c3 : Nat) (ys : List Int), s0 = .slice a0 n0 c0 ∧ s3 = .slice a3 m c3 ∧ IsWords v (.slice a0 n0 c0) xs ∧ Wd xs ∧ n0 ≤ 1000000 ∧ val xs = X ∧ Own w v (.slice a3 m c3) m ys ∧ Grps N m ys ∧ X = N / 1000000000 ^ m ∧ m ≤ 2000000)
  case atStart =>
    obtain ⟨i1, i2, i3, i4⟩ := HI.out
    exact ⟨_, _, _, zs, none, 0, 0, [], rfl, rfl, i1, i2, i3, i4, Own.nil (Below.refl _ _), grps_nil N, by simp, by omega⟩
  case round =>
    obtain ⟨a0, n0, c0, xs, a3, m, c3, ys, rfl, rfl, i0, hw, hn0, hX, o3, hg, hX2, hm⟩ := hrel
    clear HI
    have B1 := fun (N1 : Int) (e : (nbits (val xs) : Int) = N1) => nat_bits' i0 hw (by omega) N1 e
    rw [hX] at B1
    rcases Nat.eq_zero_or_pos gk with h0 | h0
    · subst h0
      have B2 := B1 0 (by rw [nbits_zero]; rfl)
      have HQ : Hid (N < 1000000000 ^ m) := by
        show N < _
        rcases Nat.lt_or_ge N (1000000000 ^ m) with h2 | h2
        · exact h2
        · have := Nat.div_pos h2 (Nat.pow_pos (by omega)); omega
      clear B1 hX2 hX i0 hw
      go_wp2_with (go_at_call 171; (with_reducible refine Calls.mono B2 ?_); rintro e w1 ⟨rfl, rfl⟩)
      go_ret
      exact ⟨_, _, _, ys, rfl, o3, hg, HQ.out, hm⟩
    · obtain ⟨nb, hnb, nb0⟩ : ∃ nb : Int, (nbits gk : Int) = nb ∧ 0 < nb := ⟨_, rfl, by rw [nbits_pos (by omega)]; omega⟩
      have B2 := B1 nb hnb
      have S := split_small a0 n0 c0 xs 1000000000 wr i0 hw (by omega) (by omega) (by omega)
      rw [hX, show (1000000000 : Int).toNat = 1000000000 from rfl] at S
      unfold AnsSmall at S
      have hlt : m < 2 * nl N := grps_few (by rw [← hX2]; exact h0)
      obtain ⟨r, hr⟩ : ∃ r : Int, ((gk % 1000000000 : Nat) : Int) = r := ⟨_, rfl⟩
      have HG : Hid (Grps N (m + 1) (ys ++ [r])) := by
        show Grps N (m + 1) _
        rw [← hr, hX2]; exact grps_more hg
      have HX : Hid (gk / 1000000000 = N / 1000000000 ^ (m + 1)) := by
        show _ = _
        rw [hX2, Nat.pow_succ, Nat.div_div_eq_div_mul]
      have HM : Hid (m + 1 ≤ 2000000 ∧ nl (gk / 1000000000) ≤ 1000000 ∧ 0 < gk) := ⟨by have := HL.out; omega, Nat.le_trans (nl_mono (Nat.le_trans (Nat.div_le_self _ _) (by rw [hX2]; exact Nat.div_le_self _ _))) HL.out, h0⟩
      have hm1 : m + 1 ≤ 35184372088832 := by omega
      rw [hr] at S
      clear B1 hX2 hX i0 hw hg hr hnb hn0 h0 hlt hm
      go_wp2_with (first
        | (go_at_call 171; (with_reducible refine Calls.mono B2 ?_); rintro e w1 ⟨rfl, rfl⟩)
        | (go_at_call 198; (with_reducible refine Calls.mono S ?_); rintro e w2 ⟨a4, c4, rfl, o4⟩; have o5 := o3.more o4.below)
        | (at_builtin; refine wpl_append_words (.tmp 14) (.tmp 16) rfl rfl w _ _ _ m 1 ys [r] rfl rfl (o5.alloc _) (lit_words w2 [r] 1 rfl (by decide)) rfl (m + 1) rfl hm1 ?_; intro a6 c6 w6 o6 g6))
      obtain ⟨m1, m2, m3⟩ := HM.out
      go_roundg (gk / 1000000000)
      case measure => omega
      case rel =>
        have r4 : Row wr.heap.size w6 (.slice a4 (nl (gk / 1000000000)) c4) (nl (gk / 1000000000)) (natOf (gk / 1000000000)) := ((o4.alloc _).row (Nat.le_refl _)).grown g6 (fun k hk => o3.row_lt k hk)
        exact ⟨_, _, _, _, _, _, _, _, rfl, rfl, r4.words, wd_natOf _, m2, val_natOf _, o6, HG.out, HX.out, m1⟩
end Go.Proofs.YtbcfplaalepnbaaGreatDoor
namespace Go.Proofs.YtbcfplaalepnbaaGreatDoor
open Go.RowKit
theorem infoU8 : (Tryz.prog.info? 5).map (fun i => (i.zero, i.size, i.bytes)) = some (some (.int .u8 0), 1, 1) := by kernel_rfl
def RowB (n₀ : Nat) (w : World) (v : Value) (n : Nat) (bs : List UInt8) : Prop := w.ownsRow n₀ 5 1 v n (bs.map fun b => Value.int .u8 (b.toNat : Int))
theorem RowB.length {w : World} {v : Value} {n : Nat} {bs : List UInt8} {n₀ : Nat} (h : RowB n₀ w v n bs) : bs.length = n := by
  have := h.1; simpa using this
theorem RowB.nil (n₀ : Nat) (w : World) : RowB n₀ w (.slice none 0 0) 0 [] := World.ownsRow_nil _ _ _ _
theorem RowB.more {w w' : World} {v : Value} {n : Nat} {bs : List UInt8} {n₀ : Nat} (h : RowB n₀ w v n bs) (hb : Below w.heap.size w w') : RowB n₀ w' v n bs := by
  refine ⟨h.1, ?_⟩
  rcases h.2 with h0 | ⟨g, cap, cur, e, h1, hg, h2⟩
  · exact .inl h0
  · refine .inr ⟨g, cap, cur, e, h1, ?_, h2⟩
    rw [hb.block g (Array.getElem?_eq_some_iff.1 hg).1]; exact hg
theorem RowB.keep {w w' : World} {v : Value} {n : Nat} {bs : List UInt8} {n₀ : Nat} (h : RowB n₀ w v n bs) (hb : ∀ k, n₀ ≤ k → w'.heap[k]? = w.heap[k]?) : RowB n₀ w' v n bs := by
  refine ⟨h.1, ?_⟩
  rcases h.2 with h0 | ⟨g, cap, cur, e, h1, hg, h2⟩
  · exact .inl h0
  · exact .inr ⟨g, cap, cur, e, h1, (hb g h1).trans hg, h2⟩
theorem RowB.alloc {w : World} {v : Value} {n : Nat} {bs : List UInt8} {n₀ : Nat} (h : RowB n₀ w v n bs) (o : Obj) : RowB n₀ (w.alloc o) v n bs := World.ownsRow.alloc h o
theorem RowB.lit {w : World} {v : Value} {n : Nat} {bs : List UInt8} {n₀ : Nat} (h : RowB n₀ w v n bs) : ∃ a c, v = .slice a n c := by
  rcases h.2 with ⟨rfl, rfl⟩ | ⟨g, cap, cur, rfl, -⟩
  · exact ⟨none, 0, rfl⟩
  · exact ⟨_, _, rfl⟩
theorem RowB.cell {w : World} {a : Option Addr} {n c : Nat} {bs : List UInt8} {n₀ : Nat} (h : RowB n₀ w (.slice a n c) n bs) : (a = none ∧ bs = []) ∨ ∃ g, a = some ⟨g, 0, none⟩ ∧ ∀ j (hj : j < bs.length), w.cell? ((⟨g, 0, none⟩ : Addr).add j) = some (.int .u8 (bs[j].toNat : Int)) := by
  have hl := h.length
  rcases h.2 with ⟨e, h0⟩ | ⟨g, cap, cur, e, h1, h2⟩
  · simp only [Value.slice.injEq] at e
    exact .inl ⟨e.1, List.eq_nil_of_length_eq_zero (by omega)⟩
  · simp only [Value.slice.injEq] at e
    obtain ⟨rfl, -, -⟩ := e
    refine .inr ⟨g, rfl, fun j hj => ?_⟩
    refine World.ownsRow.cells h (g := g) rfl j _ ?_
    simp [hj]
theorem wpl_append_byte {ops : Array Oper} {rest : List Oper} {o : Oper} {a : Act} {Q : Exit → Act → World → Prop} (s x : Operand)
    (ho : o.op = .call { callee := .builtin .append, args := #[s, x], argTypes := #[129, 129] }) (hgd : Region.wanted o (yielded ops a.tmps) = true)
    (n₀ : Nat) (w : World) (v : Value) (n : Nat) (bs : List UInt8) (b : UInt8) (z : Int) (hz : (b.toNat : Int) = z) (hs : a.eval s = v) (hx : a.eval x = .slice (some ⟨w.heap.size, 0, none⟩) 1 1) (hrow : RowB n₀ w v n bs) (h0 : n₀ ≤ w.heap.size) (N : Nat) (hN : n + 1 = N) (hle : N ≤ 35184372088832)
    (h : ∀ a' c' w', RowB n₀ w' (.slice a' N c') N (bs ++ [b]) → Below n₀ w w' → wpList Tryz.prog ops Q rest (a.put o.dst (.slice a' N c')) w') : wpList Tryz.prog ops Q (o :: rest) a (w.alloc (.cells #[.int .u8 z] 5)) := by
  subst hN
  subst hz
  obtain ⟨i, hi, hz, hs1, hby⟩ := info_parts infoU8
  have hmax : n + 1 ≤ maxLen := by unfold maxLen; omega
  refine wpList_step fun K hK => ?_
  rw [if_pos hgd]
  refine wp_append_own (P := Tryz.prog) _ s x 129 ho n₀ 5 i (.int .u8 0) 1 1 Tryz.underlying129 hi hz hs1 hby rfl (by decide) v n _ hs (hrow.alloc _) ⟨w.heap.size, 0, none⟩ 1 1 [.int .u8 (b.toNat : Int)] hx rfl ?_ (by intro u hu; simp at hu; subst hu; rfl) (by omega) (by omega) (by simp; omega) ?_
  · intro j u hj
    rw [Go.WideShapes.add_plain]
    have : j = 0 := by
      have := (List.getElem?_eq_some_iff.1 hj).1
      simp at this; exact this
    subst this
    simp at hj
    subst hj
    simp
  · intro v' w' h1 h2 _
    have hb : Below n₀ w w' := by
      refine ((Below.refl n₀ w).alloc h0 _).grown h2 (by simp; omega) (fun k hk => ?_)
      exact (World.ownsRow.lt (hrow.alloc (.cells #[.int .u8 (b.toNat : Int)] 5)) k hk).1
    have hnew : RowB n₀ w' v' (n + 1) (bs ++ [b]) := by unfold RowB; rw [List.map_append]; exact h1
    obtain ⟨a', c', rfl⟩ := hnew.lit
    exact hK _ _ (h a' c' w' hnew hb)
end Go.Proofs.YtbcfplaalepnbaaGreatDoor
namespace Go.Proofs.YtbcfplaalepnbaaGreatDoor
open Go.RowKit
theorem pad_next (g t : Nat) (ht : t < 9) : pad (9 - t) (g / 10 ^ t) = pad (9 - (t + 1)) (g / 10 ^ (t + 1)) ++ [UInt8.ofNat (48 + g / 10 ^ t % 10)] := by
  rw [show 9 - t = (9 - (t + 1)) + 1 by omega, pad, Nat.pow_succ, Nat.div_div_eq_div_mul]
set_option maxHeartbeats 4000000 in
theorem deci_appendGroup (n₀ : Nat) (a : Option Addr) (n c : Nat) (bs : List UInt8) (g : Int) (w : World) (h : RowB n₀ w (.slice a n c) n bs) (h0 : n₀ ≤ w.heap.size) (hn : n ≤ 1000000000) (g0 : 0 ≤ g) (g1 : g < 4294967296) :
    Calls Tryz.prog 182 #[.slice a n c, .int .u32 g] w fun e w' => ∃ (a' : Option Addr) (c' : Nat), e = .returned (.slice a' (n + 9) c') ∧ RowB n₀ w' (.slice a' (n + 9) c') (n + 9) (bs ++ pad 9 g.toNat) ∧ Below n₀ w w' := by
  have HI : Hid (RowB n₀ w (.slice a n c) n bs ∧ n₀ ≤ w.heap.size ∧ n ≤ 1000000000) := ⟨h, h0, hn⟩
  clear h h0 hn
  go_enter Tryz.func182, Tryz.ntmps182
  go_wp2
  go_loopg [0, 5] 9 (fun k s0 s5 v => ∃ (a0 : Option Addr) (m c0 : Nat), k ≤ 9 ∧ s0 = .slice a0 m c0 ∧ s5 = .int .u32 ((10 ^ k / 10 : Nat) : Int) ∧ m + k = n + 9 ∧ RowB n₀ v (.slice a0 m c0) m (bs ++ pad (9 - k) (g.toNat / 10 ^ k)) ∧ Below n₀ w v)
  case atStart =>
    obtain ⟨i1, i2, i3⟩ := HI.out
    refine ⟨a, n, c, Nat.le_refl _, rfl, rfl, rfl, ?_, Below.refl _ _⟩
    rw [Nat.sub_self]
    simpa [pad] using i1
  case round =>
    obtain ⟨a0, m, c0, hk, rfl, rfl, hm, r0, b0⟩ := hrel
    cases gk with
    | zero =>
      obtain rfl : m = n + 9 := by omega
      rw [Nat.sub_zero, Nat.pow_zero, Nat.div_one] at r0
      rw [show ((10 ^ 0 / 10 : Nat) : Int) = 0 from rfl]
      clear hm hk
      go_wp2
      go_ret
      exact ⟨_, _, rfl, r0, b0⟩
    | succ t =>
      have hn2 := HI.out.2.2
      have hpt : 10 ^ (t + 1) / 10 = 10 ^ t := by rw [Nat.pow_succ]; omega
      have hp1 : 10 ^ t ≤ 10 ^ 8 := Nat.pow_le_pow_right (by omega) (by omega)
      have hp0 : 0 < 10 ^ t := Nat.pow_pos (by omega)
      have HP := pad_next g.toNat t (by omega)
      have HU : Hid (((10 ^ t / 10 : Nat) : Int) = ((10 ^ t : Nat) : Int) / 10) := by show _ = _; rw [Int.natCast_ediv]; rfl
      rw [hpt]
      have e1 : ((g.toNat / 10 ^ t % 10 : Nat) : Int) = g / ((10 ^ t : Nat) : Int) % 10 := by
        rw [Int.natCast_emod, Int.natCast_ediv, Int.toNat_of_nonneg g0]; rfl
      have hd : ((UInt8.ofNat (48 + g.toNat / 10 ^ t % 10)).toNat : Int) = 48 + g / ((10 ^ t : Nat) : Int) % 10 := by rw [digit_nat, ← e1]; omega
      generalize UInt8.ofNat (48 + g.toNat / 10 ^ t % 10) = b at HP hd
      have HP2 : Hid (pad (9 - t) (g.toNat / 10 ^ t) = pad (9 - (t + 1)) (g.toNat / 10 ^ (t + 1)) ++ [b]) := HP
      have u1 : ((10 ^ t : Nat) : Int) ≤ 100000000 := by
        have : (10 : Nat) ^ 8 = 100000000 := rfl
        omega
      have u0 : 0 < ((10 ^ t : Nat) : Int) := by omega
      generalize ((10 ^ t : Nat) : Int) = u at u0 u1 hd HU
      have hsz := Nat.le_trans HI.out.2.1 b0.size
      generalize hl : bs ++ pad (9 - (t + 1)) (g.toNat / 10 ^ (t + 1)) = l at r0
      have HL : Hid (bs ++ pad (9 - (t + 1)) (g.toNat / 10 ^ (t + 1)) = l) := hl
      have q0 : 0 ≤ g / u := Int.ediv_nonneg g0 (by omega)
      have q1 : g / u ≤ g := Int.ediv_le_self _ g0
      clear hpt hp1 hp0 HP e1 hl HI
      have hm1 : m + 1 ≤ 35184372088832 := by omega
      go_wp2_with (at_builtin; refine wpl_append_byte (.tmp 10) (.tmp 17) rfl rfl n₀ wr _ m l b (48 + g / u % 10) hd rfl rfl r0 hsz (m + 1) rfl hm1 ?_; intro a6 c6 w6 r6 b6)
      go_roundg t
      case measure => omega
      case rel => exact ⟨_, _, _, by omega, rfl, by rw [HU.out], by omega, by rw [HP2.out, ← List.append_assoc, HL.out]; exact r6, b0.trans b6⟩
end Go.Proofs.YtbcfplaalepnbaaGreatDoor
namespace Go.Proofs.YtbcfplaalepnbaaGreatDoor
open Go.RowKit
theorem extract_tl (t : ByteArray) (b : UInt8) (l : List UInt8) (h : t.data.toList = b :: l) : (t.extract 1 t.size).data.toList = l := by
  have hl := congrArg List.length h
  have : t.size = l.length + 1 := by simpa using hl
  rw [ByteArray.data_extract, Array.toList_extract, List.extract_eq_take_drop, h]
  simp [this]
set_option maxHeartbeats 2000000 in
theorem trim_byte (s : ByteArray) (w : World) (hs : s.size ≤ maxLen) :
    Calls Tryz.prog 199 #[.string s, .int .u8 48] w fun e w' => e = .returned (.string ⟨(s.data.toList.dropWhile (· == 48)).toArray⟩) ∧ w = w' := by
  obtain ⟨L, hL⟩ : ∃ L, s.data.toList.dropWhile (· == 48) = L := ⟨_, rfl⟩
  rw [hL]
  have HL : Hid (s.data.toList.dropWhile (· == 48) = L ∧ s.size ≤ maxLen) := ⟨hL, hs⟩
  clear hL hs
  go_enter Tryz.func199, Tryz.ntmps199
  go_wp2
  go_loopg [0] s.size (fun k s0 v => ∃ t : ByteArray, s0 = .string t ∧ t.size = k ∧ k ≤ maxLen ∧ t.data.toList.dropWhile (· == 48) = L ∧ w = v)
  case atStart => exact ⟨s, rfl, rfl, HL.out.2, HL.out.1, rfl⟩
  case round =>
    obtain ⟨t, rfl, hk, hm, ht, rfl⟩ := hrel
    have hsz : t.data.toList.length = t.size := by simp
    cases gk with
    | zero =>
      have HQ : Hid (L = t.data.toList) := by
        show _ = _
        rw [← ht, List.eq_nil_of_length_eq_zero (hsz.trans hk)]; rfl
      clear hsz ht HL
      go_wp2
      go_ret
      exact ⟨by rw [HQ.out, mk_data]; rfl, rfl⟩
    | succ k =>
      have h0 : 0 < t.size := by omega
      have hd := drop_byte t 0 h0
      rw [List.drop_zero] at hd
      unfold maxLen at hm
      by_cases hc : (t[0].toNat : Int) = 48
      · have h48 : t[0] = 48 := UInt8.toNat_inj.1 (by show t[0].toNat = 48; omega)
        have e1 := extract_tl t _ _ hd
        have HQ : Hid ((t.extract 1 t.size).size = k ∧ k ≤ maxLen ∧ (t.extract 1 t.size).data.toList.dropWhile (· == 48) = L) := by
          refine ⟨?_, by unfold maxLen; omega, ?_⟩
          · rw [ByteArray.size_extract]; omega
          · rw [e1, ← ht, hd, h48]; rfl
        clear ht hd h48 hsz e1 HL
        rw [hk] at HQ
        go_wp2
        go_roundg k
        case measure => omega
        case rel => exact ⟨_, rfl, HQ.out.1, HQ.out.2.1, HQ.out.2.2, rfl⟩
      · have h48 : t[0] ≠ 48 := fun e => hc (by rw [e]; rfl)
        have HQ : Hid (L = t.data.toList) := by
          show _ = _
          rw [← ht, hd, List.dropWhile_cons_of_neg (by simpa using h48)]
        clear ht hd h48 hsz HL
        go_wp2
        go_ret
        exact ⟨by rw [HQ.out, mk_data]; rfl, rfl⟩
set_option maxHeartbeats 2000000 in
set_option maxRecDepth 100000 in
theorem trim_left (s : ByteArray) (w : World) (hs : s.size ≤ maxLen) :
    Calls Tryz.prog 183 #[.string s, .string ⟨#[48]⟩] w fun e w' => e = .returned (.string ⟨(s.data.toList.dropWhile (· == 48)).toArray⟩) ∧ w = w' := by
  have T := trim_byte s w hs
  by_cases h0 : s.toList.isEmpty = true
  · have e : s.data.toList = [] := by rw [← ByteArray.toList_eq]; simpa using h0
    have HE : Hid (s = ⟨([] : List UInt8).toArray⟩) := by show _ = _; rw [← e, mk_data]
    rw [e]
    clear e T hs
    go_enter Tryz.func183, Tryz.ntmps183
    go_wp2
    go_ret
    exact ⟨by rw [HE.out]; rfl, rfl⟩
  · have h0' : s.toList.isEmpty = false := by simpa using h0
    clear h0 hs
    generalize s.data.toList.dropWhile (· == 48) = L at T
    go_enter Tryz.func183, Tryz.ntmps183
    go_wp2_with (go_at_call 199; (refine Calls.mono T ?_); rintro e w1 ⟨rfl, rfl⟩)
    go_ret
    exact ⟨rfl, rfl⟩
end Go.Proofs.YtbcfplaalepnbaaGreatDoor
namespace Go.Proofs.YtbcfplaalepnbaaGreatDoor
open Go.RowKit
theorem wpIn_range_made {x y : Nat → Value} {F : Fence} {n : Nat} {P : Program} {g : Operand} {p q : Tmp} {assign body : Code} {Q : Exit → Act → World → Prop} {a : Act} {w : World}
    (hro : F.round = none) (h1 : 1 ≤ n) {gf : Nat} {lb : Array Value} (hg : a.eval g = .func (.func gf) #[] lb) (hFg : F.fn gf) (eg : ∀ args w, (callFunc gf args).run P w = .ok (.enter gf args) w)
    (m : Nat) (I : Nat → World → Prop) (h0 : I 0 w) (hIb : ∀ k A B, I k A → Below A.heap.size A B → I k B) (hIp : ∀ k A r o, I k A → r = w.heap.size ∨ r = w.heap.size + 1 → I k (A.putObj r o))
    (a₁ : Nat → Act)
    (hassign : ∀ l k W K, K (a₁ k) W → assign.wpIn (F.inRound l) (n - 1 - 1) P (Exit.then K (fun _ _ _ => False)) { tmps := (a.tmps.setIfInBounds p (x k)).setIfInBounds q (y k), defers := [] } W)
    (hbody : ∀ l k W, k < m → I k W → w.heap.size + 2 ≤ W.heap.size → body.wpIn (F.inRound l) (n - 1 - 1) P (fun e _ W' => e = .normal ∧ I (k + 1) W' ∧ W.heap.size ≤ W'.heap.size ∧ ∀ j, j = w.heap.size ∨ j = w.heap.size + 1 → W'.heap[j]? = W.heap[j]?) (a₁ k) W)
    (hseq : ∀ l (J : Nat → World → Prop) W, (∀ k A, J k A → I k A) → (∀ k A B, J k A → Below A.heap.size A B → J k B) →
      (∀ k A, k < m → J k A → YieldAt F (n - 1 - 1) P l #[x k, y k] A fun e B => e = .returned (.bool true) ∧ J (k + 1) B) → J 0 W →
      CallsIn F (n - 1) P gf (#[.func (.yield l) #[] #[]] ++ lb) W fun e B => (∃ v, e = .returned v) ∧ J m B)
    (hdone : ∀ D W, w.heap.size ≤ D → D < w.heap.size + 2 → I m W → w.heap.size + 2 ≤ W.heap.size → W.heap[D]? = some (.deferred (some [])) → Q .normal { a with defers := { target := .collected D, args := #[] } :: a.defers } W) :
    (Code.rangeFunc g #[p, q] assign body).wpIn F n P Q a w := by
  refine wpIn_rangeFunc ?_
  intro fn hfn
  rw [hro]
  obtain ⟨R, hR⟩ : ∃ R : LoopState → Loop, R = fun st => { state := st, pending := none, fn, tmps := a.tmps, params := #[p, q], assign, body, defers := w.heap.size } := ⟨_, rfl⟩
  obtain ⟨V, hV⟩ : ∃ V, (w.alloc (.deferred (some []))).alloc (.loop (R .ready)) = V := ⟨_, rfl⟩
  have z1 : V.heap.size = w.heap.size + 2 := by rw [← hV]; simp
  have bV : Below w.heap.size w V := by rw [← hV]; exact ((Below.refl _ w).alloc (Nat.le_refl _) _).alloc (by simp) _
  have kL : V.heap[w.heap.size + 1]? = some (.loop (R .ready)) := by
    rw [← hV]; have := World.alloc_heap_new (w.alloc (.deferred (some []))) (.loop (R .ready)); rwa [World.size_alloc] at this
  have kD : V.heap[w.heap.size]? = some (.deferred (some [])) := by
    rw [← hV]; exact (Below.heap_alloc _ _ _ (by simp)).trans (World.alloc_heap_new w _)
  refine ⟨w.heap.size + 1, [{ target := .collected w.heap.size, args := #[] }], V, { target := .fn (.func gf) lb, args := #[.func (.yield (w.heap.size + 1)) #[] #[]] }, V, gf, #[.func (.yield (w.heap.size + 1)) #[] #[]] ++ lb, V, ?_, ?_, ?_, ?_, fun _ => h1, ?_⟩
  · rw [← hV, hR]; exact run_enterLoop_outer _ _ _ _ _
  · simp only [resolve, hg]; simp [go_sem]
  · intro f' hf'; simp [Target.leads] at hf'; subst hf'; exact hFg
  · simp [invoke, go_sem, eg]
  refine (hseq (w.heap.size + 1) (fun k A => I k A ∧ A.heap[w.heap.size + 1]? = some (.loop (R .ready)) ∧ A.heap[w.heap.size]? = some (.deferred (some []))) V (fun _ _ h => h.1) ?_ ?_ ⟨hIb _ _ _ h0 bV, kL, kD⟩).mono ?_
  · rintro k A B ⟨i, l, d⟩ hb
    have lt := (Array.getElem?_eq_some_iff.1 l).1
    exact ⟨hIb k A B i hb, (hb.block _ lt).trans l, (hb.block _ (by omega)).trans d⟩
  · rintro k A hk ⟨i, l, d⟩
    have lt := (Array.getElem?_eq_some_iff.1 l).1
    have hy : (Instr.yield (w.heap.size + 1) #[x k, y k]).run P A = .ok (.round (w.heap.size + 1) fn ((a.tmps.setIfInBounds p (x k)).setIfInBounds q (y k)) assign body) A := by
      have := run_yield (P := P) (args := #[x k, y k]) l (by rw [hR]; rfl)
      rw [hR] at this
      simpa using this
    refine ⟨fn, _, assign, body, hy, roundIn_of_wpIn hfn ?_⟩
    refine hassign _ k A _ ?_
    refine ⟨_, run_beginRound l (by rw [hR]), ?_⟩
    have l2 : (A.putObj (w.heap.size + 1) (.loop { R .ready with state := .busy })).heap[w.heap.size + 1]? = some (.loop { R .ready with state := .busy }) := World.putObj_heap_same lt
    refine wpIn_mono (hbody _ k _ hk (hIp _ _ _ _ i (.inr rfl)) (by simp; omega)) ?_
    rintro e a3 B ⟨rfl, i3, z3, k3⟩
    have l3 := (k3 (w.heap.size + 1) (.inr rfl)).trans l2
    have hend := run_endRound (P := P) none l3
    have d3 := (k3 w.heap.size (.inl rfl)).trans ((World.putObj_heap_other (by omega)).trans d)
    have l4 := World.putObj_heap_same (o := .loop (R .ready)) (Array.getElem?_eq_some_iff.1 l3).1
    refine ⟨_, _, hend, rfl, hIp _ _ _ _ i3 (.inr rfl), ?_, (World.putObj_heap_other (by omega)).trans d3⟩
    rw [hR] at l4 ⊢; exact l4
  · rintro e B ⟨⟨v, rfl⟩, i, l, d⟩
    have lt := (Array.getElem?_eq_some_iff.1 l).1
    refine ⟨none, _, ?_, hdone w.heap.size _ (Nat.le_refl _) (by omega) (hIp _ _ (w.heap.size + 1) (.loop { R .ready with state := .exhausted }) i (.inr rfl)) (by simp; omega) ((World.putObj_heap_other (by omega)).trans d)⟩
    have := run_endLoop (P := P) l (by rw [hR]; simp)
    rw [hR] at this ⊢
    exact this
end Go.Proofs.YtbcfplaalepnbaaGreatDoor
namespace Go.Proofs.YtbcfplaalepnbaaGreatDoor
open Go.RowKit Go.Shelf
attribute [local go_sem] Oper.semAt_some
theorem back_made (n : Nat) (a : Option Addr) (m c : Nat) (w : World) :
    CallsIn Fence.wide n Tryz.prog 180 #[.slice a m c] w fun e w' => e = .returned (.func (.func 197) #[] #[.pointer (some ⟨w.heap.size, 0, none⟩)]) ∧ w' = w.alloc (.cells #[.slice a m c] 40) := by
  refine callsIn_wide.2 ?_
  go_enter Tryz.func180, Tryz.ntmps180
  go_wp2
  go_ret
  exact ⟨by simp, rfl⟩
set_option maxHeartbeats 4000000 in
theorem back_iter (n l B : Nat) (hn : 1 ≤ n) (J : Nat → World → Prop) (a : Option Addr) (m c : Nat) (zs : List Int) (hm : m ≤ 1000000000)
    (hJ : ∀ k A, J k A → A.cell? ⟨B, 0, none⟩ = some (.slice a m c) ∧ IsWords A (.slice a m c) zs)
    (hY : ∀ k A, k < m → J k A → YieldAt Fence.wide (n - 1) Tryz.prog l #[.int .i64 ((m : Int) - 1 - k), .int .u32 (zs.getD (m - 1 - k) 0)] A fun e A' => e = .returned (.bool true) ∧ J (k + 1) A')
    (W : World) (h0 : J 0 W) :
    CallsIn Fence.wide n Tryz.prog 197 #[.func (.yield l) #[] #[], .pointer (some ⟨B, 0, none⟩)] W fun e W' => (∃ v, e = .returned v) ∧ J m W' := by
  have hmx : Tryz.prog.follows .mixedOrders = true := by kernel_rfl
  have c0 := (hJ _ _ h0).1
  refine callsIn_of_wp Tryz.func197 rfl trivial ?_ rfl
  simp only [Tryz.ntmps197, List.size_toArray, List.length_cons, List.length_nil, Nat.reduceAdd, Nat.reduceSub, Array.replicate_succ, Array.replicate_zero, List.push_toArray, List.append_toArray, List.nil_append, List.cons_append]
  gi_wp2
  gi_loopg [3] m (fun g v3 v => ∃ k : Nat, k + g = m ∧ v3 = .int .i64 ((g : Int) - 1) ∧ J k v)
  case atStart => exact ⟨0, by omega, by first | rfl | (congr 1; omega), h0⟩
  case round =>
    obtain ⟨k, hk, rfl, hj⟩ := hrel
    cases gk with
    | zero =>
      obtain rfl : k = m := by omega
      rw [show ((0 : Nat) : Int) - 1 = -1 from rfl]
      clear hJ hY hk
      gi_wp2
      go_end0
      exact ⟨⟨_, rfl⟩, hj⟩
    | succ t =>
      obtain ⟨cb, iw⟩ := hJ _ _ hj
      obtain ⟨⟨hl, hr⟩, hn2⟩ := iw.reads
      rcases hr with h1 | ⟨b, off, rfl, hc⟩
      · omega
      have hck := hc t (by omega)
      obtain ⟨fn, tmps, assign, body, hy, hR⟩ := hY k wr (by omega) hj
      rw [show (m : Int) - 1 - k = t by omega, show m - 1 - k = t by omega] at hy
      rw [show ((t + 1 : Nat) : Int) - 1 = t by omega]
      generalize zs.getD t 0 = z at hck hy
      clear hJ hc iw hY
      gi_wp2
      refine hR.mono ?_
      rintro e W3 ⟨rfl, hj3⟩
      gi_wp2
      gi_roundg t
      case measure => omega
      case rel => exact ⟨k + 1, by omega, by first | rfl | (congr 1; omega), hj3⟩
end Go.Proofs.YtbcfplaalepnbaaGreatDoor
namespace Go.Proofs.YtbcfplaalepnbaaGreatDoor
open Go.RowKit Go.Shelf
attribute [local go_sem] Oper.semAt_some
theorem blk_new (v : World) (o : Obj) : (v.alloc o).heap[v.heap.size]? = some o := by show (v.heap.push o)[v.heap.size]? = _; simp
theorem cell_of_box {w : World} {k : Nat} {v : Value} {T : TypeId} (h : w.heap[k]? = some (.cells #[v] T (0, 0))) : w.cell? ⟨k, 0, none⟩ = some v ∧ w.frozen? ⟨k, 0, none⟩ = false := by
  simp [World.cell?, World.frozen?, h]
theorem box_set {w : World} {k : Nat} {v : Value} {T : TypeId} (h : w.heap[k]? = some (.cells #[v] T (0, 0))) (u : Value) : (w.setCell ⟨k, 0, none⟩ u).heap[k]? = some (.cells #[u] T (0, 0)) := Boxed.set u h
def PrintAt (w V : World) (N m : Nat) (k : Nat) (W : World) : Prop :=
  ∃ (a : Option Addr) (c : Nat) (bs : List UInt8), W.heap[w.heap.size]? = some (.cells #[.slice a (9 * k) c] 129 (0, 0)) ∧ RowB (V.heap.size + 2) W (.slice a (9 * k) c) (9 * k) bs ∧ DigS bs ∧ valD bs = N / 1000000000 ^ (m - k) ∧
    (∀ j, j < V.heap.size → j ≠ w.heap.size → W.heap[j]? = V.heap[j]?) ∧ Below w.heap.size w W
theorem PrintAt.more {w V : World} {N m k : Nat} {A B : World} (h : PrintAt w V N m k A) (hb : Below A.heap.size A B) : PrintAt w V N m k B := by
  obtain ⟨a, c, bs, h1, h2, h3, h4, h5, h6⟩ := h
  refine ⟨a, c, bs, (hb.block _ (Array.getElem?_eq_some_iff.1 h1).1).trans h1, h2.more hb, h3, h4, fun j hj hne => ?_, below_more h6 hb⟩
  have e := h5 j hj hne
  rw [← e]
  exact hb.block j (by
    rcases Nat.lt_or_ge j A.heap.size with h | h
    · exact h
    · rw [Array.getElem?_eq_none h, Array.getElem?_eq_getElem hj] at e; cases e)
theorem PrintAt.put {w V : World} {N m k : Nat} {A : World} (h : PrintAt w V N m k A) (hV : w.heap.size < V.heap.size) {r : Nat} (hr : r = V.heap.size ∨ r = V.heap.size + 1) (o : Obj) : PrintAt w V N m k (A.putObj r o) := by
  obtain ⟨a, c, bs, h1, h2, h3, h4, h5, h6⟩ := h
  exact ⟨a, c, bs, (World.putObj_heap_other (by omega)).trans h1, h2.keep fun j hj => World.putObj_heap_other (by omega), h3, h4, fun j hj hne => (World.putObj_heap_other (by omega)).trans (h5 j hj hne), below_put h6 (by omega) o⟩
theorem PrintAt.next {w V : World} {N m k : Nat} {A B : World} {a a' : Option Addr} {c c' : Nat} {bs : List UInt8} {g : Int} (hk : k < m) (hV : w.heap.size < V.heap.size)
    (h1 : A.heap[w.heap.size]? = some (.cells #[.slice a (9 * k) c] 129 (0, 0))) (h3 : DigS bs) (h4 : valD bs = N / 1000000000 ^ (m - k)) (h5 : ∀ j, j < V.heap.size → j ≠ w.heap.size → A.heap[j]? = V.heap[j]?) (h6 : Below w.heap.size w A)
    (hg : g = ((N / 1000000000 ^ (m - 1 - k) % 1000000000 : Nat) : Int)) (hr : RowB (V.heap.size + 2) B (.slice a' (9 * k + 9) c') (9 * k + 9) (bs ++ pad 9 g.toNat)) (hb : Below (V.heap.size + 2) A B) :
    PrintAt w V N m (k + 1) (B.setCell ⟨w.heap.size, 0, none⟩ (.slice a' (9 * k + 9) c')) := by
  have b1 : B.heap[w.heap.size]? = some (.cells #[.slice a (9 * k) c] 129 (0, 0)) := (hb.block _ (by omega)).trans h1
  have hgn : g.toNat = N / 1000000000 ^ (m - 1 - k) % 1000000000 := by rw [hg]; exact Int.toNat_natCast _
  refine ⟨a', c', bs ++ pad 9 g.toNat, box_set b1 _, hr.keep fun j hj => Below.heap_setCell _ _ _ _ (by simp; omega), digS_append.2 ⟨h3, digS_pad _ _⟩, ?_, fun j hj hne => ?_, ?_⟩
  · rw [valD_group _ (by rw [hgn]; exact Nat.mod_lt _ (by decide)), h4, hgn, show (10 : Nat) ^ 9 = 1000000000 from rfl, show m - k = (m - 1 - k) + 1 by omega, told_step, show m - 1 - k = m - (k + 1) by omega]
  · rw [Below.heap_setCell _ _ _ _ (by simpa using hne), hb.block j (by omega)]; exact h5 j hj hne
  · exact (h6.trans (hb.mono (by omega))).setCell (p := ⟨w.heap.size, 0, none⟩) (Nat.le_refl _) _
theorem Row.stay {w w' : World} {v : Value} {n : Nat} {xs : List Int} {n₀ : Nat} (h : Row n₀ w v n xs) (hb : ∀ k, n₀ ≤ k → k < w.heap.size → w'.heap[k]? = w.heap[k]?) : Row n₀ w' v n xs := by
  refine ⟨h.1, ?_⟩
  rcases h.2 with h0 | ⟨g, cap, cur, e, h1, hg, h2⟩
  · exact .inl h0
  · exact .inr ⟨g, cap, cur, e, h1, (hb g h1 (Array.getElem?_eq_some_iff.1 hg).1).trans hg, h2⟩
theorem conv_row {n₀ : Nat} {w : World} {a : Option Addr} {n c : Nat} {bs : List UInt8} (h : RowB n₀ w (.slice a n c) n bs) :
    Sem.run Tryz.prog (convert 129 9 (.slice a n c)) w = .ok (.string ⟨bs.toArray⟩) w := by
  have hl := h.length
  rcases h.cell with ⟨rfl, rfl⟩ | ⟨g, rfl, hc⟩
  · subst hl
    rw [run_convert_bytes_string w 129 9 5 none _ c Tryz.underlying129 Tryz.underlying5 Tryz.underlying9]
    simp [Conv.bytesToString, go_sem]
    rfl
  · subst hl
    exact run_convert_bytes_back (P := Tryz.prog) w 129 9 5 ⟨g, 0, none⟩ c bs Tryz.underlying129 Tryz.underlying5 Tryz.underlying9 hc
set_option maxHeartbeats 4000000 in
theorem deci_print : PrintOk := by
  intro a n c zs w h hz hn N hN
  have G := deci_groups (w := w.alloc (.cells #[.slice none 0 0] 129)) (h.below ((Below.refl _ _).alloc (Nat.le_refl _) _)) hz hn N hN
  clear h hz hn hN
  refine (callsIn_wide (n := 3)).1 ?_
  refine callsIn_of_wp_marks Tryz.func164 rfl trivial ?_ rfl
  simp only [Tryz.ntmps164, List.size_toArray, List.length_cons, List.length_nil, Nat.reduceAdd, Nat.reduceSub, Array.replicate_succ, Array.replicate_zero, List.push_toArray, List.append_toArray, List.nil_append, List.cons_append]
  gi_wp2_with (first
    | (refine ⟨trivial, ?_⟩; gi_at_call 181; (with_reducible refine CallsIn.mono (callsIn_wide.2 G) ?_); rintro e w1 ⟨a1, m, c1, ys, rfl, o1, hgr, hNm, hm⟩)
    | (refine ⟨trivial, ?_⟩; gi_at_call 180; refine (back_made _ _ _ _ _).mono ?_; rintro e w' ⟨rfl, rfl⟩))
  obtain ⟨V, hV⟩ : ∃ V, w1.alloc (.cells #[.slice a1 m c1] 40) = V := ⟨_, rfl⟩
  have z1 : w.heap.size + 1 ≤ w1.heap.size := by have := o1.below.size; simpa using this
  have zV : V.heap.size = w1.heap.size + 1 := by rw [← hV]; simp
  have b1 : Below w.heap.size w w1 := ((Below.refl _ w).alloc (Nat.le_refl _) (.cells #[.slice none 0 0] 129)).trans (o1.below.mono (by simp))
  have bV : Below w.heap.size w V := by rw [← hV]; exact b1.alloc (by omega) _
  have k0 : V.heap[w.heap.size]? = some (.cells #[.slice none 0 0] 129 (0, 0)) := by
    rw [← hV, Below.heap_alloc _ _ _ (by omega), o1.below.block _ (by simp)]; exact blk_new w _
  have k1 : V.heap[w1.heap.size]? = some (.cells #[.slice a1 m c1] 40 (0, 0)) := by rw [← hV]; exact blk_new w1 _
  have r1 : Row (w.heap.size + 1) V (.slice a1 m c1) m ys := by rw [← hV]; exact (o1.alloc _).row (by simp)
  rw [hV]
  clear hV G o1
  refine wpIn_range_made (x := fun k => .int .i64 ((m : Int) - 1 - k)) (y := fun k => .int .u32 (ys.getD (m - 1 - k) 0)) rfl (by omega) (gf := 197) (lb := #[.pointer (some ⟨w1.heap.size, 0, none⟩)]) rfl trivial (enters_of Tryz.func197 (by kernel_rfl) rfl)
    m (PrintAt w V N m) ⟨none, 0, [], by rw [Nat.mul_zero]; exact k0, RowB.nil _ _, (fun c hc => by cases hc), by rw [valD_nil, Nat.sub_zero, Nat.div_eq_of_lt hNm], fun _ _ _ => rfl, bV⟩ (fun k A B h hb => h.more hb) (fun k A r o h hr => h.put (by omega) hr o)
    (fun k => { tmps := #[.slice a n c, undef, .string ⟨#[]⟩, .pointer (some ⟨w.heap.size, 0, none⟩), undef, .int .u32 (ys.getD (m - 1 - k) 0), undef, .slice a n c, .slice a1 m c1, .func (.func 197) #[] #[.pointer (some ⟨w1.heap.size, 0, none⟩)], .int .i64 ((m : Int) - 1 - k), .int .u32 (ys.getD (m - 1 - k) 0), undef, undef, undef, undef, undef, undef, undef, undef, undef], defers := [] })
    ?assign ?body ?seq ?done
  case assign =>
    intro l k W K hK
    gi_wp2
    exact hK
  case body =>
    rintro l k W hk ⟨a5, c5, bs, h1, h2, h3, h4, h5, h6⟩ hz
    have hg := hgr.2 (m - 1 - k) (by omega)
    obtain ⟨z, hzd⟩ : ∃ z, ys.getD (m - 1 - k) 0 = z := ⟨_, rfl⟩
    rw [hzd] at hg
    have hz0 : 0 ≤ z := by omega
    have hz1 : z < 4294967296 := by omega
    have A1 := fun q => CallsIn.inRound l ((callsIn_wide (n := q)).2 (deci_appendGroup (V.heap.size + 2) a5 (9 * k) c5 bs z W h2 hz (by omega) hz0 hz1))
    have hcell := cell_of_box h1
    have HK : Hid (∀ (a' : Option Addr) (c' : Nat) (B : World), RowB (V.heap.size + 2) B (.slice a' (9 * k + 9) c') (9 * k + 9) (bs ++ pad 9 z.toNat) → Below (V.heap.size + 2) W B → PrintAt w V N m (k + 1) (B.setCell ⟨w.heap.size, 0, none⟩ (.slice a' (9 * k + 9) c'))) := fun a' c' B hr hb => PrintAt.next hk (by omega) h1 h3 h4 h5 h6 hg hr hb
    rw [hzd]
    obtain ⟨hc1, hc2⟩ := hcell
    have hbx : ∀ B, Below (V.heap.size + 2) W B → B.cell? ⟨w.heap.size, 0, none⟩ = some (.slice a5 (9 * k) c5) ∧ B.frozen? ⟨w.heap.size, 0, none⟩ = false := fun B hb => cell_of_box ((hb.block _ (by omega)).trans h1)
    clear hg hzd h1 h2 h3 h4 h5 h6 hgr
    gi_wp2_with (refine ⟨trivial, ?_⟩; gi_at_call 182; (with_reducible refine CallsIn.mono (A1 _) ?_); rintro e B ⟨a6, c6, rfl, r6, b6⟩; obtain ⟨hd1, hd2⟩ := hbx B b6)
    exact ⟨HK.out _ _ _ r6 b6, b6.size, (Below.heap_setCell _ _ _ _ (by simp; omega)).trans (b6.block _ (by omega)), (Below.heap_setCell _ _ _ _ (by simp; omega)).trans (b6.block _ (by omega))⟩
  case seq =>
    intro l J W hJI hJb hY h0
    refine (back_iter 2 l w1.heap.size (by omega) J a1 m c1 ys (by omega) (fun k A hj => ?_) (fun k A hk hj => hY k A hk hj) W h0).mono ?_
    · obtain ⟨a5, c5, bs, h1, h2, h3, h4, h5, h6⟩ := hJI k A hj
      exact ⟨(cell_of_box ((h5 _ (by omega) (by omega)).trans k1)).1, (r1.stay fun j hj1 hj2 => h5 j hj2 (by omega)).words⟩
    · rintro e B ⟨hv, hj⟩
      exact ⟨hv, hj⟩
  case done =>
    rintro D W hD1 hD2 ⟨a5, c5, bs, h1, h2, h3, h4, h5, h6⟩ hz hK
    have CV := conv_row h2
    have hlen := h2.length
    rw [Nat.sub_self, Nat.pow_zero, Nat.div_one] at h4
    have T := trim_left ⟨bs.toArray⟩ W (by show bs.toArray.size ≤ maxLen; unfold maxLen; simp; omega)
    rw [show (ByteArray.mk bs.toArray).data.toList = bs by simp, trim_dg h3, h4] at T
    obtain ⟨hc1, hc2⟩ := cell_of_box h1
    have HB : Hid (Below w.heap.size w W ∧ w.heap.size ≤ D) := ⟨h6, by omega⟩
    rcases Nat.eq_zero_or_pos N with h0 | h0
    · subst h0
      rw [dg_zero] at T
      clear h1 h2 h3 h4 h5 h6 hgr hlen
      gi_wp2_with (refine ⟨trivial, ?_⟩; gi_at_call 183; (with_reducible refine CallsIn.mono (callsIn_wide.2 T) ?_); rintro e W2 ⟨rfl, rfl⟩)
      refine ⟨by simp, .inl ⟨_, _, rfl, run_takeDeferred hK, ?_⟩⟩
      exact ⟨_, results_tmp rfl _ _ _, by rw [decOf_zero]; rfl, below_put HB.out.1 HB.out.2 _⟩
    · have he : (ByteArray.mk (dg N).toArray).toList.isEmpty = false := by
        rw [ByteArray.toList_eq]
        have := dg_ne h0
        simpa using this
      have HD : Hid (decOf N = dg N) := decOf_pos h0
      generalize hS : ByteArray.mk (dg N).toArray = S at T he
      have HS : Hid (ByteArray.mk (dg N).toArray = S) := hS
      clear hS h0
      clear h1 h2 h3 h4 h5 h6 hgr hlen
      gi_wp2_with (refine ⟨trivial, ?_⟩; gi_at_call 183; (with_reducible refine CallsIn.mono (callsIn_wide.2 T) ?_); rintro e W2 ⟨rfl, rfl⟩)
      refine ⟨by simp, .inl ⟨_, _, rfl, run_takeDeferred hK, ?_⟩⟩
      exact ⟨_, results_tmp rfl _ _ _, by rw [HD.out, HS.out]; rfl, below_put HB.out.1 HB.out.2 _⟩
theorem deci_digits : DigitsOk := by
  intro a n c zs w h hz hn N hN
  have P := deci_print h hz hn N hN
  have hl : (decOf N).length ≤ 10000000 := by
    have := decOf_words (A := N) (n := 1000000) (by rw [← hN]; exact nl_small hz _ (by rw [h.len]; exact hn)) (by omega)
    omega
  have HS : Hid ((decOf N).length ≤ 10000000) := hl
  clear h hz hn hN hl
  generalize hS : ByteArray.mk (decOf N).toArray = S at P
  have e : S.size = (decOf N).length := by rw [← hS]; show (decOf N).toArray.size = _; simp
  have hs : (S.size : Int) ≤ 10000000 := by have := HS.out; omega
  rw [← e]
  clear e hS HS
  go_enter Tryz.func153, Tryz.ntmps153
  go_wp2_with (go_at_call 164; (with_reducible refine Calls.mono P ?_); rintro e w1 ⟨rfl, b1⟩)
  go_ret
  exact ⟨rfl, b1⟩
end Go.Proofs.YtbcfplaalepnbaaGreatDoor
namespace Go.Proofs.YtbcfplaalepnbaaGreatDoor
open Go.RowKit
theorem minus_parts (s : ByteArray) (hs : s.size ≤ maxLen) : ∃ (g : Bool) (u : ByteArray), stripI s.data.toList = u.data.toList ∧ minusI s.data.toList = g ∧ u.size ≤ maxLen ∧
    (s.size = 0 ∧ g = false ∧ u = s ∨ 0 < s.size ∧ g = true ∧ ((s.extract 0 1).toList == [45]) = true ∧ s.extract 1 s.size = u ∨ 0 < s.size ∧ g = false ∧ ((s.extract 0 1).toList == [45]) = false ∧ u = s) := by
  rcases Nat.eq_zero_or_pos s.size with h0 | h0
  · have e : s.data.toList = [] := List.eq_nil_of_length_eq_zero (by simpa using h0)
    exact ⟨false, s, by rw [e]; rfl, by rw [e]; rfl, hs, .inl ⟨h0, rfl, rfl⟩⟩
  · have hh : s.data.toList = s[0] :: s.data.toList.tail := by
      have := drop_byte s 0 h0
      rw [List.drop_zero] at this
      rw [this]; rfl
    have hx : s.extract 0 1 = ⟨#[s[0]]⟩ := by
      refine ByteArray.ext ?_
      rw [← Array.toList_inj, ByteArray.data_extract, Array.toList_extract]
      rw [hh]; rfl
    by_cases hc : s[0] = 45
    · refine ⟨true, s.extract 1 s.size, ?_, ?_, ?_, .inr (.inl ⟨h0, rfl, ?_, rfl⟩)⟩
      · rw [extract_tail]; unfold stripI; rw [if_pos (by rw [hh, hc]; rfl)]
      · unfold minusI; rw [hh, hc]; rfl
      · rw [ByteArray.size_extract]; unfold maxLen at hs ⊢; omega
      · rw [hx, hc, ByteArray.toList_eq]; rfl
    · refine ⟨false, s, ?_, ?_, hs, .inr (.inr ⟨h0, rfl, ?_, rfl⟩)⟩
      · unfold stripI; rw [if_neg (by rw [hh]; intro e; exact hc (Option.some.inj e))]
      · unfold minusI; rw [hh]; simp [hc]
      · rw [hx, ByteArray.toList_eq, beq_eq_false_iff_ne]
        intro e
        exact hc (List.cons.inj e).1
set_option maxHeartbeats 4000000 in
theorem cut_minus {s : ByteArray} {g : Bool} {u : ByteArray} (hs : s.size ≤ maxLen) (h : s.size = 0 ∧ g = false ∧ u = s ∨ 0 < s.size ∧ g = true ∧ ((s.extract 0 1).toList == [45]) = true ∧ s.extract 1 s.size = u ∨ 0 < s.size ∧ g = false ∧ ((s.extract 0 1).toList == [45]) = false ∧ u = s) (w : World) :
    Calls Tryz.prog 131 #[.string s, .string ⟨#[45]⟩] w fun e w' => e = .returned (.tuple #[.string u, .bool g]) ∧ w = w' := by
  have H : ∀ (q : Bool), ((s.size = 0 ∧ q = false) ∨ (0 < s.size ∧ ((s.extract 0 1).toList == [45]) = q)) → Calls Tryz.prog 156 #[.string s, .string ⟨#[45]⟩] w fun e w' => e = .returned (.bool q) ∧ w = w' := by
    clear h
    intro q h
    unfold maxLen at hs
    rcases h with ⟨h0, rfl⟩ | ⟨h0, hq⟩
    case' inl => have h1 : ¬ (1 : Int) ≤ s.size := by omega
    case' inr => have h1 : (1 : Int) ≤ s.size := by omega
    all_goals
      go_enter Tryz.func156, Tryz.ntmps156
      go_wp2
      go_ret
      exact ⟨rfl, rfl⟩
  have H2 : Calls Tryz.prog 145 #[.string s, .string ⟨#[45]⟩] w fun e w' => e = .returned (.tuple #[.string u, .bool g]) ∧ w = w' := by
    unfold maxLen at hs
    rcases h with ⟨h0, rfl, rfl⟩ | ⟨h0, rfl, hq, hu⟩ | ⟨h0, rfl, hq, rfl⟩
    case' inl => have H1 := H false (.inl ⟨h0, rfl⟩)
    case' inr.inl =>
      have H1 := H true (.inr ⟨h0, hq⟩)
      have h1 : (1 : Int) ≤ s.size := by omega
    case' inr.inr => have H1 := H false (.inr ⟨h0, hq⟩)
    all_goals
      clear H
      go_enter Tryz.func145, Tryz.ntmps145
      go_wp2_with (go_at_call 156; (with_reducible refine Calls.mono H1 ?_); rintro e w1 ⟨rfl, rfl⟩)
      go_ret2
      exact ⟨rfl, rfl⟩
  clear H h
  go_enter Tryz.func131, Tryz.ntmps131
  go_wp2_with (go_at_call 145; (with_reducible refine Calls.mono H2 ?_); rintro e w1 ⟨rfl, rfl⟩)
  go_ret2
  exact ⟨rfl, rfl⟩
set_option maxHeartbeats 4000000 in
theorem whole_parse (s : ByteArray) (w : World) (hs : s.size ≤ maxLen) :
    Calls Tryz.prog 158 #[.string s] w (AnsIP w (znum s.data.toList) (zerr s.data.toList)) := by
  obtain ⟨b1, bV, hb⟩ := boxes1 w #[.bool false, .slice none 0 0] 82
  obtain ⟨g, u, hu, hg, hsz, hp⟩ := minus_parts s hs
  have CU := fun v => cut_minus hs hp v
  have P := fun v => deci_parse u v hsz
  unfold znum zerr
  rw [hu, hg]
  have G := fun v a1 c1 => whole_signed g a1 (nl (pnum u.data.toList)) c1 v _ (sign_nl g (pnum u.data.toList))
  have hE : perr u.data.toList = 0 ∨ (perr u.data.toList != 0) = true ∧ pnum u.data.toList = 0 := by
    by_cases h : perr u.data.toList = 0
    · exact .inl h
    · exact .inr ⟨by simpa using h, pnum_err h⟩
  unfold AnsP at P
  generalize pnum u.data.toList = K at *
  generalize perr u.data.toList = E at *
  clear hu hg hs hsz hp
  unfold AnsIP
  rw [iv_abs]
  rcases hE with rfl | ⟨hE, hK⟩
  · generalize decide (iv g K < 0) = r at G ⊢
    go_enter Tryz.func158, Tryz.ntmps158
    go_wp2_with (first
      | (go_at_call 131; (with_reducible refine Calls.mono (CU _) ?_); rintro e w0 ⟨rfl, rfl⟩)
      | (go_at_call 161; (with_reducible refine Calls.mono (P _) ?_); rintro e w1 ⟨a1, c1, rfl, o1⟩)
      | (go_at_call 170; (with_reducible refine Calls.mono (G _ _ _) ?_); rintro e w2 ⟨rfl, d2⟩; obtain ⟨z0, z1, f0, f1⟩ := ((b1.more o1.below).more d2).cells2))
    have q := fun x y => (((o1.more d2).above bV).set (k := w.heap.size) (by omega) hb 0 x).set (k := w.heap.size) (by omega) hb 1 y
    exact bodyPost_ret (v := .tuple #[.agg #[.bool r, .slice a1 (nl K) c1], .int .i64 0]) (by simp [results, Tryz.results158, go_sem, z0, z1]) rfl ⟨a1, c1, rfl, (q _ _).own (by omega)⟩
  · subst hK
    rw [iv_zero]
    clear G
    simp only [nl_zero] at P
    go_enter Tryz.func158, Tryz.ntmps158
    go_wp2_with (first
      | (go_at_call 131; (with_reducible refine Calls.mono (CU _) ?_); rintro e w0 ⟨rfl, rfl⟩)
      | (go_at_call 161; (with_reducible refine Calls.mono (P _) ?_); rintro e w1 ⟨a1, c1, rfl, o1⟩; obtain ⟨z0, z1, f0, f1⟩ := (b1.more o1.below).cells2))
    have B1 := below_more bV o1.below
    have q := fun x y => (B1.setCell (p := ⟨w.heap.size, 0, none⟩) (Nat.le_refl _) x).setCell (p := ⟨w.heap.size, 1, none⟩) (Nat.le_refl _) y
    exact bodyPost_ret (v := .tuple #[.agg #[.bool false, .slice none 0 0], .int .i64 E]) (by simp [results, Tryz.results158, go_sem, z0, z1]) rfl ⟨none, 0, by simp [nl_zero], by simpa [nl_zero, natOf_zero] using Own.nil (q _ _)⟩
end Go.Proofs.YtbcfplaalepnbaaGreatDoor
namespace Go.Proofs.YtbcfplaalepnbaaGreatDoor
open Go.RowKit
def NR (k : Nat) (w : World) (s : Bool) (a : Option Addr) (n c : Nat) (b : Option Addr) (m d : Nat) (q : Rat) : Prop :=
  ∃ xs ys, IsWords w (.slice a n c) xs ∧ Wd xs ∧ IsWords w (.slice b m d) ys ∧ Wd ys ∧ n ≤ k ∧ m ≤ k ∧ 0 < val ys ∧ rv s (val xs) (val ys) = q
set_option maxHeartbeats 4000000 in
theorem rat_fraction (s : Bool) (a : Option Addr) (n c : Nat) (b : Option Addr) (m d : Nat) (w : World) :
    Calls Tryz.prog 172 #[.bool s, .slice a n c, .slice b m d] w fun e w' => e = .returned (.agg #[.bool s, .slice a n c, .slice b m d]) ∧ Below w.heap.size w w' := by
  go_enter Tryz.func172, Tryz.ntmps172
  go_wp2
  have b1 := BoxC.new w #[.bool s, .slice a n c, .slice b m d] 184
  obtain ⟨y0, y1, y2, g0, g1, g2⟩ := b1.cells3
  exact bodyPost_ret (v := .agg #[.bool s, .slice a n c, .slice b m d]) (by simp [results, Tryz.results172, go_sem, y0, y1, y2]) rfl ⟨rfl, (Below.refl _ _).alloc (Nat.le_refl _) _⟩
set_option maxHeartbeats 4000000 in
theorem rat_lowest {k : Nat} {s : Bool} {a : Option Addr} {n c : Nat} {b : Option Addr} {m d : Nat} {q : Rat} {w : World} (h : NR k w s a n c b m d q) (hk : k ≤ 100000000) :
    Calls Tryz.prog 173 #[.agg #[.bool s, .slice a n c, .slice b m d]] w (AnsR w q) := by
  obtain ⟨xs, ys, h1, h2, h3, h4, h5, h6, h7, rfl⟩ := h
  have L := fun v (hb : Below w.heap.size w v) => common_lowest (h1.below hb) h2 (h3.below hb) h4 (by omega) (by omega) _ _ rfl rfl
  unfold AnsDivB at L
  obtain ⟨b1, b2, bV, hs⟩ := boxes2 w #[.bool s, .slice a n c, .slice b m d] #[.bool false, .slice none 0 0, .slice none 0 0] 184 42
  obtain ⟨x0, x1, x2, f0, f1, f2⟩ := b1.cells3
  clear h1 h2 h3 h4 h5 h6 hk
  generalize val xs = A at *
  generalize val ys = D at *
  have HA : Hid (∀ e w', AnsT w (tri (rv s A D)) e w' → AnsR w (rv s A D) e w') := fun _ _ h => h
  have eT : tri (rv s A D) = (s && decide (0 < A / Nat.gcd A D), A / Nat.gcd A D, D / Nat.gcd A D) := by
    rcases Nat.eq_zero_or_pos A with e | e
    · subst e
      rw [rv_num0, tri_zero, Nat.zero_div, Nat.gcd_zero_left, Nat.div_self h7]; simp
    · rw [tri_rv s A D e h7]
      have hX : 0 < A / Nat.gcd A D := Nat.div_pos (Nat.le_of_dvd e (Nat.gcd_dvd_left _ _)) (Nat.gcd_pos_of_pos_left _ e)
      simp [hX]
  rw [eT] at HA
  rw [show low1 A D = A / Nat.gcd A D from if_neg (by omega), show decide (0 < D) = true from decide_eq_true h7] at L
  generalize A / Nat.gcd A D = X at *
  generalize D / Nat.gcd A D = Y at *
  clear eT h7
  have eX : decide (0 < X) = decide ((0 : Int) < (nl X : Int)) := by
    rcases Nat.eq_zero_or_pos X with e | e
    · subst e; rw [nl_zero]; rfl
    · have := nl_pos e
      rw [decide_eq_true e, decide_eq_true (by omega)]
  rw [eX] at HA
  clear eX
  rcases s with _ | _
  case' false =>
    rw [Bool.false_and] at HA
  case' true =>
    rw [Bool.true_and] at HA
  all_goals
    go_enter Tryz.func173, Tryz.ntmps173
    go_wp2_with (go_at_call 190; (with_reducible refine Calls.mono (L _ bV) ?_); rintro e w1 ⟨a1, c1, a2, c2, rfl, o1, o2⟩; obtain ⟨x0, x1, x2, -, -, -⟩ := (b1.more o1.below).cells3; obtain ⟨y0, y1, y2, g0, g1, g2⟩ := (b2.more o1.below).cells3)
    exact bodyPost_ret (v := .agg #[.bool _, .slice a1 (nl X) c1, .slice a2 (nl Y) c2]) (by simp [results, Tryz.results173, go_sem, y0, y1, y2]) rfl (HA.out _ _ (ansT_mk (((o1.above bV).set3 (by omega) hs _ _ _).own (by omega)) (((o2.above bV).set3 (by omega) hs _ _ _).own (by omega))))
end Go.Proofs.YtbcfplaalepnbaaGreatDoor
namespace Go.Proofs.YtbcfplaalepnbaaGreatDoor
open Go.RowKit
theorem rat_lowest' {k : Nat} {s : Bool} {a : Option Addr} {n c : Nat} {b : Option Addr} {m d : Nat} {q : Rat} {w : World} (h : NR k w s a n c b m d q) (hk : k ≤ 100000000) : Calls Tryz.prog 173 #[.agg #[.bool s, .slice a n c, .slice b m d]] w (AnsT w (tri q)) := rat_lowest h hk
end Go.Proofs.YtbcfplaalepnbaaGreatDoor
namespace Go.Proofs.YtbcfplaalepnbaaGreatDoor
open Go.RowKit
set_option maxHeartbeats 4000000 in
theorem rat_make {s : Bool} {a : Option Addr} {n c : Nat} {xs : List Int} {t : Bool} {b : Option Addr} {m d : Nat} {ys : List Int} {w : World} (h : IsWords w (.slice a n c) xs) (hx : Wd xs) (k : IsWords w (.slice b m d) ys) (hy : Wd ys) (hn : n ≤ 10000) (hm : m ≤ 10000) :
    Calls Tryz.prog 159 #[.agg #[.bool s, .slice a n c], .agg #[.bool t, .slice b m d]] w (AnsTE w (mkT s (val xs) t (val ys)) (mkE (val ys))) := by
  have B := fun v (hb : Below w.heap.size w v) => nat_bits' (k.below hb) hy (by omega) _ rfl
  have G := fun v => rat_fraction (!(s == t)) a n c b m d v
  obtain ⟨b1, b2, b3, bV, hs⟩ := boxes3 w #[.bool s, .slice a n c] #[.bool t, .slice b m d] #[.bool false, .slice none 0 0, .slice none 0 0] 82 82 42
  obtain ⟨x0, x1, -, -⟩ := b1.cells2
  obtain ⟨z0, z1, -, -⟩ := b2.cells2
  unfold mkT mkE
  rcases Nat.eq_zero_or_pos (val ys) with h0 | h0
  · rw [if_pos h0, if_pos h0]
    rw [h0, nbits_zero] at B
    obtain ⟨y0, y1, y2, g0, g1, g2⟩ := b3.cells3
    clear h k hx hy hn hm h0 G
    go_enter Tryz.func159, Tryz.ntmps159
    go_wp2_with (go_at_call 171; (with_reducible refine Calls.mono (B _ bV) ?_); rintro e w1 ⟨rfl, rfl⟩)
    exact bodyPost_ret (v := .tuple #[.agg #[.bool false, .slice none 0 0, .slice none 0 0], .int .i64 3]) (by simp [results, Tryz.results159, go_sem, y0, y1, y2]) rfl (ansTE_no bV)
  · rw [if_neg (by omega), if_neg (by omega)]
    have nb : ((nbits (val ys) : Int) == 0) = false := by have := nbits_pos (n := val ys) (by omega); simp; omega
    have L := fun v (hb : Below w.heap.size w v) => rat_lowest' (k := 10000) (q := rv (!(s == t)) (val xs) (val ys)) (w := v) (s := !(s == t)) ⟨xs, ys, h.below hb, hx, k.below hb, hy, hn, hm, h0, rfl⟩ (by omega)
    generalize tri (rv (!(s == t)) (val xs) (val ys)) = tt at L ⊢
    obtain ⟨t0, tN, tD⟩ := tt
    unfold AnsT at L
    dsimp only at L
    clear h k hx hy hn hm h0
    generalize (nbits (val ys) : Int) = nn at *
    go_enter Tryz.func159, Tryz.ntmps159
    go_wp2_with (first
      | (go_at_call 171; (with_reducible refine Calls.mono (B _ bV) ?_); rintro e w1 ⟨rfl, rfl⟩)
      | (go_at_call 172; (with_reducible refine Calls.mono (G _) ?_); rintro e w1 ⟨rfl, bs⟩)
      | (go_at_call 173; (with_reducible refine Calls.mono (L _ (below_more bV bs)) ?_); rintro e w9 ⟨a8, c8, a9, c9, rfl, o8, o9⟩; have d9 := o8.below; replace o8 := o8.outer (below_more bV bs); replace o9 := o9.outer (below_more bV bs); replace bs := below_more bs d9; obtain ⟨y0, y1, y2, g0, g1, g2⟩ := (b3.more bs).cells3))
    exact bodyPost_ret (v := .tuple #[.agg #[.bool t0, .slice a8 (nl tN) c8, .slice a9 (nl tD) c9], .int .i64 0]) (by simp [results, Tryz.results159, go_sem, y0, y1, y2]) rfl (ansTE_mk (o8.box3 (b3.more bs) rat_ne_u32 (by omega) _ _ _) (o9.box3 (b3.more bs) rat_ne_u32 (by omega) _ _ _))
end Go.Proofs.YtbcfplaalepnbaaGreatDoor
namespace Go.Proofs.YtbcfplaalepnbaaGreatDoor
open Go.RowKit
theorem words_right {w : World} {a : Option Addr} {n c : Nat} {zs : List Int} (h : IsWords w (.slice a n c) zs) (hz : Wd zs) : lowN zs n = n ↔ natOf (val zs) = zs := by
  have h1 := (h.low hz).1
  have h2 := h.len
  constructor
  · intro e
    rw [h1] at e
    rw [← (h.low hz).2.1, e, ← h2, List.take_length]
  · intro e
    rw [h1]; unfold nl; rw [e, h2]
theorem right_no {s : Bool} {xs ys : List Int} {q : Rat} (h : decide (q.num < 0) = s ∧ natOf q.num.natAbs = xs ∧ natOf q.den = ys) : natOf (val xs) = xs ∧ natOf (val ys) = ys ∧ 0 < val ys ∧ ¬ (s = true ∧ val xs = 0) ∧ Nat.gcd (val xs) (val ys) = 1 := by
  obtain ⟨e1, e2, e3⟩ := h
  have v1 : val xs = q.num.natAbs := by rw [← e2, val_natOf]
  have v2 : val ys = q.den := by rw [← e3, val_natOf]
  refine ⟨by rw [v1]; exact e2, by rw [v2]; exact e3, by rw [v2]; exact q.den_pos, ?_, by rw [v1, v2]; exact q.reduced⟩
  rintro ⟨h1, h2⟩
  rw [h1] at e1
  have := of_decide_eq_true e1
  omega
theorem right_yes {s : Bool} {xs ys : List Int} {q : Rat} (hq : rv s (val xs) (val ys) = q) (h1 : natOf (val xs) = xs) (h2 : natOf (val ys) = ys) (h3 : 0 < val ys) (h4 : ¬ (s = true ∧ val xs = 0)) (h5 : Nat.gcd (val xs) (val ys) = 1) : decide (q.num < 0) = s ∧ natOf q.num.natAbs = xs ∧ natOf q.den = ys := by
  subst hq
  rw [rv_num _ _ _ h3, rv_den _ _ _ h3, h5, Nat.div_one, Nat.div_one, iv_abs, iv_neg]
  refine ⟨?_, h1, h2⟩
  cases s
  · rfl
  · rw [Bool.true_and]; exact decide_eq_true (by have : val xs ≠ 0 := fun e => h4 ⟨rfl, e⟩; omega)
set_option maxHeartbeats 4000000 in
theorem rat_right {s : Bool} {a : Option Addr} {n c : Nat} {xs : List Int} {b : Option Addr} {m d : Nat} {ys : List Int} {w : World} (h : IsWords w (.slice a n c) xs) (hx : Wd xs) (k : IsWords w (.slice b m d) ys) (hy : Wd ys) (hn : n ≤ 10000) (hm : m ≤ 10000) (q : Rat) (hq : rv s (val xs) (val ys) = q)
    (r : Bool) (hr : decide (decide (q.num < 0) = s ∧ natOf q.num.natAbs = xs ∧ natOf q.den = ys) = r) : Calls Tryz.prog 141 #[.agg #[.bool s, .slice a n c, .slice b m d]] w fun e w' => e = .returned (.bool r) ∧ Below w.heap.size w w' := by
  have R1 := fun v (hb : Below w.heap.size w v) => nat_Right a n c xs v (h.below hb)
  have R2 := fun v (hb : Below w.heap.size w v) => nat_Right b m d ys v (k.below hb)
  have AP := fun v (hb : Below w.heap.size w v) => common_apart (h.below hb) hx (k.below hb) hy (by omega) (by omega)
  have w1 := words_right h hx
  have w2 := words_right k hy
  have n0 : n = 0 → val xs = 0 := fun e => by
    have := h.len; subst e; rw [List.eq_nil_of_length_eq_zero this]; rfl
  have m0 : natOf (val ys) = ys → m ≠ 0 → 0 < val ys := fun e hm0 => by
    rcases Nat.eq_zero_or_pos (val ys) with e1 | e1
    · rw [e1, natOf_zero] at e
      exact absurd (by have := k.len; rw [← e] at this; exact this.symm) hm0
    · exact e1
  have n0' : natOf (val xs) = xs → n ≠ 0 → val xs ≠ 0 := fun e hm0 e1 => by
    rw [e1, natOf_zero] at e
    exact hm0 (by have := h.len; rw [← e] at this; exact this.symm)
  have m0' : m = 0 → val ys = 0 := fun e => by
    have := k.len; subst e; rw [List.eq_nil_of_length_eq_zero this]; rfl
  have NO : ∀ (P : Prop), P → (natOf (val xs) = xs ∧ natOf (val ys) = ys ∧ 0 < val ys ∧ ¬ (s = true ∧ val xs = 0) ∧ Nat.gcd (val xs) (val ys) = 1 → ¬ P) → r = false := fun P p f => by
    rw [← hr]; exact decide_eq_false (fun g => f (right_no g) p)
  obtain ⟨b1, bV, hs⟩ := boxes1 w #[.bool s, .slice a n c, .slice b m d] 42
  obtain ⟨x0, x1, x2, -, -, -⟩ := b1.cells3
  by_cases c1 : natOf (val xs) = xs
  case neg =>
    have e := NO _ c1 (fun g => not_not_intro g.1)
    subst e
    have R3 := fun v hb => R1 v hb false (decide_eq_false (fun e => c1 (w1.1 e)))
    clear R1 R2 AP w1 w2 NO n0 m0 n0' m0' c1 hr hq hn hm h k hx hy
    go_enter Tryz.func141, Tryz.ntmps141
    go_wp2_with (go_at_call 154; (with_reducible refine Calls.mono (R3 _ bV) ?_); rintro e w3 ⟨rfl, rfl⟩)
    go_ret
    exact ⟨rfl, bV⟩
  have R3 := fun v hb => R1 v hb true (decide_eq_true (w1.2 c1))
  by_cases c2 : natOf (val ys) = ys
  case neg =>
    have e := NO _ c2 (fun g => not_not_intro g.2.1)
    subst e
    have R4 := fun v hb => R2 v hb false (decide_eq_false (fun e => c2 (w2.1 e)))
    clear R1 R2 AP w1 w2 NO n0 m0 n0' m0' c1 c2 hr hq hn hm h k hx hy
    go_enter Tryz.func141, Tryz.ntmps141
    go_wp2_with (first
      | (go_at_call 154; (with_reducible refine Calls.mono (R3 _ bV) ?_); rintro e w3 ⟨rfl, rfl⟩)
      | (go_at_call 154; (with_reducible refine Calls.mono (R4 _ bV) ?_); rintro e w3 ⟨rfl, rfl⟩))
    go_ret
    exact ⟨rfl, bV⟩
  have R4 := fun v hb => R2 v hb true (decide_eq_true (w2.2 c2))
  by_cases c3 : m = 0
  case pos =>
    have e := NO _ (m0' c3) (fun g => by omega)
    subst e
    subst c3
    clear R1 R2 AP w1 w2 NO n0 m0 n0' m0' c1 c2 hr hq hn hm h k hx hy
    go_enter Tryz.func141, Tryz.ntmps141
    go_wp2_with (first
      | (go_at_call 154; (with_reducible refine Calls.mono (R3 _ bV) ?_); rintro e w3 ⟨rfl, rfl⟩)
      | (go_at_call 154; (with_reducible refine Calls.mono (R4 _ bV) ?_); rintro e w3 ⟨rfl, rfl⟩))
    go_ret
    exact ⟨rfl, bV⟩
  have c3' : (0 : Int) < (m : Int) := by omega
  have p3 := m0 c2 c3
  by_cases c4 : s = true ∧ n = 0
  case pos =>
    have e := NO (s = true ∧ val xs = 0) ⟨c4.1, n0 c4.2⟩ (fun g => g.2.2.2.1)
    subst e
    obtain ⟨rfl, rfl⟩ := c4
    clear R1 R2 AP w1 w2 NO n0 m0 n0' m0' c1 c2 hr hq hn hm h k hx hy p3
    go_enter Tryz.func141, Tryz.ntmps141
    go_wp2_with (first
      | (go_at_call 154; (with_reducible refine Calls.mono (R3 _ bV) ?_); rintro e w3 ⟨rfl, rfl⟩)
      | (go_at_call 154; (with_reducible refine Calls.mono (R4 _ bV) ?_); rintro e w3 ⟨rfl, rfl⟩))
    go_ret
    exact ⟨rfl, bV⟩
  have e5 : decide (Nat.gcd (val xs) (val ys) = 1) = r := by
    rw [← hr]
    by_cases g : Nat.gcd (val xs) (val ys) = 1
    · rw [decide_eq_true g, decide_eq_true (right_yes hq c1 c2 p3 (fun e => n0' c1 (fun e2 => c4 ⟨e.1, e2⟩) e.2) g)]
    · rw [decide_eq_false g, decide_eq_false (fun e => g (right_no e).2.2.2.2)]
  have A2 := fun v hb => AP v hb r e5
  have c5 : s = false ∨ s = true ∧ ((n : Int) == 0) = false := by
    cases s
    · exact .inl rfl
    · have hn0 : n ≠ 0 := fun e => c4 ⟨rfl, e⟩
      exact .inr ⟨rfl, by simp; omega⟩
  clear R1 R2 AP w1 w2 NO n0 m0 n0' m0' c1 c2 c3 c4 hr hq hn hm h k hx hy p3 e5
  rcases c5 with rfl | ⟨rfl, c5⟩
  all_goals
    go_enter Tryz.func141, Tryz.ntmps141
    go_wp2_with (first
      | (go_at_call 154; (with_reducible refine Calls.mono (R3 _ bV) ?_); rintro e w3 ⟨rfl, rfl⟩)
      | (go_at_call 154; (with_reducible refine Calls.mono (R4 _ bV) ?_); rintro e w3 ⟨rfl, rfl⟩)
      | (go_at_call 155; (with_reducible refine Calls.mono (A2 _ bV) ?_); rintro e w4 ⟨rfl, d4⟩))
    go_ret
    exact ⟨rfl, below_more bV d4⟩
end Go.Proofs.YtbcfplaalepnbaaGreatDoor
namespace Go.Proofs.YtbcfplaalepnbaaGreatDoor
open Go.RowKit
theorem index_stroke (l : List UInt8) : Go.Lib.indexByte l 124 = if strokeAt l < l.length then (strokeAt l : Int) else -1 := by
  induction l with
  | nil => rfl
  | cons c l ih =>
    unfold Go.Lib.indexByte
    rw [stroke_cons, ih, List.length_cons]
    by_cases h : c = 124
    · subst h; simp
    · have h' : (c == 124) = false := by simpa using h
      simp only [h', if_neg h, Bool.false_eq_true, if_false]
      by_cases hl : strokeAt l < l.length
      · have : (((strokeAt l : Nat) : Int) == -1) = false := by simp
        simp only [if_pos hl, this, Bool.false_eq_true, if_false]
        rw [if_pos (by omega)]; omega
      · simp only [if_neg hl]
        rw [if_neg (by omega : ¬ strokeAt l + 1 < l.length + 1)]; rfl
set_option maxHeartbeats 4000000 in
set_option maxRecDepth 100000 in
theorem index_byte (s : ByteArray) (w : World) (c : Int) (hc : c = 124) : Calls Tryz.prog 208 #[.string s, .int .u8 c] w fun e w' => e = .returned (.int .i64 (Go.Lib.indexByte s.data.toList 124)) ∧ w = w' := by
  subst hc
  have R := fun v => Go.Lib.run_indexByteString (P := Tryz.prog) s 124 v
  rw [show (124 : Int).toNat.toUInt8 = 124 from rfl] at R
  generalize Go.Lib.indexByte s.data.toList 124 = I at *
  go_enter Tryz.func208, Tryz.ntmps208
  go_wp2
  rw [run_callFunc_extern Tryz.func228 (by kernel_rfl) (by kernel_rfl) (by kernel_rfl) (e := Extern.BytealgIndexByte.indexByte) (by kernel_rfl), R]
  simp only [Result.andThen]
  rw [Oper.upon_value]
  go_wp2
  go_ret
  exact ⟨rfl, rfl⟩
set_option maxHeartbeats 4000000 in
set_option maxRecDepth 100000 in
theorem index_at (s : ByteArray) (w : World) (I : Int) (hI : Go.Lib.indexByte s.data.toList 124 = I) :
    Calls Tryz.prog 188 #[.string s, .string ⟨#[124]⟩] w fun e w' => e = .returned (.int .i64 I) ∧ w = w' := by
  have B := fun v c hc => index_byte s v c hc
  have h0 : ([124] == s.toList) = true ∧ I = 0 ∨ ([124] == s.toList) = false := by
    cases h : ([124] == s.toList)
    · exact .inr rfl
    · refine .inl ⟨rfl, ?_⟩
      have e : s.data.toList = [124] := by rw [← ByteArray.toList_eq]; exact (beq_iff_eq.1 h).symm
      rw [← hI, e]; rfl
  rw [hI] at B
  clear hI
  rcases h0 with ⟨h0, rfl⟩ | h0
  all_goals
    go_enter Tryz.func188, Tryz.ntmps188
    go_wp2_with (go_at_call 208; (with_reducible refine Calls.mono (B _ _ (by decide)) ?_); rintro e w1 ⟨rfl, rfl⟩)
    go_ret
    exact ⟨rfl, rfl⟩
set_option maxHeartbeats 4000000 in
theorem cut_no (s : ByteArray) (w : World) (h : ¬ strokeAt s.data.toList < s.size) : Calls Tryz.prog 157 #[.string s, .string ⟨#[124]⟩] w fun e w' => e = .returned (.tuple #[.string s, .string ⟨#[]⟩, .bool false]) ∧ Below w.heap.size w w' := by
  have X := fun v => index_at s v (-1) (by rw [index_stroke, if_neg (by simpa using h)])
  have C : ∀ v, Calls Tryz.prog 169 #[.string s, .string ⟨#[124]⟩] v fun e w' => e = .returned (.tuple #[.string s, .string ⟨#[]⟩, .bool false]) ∧ Below v.heap.size v w' := by
    intro v
    go_enter Tryz.func169, Tryz.ntmps169
    go_wp2_with (go_at_call 188; (with_reducible refine Calls.mono (X _) ?_); rintro e w1 ⟨rfl, rfl⟩)
    go_ret3
    exact ⟨rfl, Below.refl _ _⟩
  go_enter Tryz.func157, Tryz.ntmps157
  go_wp2_with (go_at_call 169; (with_reducible refine Calls.mono (C _) ?_); rintro e w1 ⟨rfl, d1⟩)
  go_ret3
  exact ⟨rfl, d1⟩
set_option maxHeartbeats 4000000 in
theorem cut_yes (s : ByteArray) (hs : s.size ≤ maxLen) (w : World) (A : Nat) (hA : strokeAt s.data.toList = A) (h : A < s.size) : Calls Tryz.prog 157 #[.string s, .string ⟨#[124]⟩] w fun e w' => e = .returned (.tuple #[.string (s.extract 0 A), .string (s.extract (A + 1) s.size), .bool true]) ∧ Below w.heap.size w w' := by
  have X := fun v => index_at s v (A : Int) (by rw [index_stroke, hA, if_pos (by simpa using h)])
  have C : ∀ v, Calls Tryz.prog 169 #[.string s, .string ⟨#[124]⟩] v fun e w' => e = .returned (.tuple #[.string (s.extract 0 A), .string (s.extract (A + 1) s.size), .bool true]) ∧ Below v.heap.size v w' := by
    intro v
    unfold maxLen at hs
    have c1 : (0 : Int) ≤ (A : Int) := by omega
    have c2 : (A : Int) ≤ (s.size : Int) := by omega
    have c3 : (0 : Int) ≤ (A : Int) + 1 := by omega
    have c4 : (A : Int) + 1 ≤ (s.size : Int) := by omega
    have c5 : IntKind.i64.wrap ((A : Int) + 1) = (A : Int) + 1 := by rw [IntKind.wrap_i64]; omega
    clear hA h hs
    go_enter Tryz.func169, Tryz.ntmps169
    go_wp2_with (go_at_call 188; (with_reducible refine Calls.mono (X _) ?_); rintro e w1 ⟨rfl, rfl⟩)
    go_quiet (fail)
    go_wp2
    go_ret3
    exact ⟨rfl, below_drewN (Below.refl _ _) _⟩
  clear hA h hs X
  go_enter Tryz.func157, Tryz.ntmps157
  go_wp2_with (go_at_call 169; (with_reducible refine Calls.mono (C _) ?_); rintro e w1 ⟨rfl, d1⟩)
  go_ret3
  exact ⟨rfl, d1⟩
theorem cut_parts (s : ByteArray) (hs : s.size ≤ maxLen) : ∃ (f u : ByteArray) (ct : Bool), (∀ v, Calls Tryz.prog 157 #[.string s, .string ⟨#[124]⟩] v fun e w' => e = .returned (.tuple #[.string f, .string u, .bool ct]) ∧ Below v.heap.size v w') ∧ f.data.toList = frontR s.data.toList ∧ f.size ≤ maxLen ∧ u.size ≤ maxLen ∧ (ct = false ∧ restR s.data.toList = [] ∨ ct = true ∧ ∃ c, restR s.data.toList = c :: u.data.toList) := by
  have hsz : s.data.toList.length = s.size := by simp
  have hle := stroke_le s.data.toList
  rw [hsz] at hle
  by_cases h : strokeAt s.data.toList < s.size
  · refine ⟨_, _, true, fun v => cut_yes s hs v _ rfl h, ?_, ?_, ?_, .inr ⟨rfl, s[strokeAt s.data.toList], ?_⟩⟩
    · rw [extract_front, front_take]
    · rw [ByteArray.size_extract]; omega
    · rw [ByteArray.size_extract]; omega
    · rw [rest_drop, extract_rest]; exact drop_byte s _ h
  · refine ⟨_, _, false, fun v => cut_no s v h, ?_, hs, Nat.zero_le _, .inl ⟨rfl, ?_⟩⟩
    · rw [front_take, List.take_of_length_le (by omega)]
    · rw [rest_drop, List.drop_of_length_le (by omega)]
set_option maxHeartbeats 8000000 in
theorem rat_parse (s : ByteArray) (w : World) (hs : s.size ≤ maxLen) : Calls Tryz.prog 148 #[.string s] w (AnsTE w (parT s.data.toList) (parE s.data.toList)) := by
  obtain ⟨f, u, ct, CU, hf, lf, lu, hc⟩ := cut_parts s hs
  have P1 := fun v => whole_parse f v lf
  have P2 := fun v => deci_parse u v lu
  rw [hf] at P1
  have lz : nl (znum (frontR s.data.toList)).natAbs ≤ 1001 := by unfold znum; rw [iv_abs]; exact pnum_words _
  have lu2 : nl (pnum u.data.toList) ≤ 1001 := pnum_words _
  unfold AnsIP at P1
  unfold AnsP at P2
  obtain ⟨b1, bV, hs⟩ := boxes1 w #[.bool false, .slice none 0 0, .slice none 0 0] 42
  by_cases hz : zerr (frontR s.data.toList) = 0
  case neg =>
    obtain ⟨e1, e2⟩ := par_err hz
    rw [e1, e2]
    have hz2 : (zerr (frontR s.data.toList) == 0) = false := by simpa using hz
    generalize zerr (frontR s.data.toList) = E1 at *
    generalize znum (frontR s.data.toList) = Z at *
    generalize decide (Z < 0) = gZ at *
    generalize Z.natAbs = NZ at *
    clear hf lf lu hc lz lu2 e1 e2 hz P2
    go_enter Tryz.func148, Tryz.ntmps148
    go_wp2_with (first
      | (go_at_call 157; (with_reducible refine Calls.mono (CU _) ?_); rintro e w0 ⟨rfl, d0⟩)
      | (go_at_call 158; (with_reducible refine Calls.mono (P1 _) ?_); rintro e w1 ⟨a1, c1, rfl, o1⟩; have d1 := below_more d0 o1.below; obtain ⟨y0, y1, y2, g0, g1, g2⟩ := (b1.more d1).cells3; have R := fun o => ((b1.more d1).alloc o).cells3; have u0 := fun o => (R o).1; have u1 := fun o => (R o).2.1; have u2 := fun o => (R o).2.2.1; have v0 := fun o => (R o).2.2.2.1; have v1 := fun o => (R o).2.2.2.2.1; have v2 := fun o => (R o).2.2.2.2.2; clear R))
    have bw := below_more bV d1
    have q := fun x y z o => (((b1.more d1).alloc o).set3 x y z).cells3
    have q0 := fun x y z o => (q x y z o).1
    have q1 := fun x y z o => (q x y z o).2.1
    have q2 := fun x y z o => (q x y z o).2.2.1
    exact bodyPost_ret (v := .tuple #[.agg #[.bool false, .slice none 0 0, .slice none 0 0], .int .i64 E1]) (by simp [results, Tryz.results148, go_sem, q0, q1, q2]) rfl (ansTE_no (below_set3 (bw.alloc bw.size _) (by omega) _ _ _))
  rw [hz] at P1
  rcases hc with ⟨rfl, hr⟩ | ⟨rfl, c, hr⟩
  · obtain ⟨e1, e2⟩ := par_none hz hr
    rw [e1, e2]
    have O := fun v => whole_of 1 v (by omega) (by omega)
    unfold AnsI at O
    rw [show decide ((1 : Int) < 0) = false from rfl, show (1 : Int).natAbs = 1 from rfl] at O
    have l1 : nl 1 ≤ 1 := nl_le 1 1 (by omega)
    have MK := fun v a1 c1 a2 c2 (p : IsWords v (.slice a1 (nl (znum (frontR s.data.toList)).natAbs) c1) (natOf (znum (frontR s.data.toList)).natAbs)) (p' : IsWords v (.slice a2 (nl 1) c2) (natOf 1)) => rat_make (s := decide (znum (frontR s.data.toList) < 0)) (t := false) p (wd_natOf _) p' (wd_natOf _) (by omega) (by omega)
    simp only [val_natOf] at MK
    generalize mkT (decide (znum (frontR s.data.toList) < 0)) (znum (frontR s.data.toList)).natAbs false 1 = tt at *
    generalize mkE 1 = EE at *
    obtain ⟨t0, tN, tD⟩ := tt
    unfold AnsTE at MK
    dsimp only at MK
    generalize znum (frontR s.data.toList) = Z at *
    generalize decide (Z < 0) = gZ at *
    generalize Z.natAbs = NZ at *
    generalize nl 1 = one at *
    clear hf lf lu lz lu2 e1 e2 hz P2 hr l1
    go_enter Tryz.func148, Tryz.ntmps148
    go_wp2_with (first
      | (go_at_call 157; (with_reducible refine Calls.mono (CU _) ?_); rintro e w0 ⟨rfl, d0⟩)
      | (go_at_call 158; (with_reducible refine Calls.mono (P1 _) ?_); rintro e w1 ⟨a1, c1, rfl, o1⟩))
    have d1 := below_more d0 o1.below
    have BN := BoxC.new w1 #[.bool gZ, .slice a1 (nl NZ) c1] 82
    have BR := (b1.more d1).alloc (.cells #[.bool gZ, .slice a1 (nl NZ) c1] 82)
    have o4 := (o1.outer (below_more bV d0)).alloc (.cells #[.bool gZ, .slice a1 (nl NZ) c1] 82)
    have hk3 : w.heap.size < w1.heap.size := (b1.more d1).lt
    clear o1 d0 d1 b1 bV hs CU P1
    generalize w1.heap.size = k3 at *
    generalize w1.alloc (.cells #[.bool gZ, .slice a1 (nl NZ) c1] 82) = V at *
    have SO := fun v (hb : Below V.heap.size V v) => (show v.cell? ⟨k3, 0, none⟩ = some (.bool gZ) ∧ v.cell? ⟨k3, 1, none⟩ = some (.slice a1 (nl NZ) c1) from ⟨(BN.more hb).cells2.1, (BN.more hb).cells2.2.1⟩)
    have SR := fun v (hb : Below V.heap.size V v) x0 x1 x2 => (show (((v.setCell ⟨w.heap.size, 0, none⟩ x0).setCell ⟨w.heap.size, 1, none⟩ x1).setCell ⟨w.heap.size, 2, none⟩ x2).cell? ⟨k3, 0, none⟩ = some (.bool gZ) ∧ (((v.setCell ⟨w.heap.size, 0, none⟩ x0).setCell ⟨w.heap.size, 1, none⟩ x1).setCell ⟨w.heap.size, 2, none⟩ x2).cell? ⟨k3, 1, none⟩ = some (.slice a1 (nl NZ) c1) from ⟨(((((BN.more hb).other (by omega) _).other (by omega) _).other (by omega) _)).cells2.1, (((((BN.more hb).other (by omega) _).other (by omega) _).other (by omega) _)).cells2.2.1⟩)
    have bs : Below V.heap.size V V.drew := (Below.refl _ _).drew
    clear BN
    go_region_held3 (fun v => v.cell? ⟨k3, 0, none⟩ = some (.bool gZ) ∧ v.cell? ⟨k3, 1, none⟩ = some (.slice a1 (nl NZ) c1))
      (first | with_reducible exact SO _ bs | with_reducible exact SR _ bs _ _ _)
      (first
      | (go_at_call 160; (with_reducible refine Calls.mono (O _) ?_); rintro e w2 ⟨a2, c2, rfl, o2⟩; replace bs := below_more bs o2.below)
      | (go_at_call 159; (with_reducible refine Calls.mono (MK _ _ _ _ _ (o4.more bs).words o2.words) ?_); rintro e w9 ⟨a8, c8, a9, c9, rfl, o8, o9⟩; have d9 := o8.below; replace o8 := o8.outer (below_more o4.below bs); replace o9 := o9.outer (below_more o4.below bs); replace bs := below_more bs d9; obtain ⟨y0, y1, y2, g0, g1, g2⟩ := (BR.more bs).cells3))
    all_goals
      go_wp2
      exact bodyPost_ret (v := .tuple #[.agg #[.bool t0, .slice a8 (nl tN) c8, .slice a9 (nl tD) c9], .int .i64 EE]) (by simp [results, Tryz.results148, go_sem, y0, y1, y2]) rfl (ansTE_mk (o8.box3 (BR.more bs) rat_ne_u32 (by omega) _ _ _) (o9.box3 (BR.more bs) rat_ne_u32 (by omega) _ _ _))
  · by_cases hp : perr u.data.toList = 0
    case neg =>
      obtain ⟨e1, e2⟩ := par_rest hz hr hp
      rw [e1, e2]
      have hp2 : (perr u.data.toList == 0) = false := by simpa using hp
      generalize perr u.data.toList = E1 at *
      generalize pnum u.data.toList = NP at *
      generalize znum (frontR s.data.toList) = Z at *
      generalize decide (Z < 0) = gZ at *
      generalize Z.natAbs = NZ at *
      clear hf lf lu lz lu2 e1 e2 hz hp hr
      go_enter Tryz.func148, Tryz.ntmps148
      go_wp2_with (first
        | (go_at_call 157; (with_reducible refine Calls.mono (CU _) ?_); rintro e w0 ⟨rfl, d0⟩)
        | (go_at_call 158; (with_reducible refine Calls.mono (P1 _) ?_); rintro e w1 ⟨a1, c1, rfl, o1⟩; have d1 := below_more d0 o1.below; have bw := fun o => (below_more bV d1).alloc (below_more bV d1).size o; have BW := fun o => (b1.more d1).alloc o)
        | (go_at_call 161; (with_reducible refine Calls.mono (P2 _) ?_); rintro e w2 ⟨a2, c2, rfl, o2⟩; have d2 := o2.below; obtain ⟨y0, y1, y2, g0, g1, g2⟩ := ((BW _).more d2).cells3))
      exact bodyPost_ret (v := .tuple #[.agg #[.bool false, .slice none 0 0, .slice none 0 0], .int .i64 E1]) (by simp [results, Tryz.results148, go_sem, y0, y1, y2]) rfl (ansTE_no (below_set3 (below_more (bw _) d2) (by omega) _ _ _))
    obtain ⟨e1, e2⟩ := par_both hz hr hp
    rw [e1, e2]
    rw [hp] at P2
    have MK := fun v a1 c1 a2 c2 (p : IsWords v (.slice a1 (nl (znum (frontR s.data.toList)).natAbs) c1) (natOf (znum (frontR s.data.toList)).natAbs)) (p' : IsWords v (.slice a2 (nl (pnum u.data.toList)) c2) (natOf (pnum u.data.toList))) => rat_make (s := decide (znum (frontR s.data.toList) < 0)) (t := false) p (wd_natOf _) p' (wd_natOf _) (by omega) (by omega)
    simp only [val_natOf] at MK
    generalize mkT (decide (znum (frontR s.data.toList) < 0)) (znum (frontR s.data.toList)).natAbs false (pnum u.data.toList) = tt at *
    generalize mkE (pnum u.data.toList) = EE at *
    obtain ⟨t0, tN, tD⟩ := tt
    unfold AnsTE at MK
    dsimp only at MK
    generalize pnum u.data.toList = NP at *
    generalize znum (frontR s.data.toList) = Z at *
    generalize decide (Z < 0) = gZ at *
    generalize Z.natAbs = NZ at *
    clear hf lf lu lz lu2 e1 e2 hz hp hr
    go_enter Tryz.func148, Tryz.ntmps148
    go_wp2_with (first
      | (go_at_call 157; (with_reducible refine Calls.mono (CU _) ?_); rintro e w0 ⟨rfl, d0⟩)
      | (go_at_call 158; (with_reducible refine Calls.mono (P1 _) ?_); rintro e w1 ⟨a1, c1, rfl, o1⟩; have d1 := below_more d0 o1.below; have o3 := o1.outer (below_more bV d0); have bw := fun o => (below_more bV d1).alloc (below_more bV d1).size o; have BW := fun o => (b1.more d1).alloc o; have BN := BoxC.new w1 #[.bool gZ, .slice a1 (nl NZ) c1] 82)
      | (go_at_call 161; (with_reducible refine Calls.mono (P2 _) ?_); rintro e w2 ⟨a2, c2, rfl, o2⟩; have d2 := o2.below; obtain ⟨x0, x1, -, -⟩ := (BN.more d2).cells2)
      | (go_at_call 159; (with_reducible refine Calls.mono (MK _ _ _ _ _ ((o3.alloc _).more d2).words o2.words) ?_); rintro e w9 ⟨a8, c8, a9, c9, rfl, o8, o9⟩; have d9 := o8.below; replace o8 := o8.outer (below_more (bw _) d2); replace o9 := o9.outer (below_more (bw _) d2); have BR := ((BW _).more d2).more d9; obtain ⟨y0, y1, y2, g0, g1, g2⟩ := BR.cells3))
    exact bodyPost_ret (v := .tuple #[.agg #[.bool t0, .slice a8 (nl tN) c8, .slice a9 (nl tD) c9], .int .i64 EE]) (by simp [results, Tryz.results148, go_sem, y0, y1, y2]) rfl (ansTE_mk (o8.box3 (BR) rat_ne_u32 (by omega) _ _ _) (o9.box3 (BR) rat_ne_u32 (by omega) _ _ _))
end Go.Proofs.YtbcfplaalepnbaaGreatDoor
namespace Go.Proofs.YtbcfplaalepnbaaGreatDoor
open Go.RowKit Go.Lib
theorem place_zero (s : ByteArray) : placeI s 0 = (1, 1) := by
  rcases Nat.eq_zero_or_pos s.size with h | h
  · have := At.last (s := s) (by rw [h]; exact At.zero s) (at_ := 0) (by omega)
    exact this
  · have hn := next_size h
    exact (At.zero s).here (by omega) (by omega) h
theorem BoxC.iterAt {v : World} {k g : Nat} {cs : Array Value} {T : TypeId} (h : BoxC v k cs T) (s : ByteArray) (pos : Nat) (hk : k ≠ g) : BoxC (v.iterAt g s pos) k cs T := (iterAt_other v g k s pos hk).trans h
theorem iter_set {v : World} {k g i : Nat} {s : ByteArray} {pos : Nat} (h : v.heap[k]? = some (.stringIter s pos)) (hk : k ≠ g) (x : Value) : (v.setCell ⟨g, i, none⟩ x).heap[k]? = some (.stringIter s pos) := by
  rw [Below.heap_setCell v ⟨g, i, none⟩ x k (by simpa using hk)]; exact h
end Go.Proofs.YtbcfplaalepnbaaGreatDoor
namespace Go.Proofs.YtbcfplaalepnbaaGreatDoor
open Go.RowKit Go.Lib
theorem placeF_above (s : ByteArray) {j : Int} (h : (s.size : Int) ≤ j) : ∀ f i l c, placeF s j f i l c = placeF s s.size f i l c := by
  intro f
  induction f with
  | zero => intro i l c; rfl
  | succ f ih =>
    intro i l c
    unfold placeF
    by_cases hi : i < s.size
    · have := next_size hi
      rw [if_pos hi, if_pos hi, if_neg (show ¬ j < (i : Int) + nextN s i by omega), if_neg (show ¬ (s.size : Int) < (i : Int) + nextN s i by omega), ih]
    · rw [if_neg hi, if_neg hi]
set_option maxHeartbeats 8000000 in
theorem sign_place (s : ByteArray) (j : Int) (w : World) (hs : s.size ≤ 1000000) (hj0 : -9223372036854775808 ≤ j) (hj1 : j < 9223372036854775808) :
    Calls Tryz.prog 23 #[.string s, .int .i64 j] w (AnsL w (placeI s j)) := by
  obtain ⟨a, ha, hp, hc⟩ : ∃ a : Nat, a ≤ s.size ∧ placeI s j = placeI s a ∧ ((j < 0 ∧ a = 0) ∨ (¬ j < 0 ∧ ¬ (s.size : Int) < j ∧ j = a) ∨ (¬ j < 0 ∧ (s.size : Int) < j ∧ a = s.size)) := by
    rcases (by omega : j < 0 ∨ (0 ≤ j ∧ j ≤ s.size) ∨ (0 ≤ j ∧ (s.size : Int) < j)) with h | ⟨h0, h⟩ | ⟨h0, h⟩
    · exact ⟨0, Nat.zero_le _, (place_low s h).trans (place_zero s).symm, .inl ⟨h, rfl⟩⟩
    · obtain ⟨a, rfl⟩ := Int.eq_ofNat_of_zero_le h0
      exact ⟨a, by omega, rfl, .inr (.inl ⟨by omega, by omega, rfl⟩)⟩
    · exact ⟨s.size, Nat.le_refl _, placeF_above s (Int.le_of_lt h) _ _ _ _, .inr (.inr ⟨by omega, h, rfl⟩)⟩
  rw [hp]
  clear hp hj0 hj1
  generalize hP : placeI s a = P
  have HP : Hid (placeI s a = P ∧ a ≤ s.size ∧ s.size ≤ 1000000) := ⟨hP, ha, hs⟩
  clear hP ha hs
  obtain ⟨B1, B2, B3, bV, hb⟩ := boxes3 w #[.int .i64 0, .int .i64 0] #[.int .i64 0, .int .i64 0] #[.int .i64 1, .int .i64 1] 29 29 29
  have hV : (((w.alloc (.cells #[.int .i64 0, .int .i64 0] 29)).alloc (.cells #[.int .i64 0, .int .i64 0] 29)).alloc (.cells #[.int .i64 1, .int .i64 1] 29)).heap.size = w.heap.size + 1 + 1 + 1 := by simp [World.size_alloc]
  clear hb
  rcases hc with ⟨c1, c2⟩ | ⟨c1, c2, rfl⟩ | ⟨c1, c2, c3⟩
  · go_enter Tryz.func23, Tryz.ntmps23
    go_wp2
    generalize ((w.alloc (.cells #[.int .i64 0, .int .i64 0] 29)).alloc (.cells #[.int .i64 0, .int .i64 0] 29)).alloc (.cells #[.int .i64 1, .int .i64 1] 29) = V at *
    have hit0 := iter_new V s
    have bI := below_more bV (below_iter V s 0)
    have BI1 := B1.more (below_iter V s 0)
    have BI2 := B2.more (below_iter V s 0)
    have BI3 := B3.more (below_iter V s 0)
    rw [hV] at hit0
    clear B1 B2 B3 bV hV
    go_loopg [7] s.size (fun g _ v => ∃ (pos : Nat) (l c l0 c0 : Int), pos + g = s.size ∧ v.heap[w.heap.size + 1 + 1 + 1]? = some (.stringIter s pos) ∧ BoxC v w.heap.size #[.int .i64 0, .int .i64 0] 29 ∧ BoxC v (w.heap.size + 1) #[.int .i64 l0, .int .i64 c0] 29 ∧ BoxC v (w.heap.size + 1 + 1) #[.int .i64 l, .int .i64 c] 29 ∧ Below w.heap.size w v ∧ At s pos l c ∧ 1 ≤ l ∧ l ≤ pos + 1 ∧ 1 ≤ c ∧ c ≤ pos + 1 ∧ (pos ≤ a ∨ (l0, c0) = P))
    case atStart => exact ⟨0, 1, 1, 0, 0, by omega, hit0, BI1, BI2, BI3, bI, At.zero s, by omega, by omega, by omega, by omega, .inl (Nat.zero_le _)⟩
    case round =>
      obtain ⟨pos, l, c, l0, c0, hg, hit, X1, X2, X3, bw, hA, hl1, hl2, hc1, hc2, hp⟩ := hrel
      clear hit0 BI1 BI2 BI3 bI
      obtain ⟨h1, h2, h3⟩ := HP.out
      rcases Nat.lt_or_ge pos s.size with hs | hs
      · have hnx : ∀ ty, (Instr.next (.pointer (some ⟨w.heap.size + 1 + 1 + 1, 0, none⟩)) true ty).run Tryz.prog wr = .ok (.tuple #[.bool true, .int .i64 pos, .int .i32 (nextR s pos)]) (wr.iterAt (w.heap.size + 1 + 1 + 1) s (pos + nextN s pos)) := fun ty => run_next_any_at wr (w.heap.size + 1 + 1 + 1) s pos ty hit hs
        have hi2 := iterAt_heap wr (w.heap.size + 1 + 1 + 1) s pos (pos + nextN s pos) hit
        have bw2 := below_iterAt bw (show w.heap.size ≤ w.heap.size + 1 + 1 + 1 by omega) s (pos + nextN s pos)
        have Y1 := X1.iterAt (g := w.heap.size + 1 + 1 + 1) s (pos + nextN s pos) (by omega)
        have Y2 := X2.iterAt (g := w.heap.size + 1 + 1 + 1) s (pos + nextN s pos) (by omega)
        have Y3 := X3.iterAt (g := w.heap.size + 1 + 1 + 1) s (pos + nextN s pos) (by omega)
        have hz := next_size hs
        by_cases hpa : a < pos
        · have hpa' : 0 < (pos : Int) := by omega
          have hlc : (l0, c0) = P := by rcases hp with hp | hp; omega; exact hp
          subst hlc
          obtain ⟨x0, x1, x2, x3⟩ := Y1.cells2
          obtain ⟨y0, y1, y2, y3⟩ := Y2.cells2
          generalize wr.iterAt (w.heap.size + 1 + 1 + 1) s (pos + nextN s pos) = wi at *
          clear hit X1 X2 X3 bw hA hp hpa Y1 Y2 Y3 hi2 hz h1 h2 h3 c1 c2
          go_wp2
          exact bodyPost_ret (v := .agg #[.int .i64 l0, .int .i64 c0]) (by simp [results, Tryz.results23, go_sem, x0, x1]) rfl ⟨rfl, (bw2.setCell (p := ⟨w.heap.size, 0, none⟩) (Nat.le_refl _) _).setCell (p := ⟨w.heap.size, 1, none⟩) (Nat.le_refl _) _⟩
        · have hpa' : ¬ 0 < (pos : Int) := by omega
          have HA : Hid (At s (pos + nextN s pos) (if nextR s pos = 10 then l + 1 else l) (if nextR s pos = 10 then 1 else c + 1)) := hA.next hs
          have HE : Hid (pos + nextN s pos ≤ a ∨ (l, c) = P) := by
            rcases Nat.lt_or_ge a (pos + nextN s pos) with q | q
            · exact .inr ((hA.here (at_ := (a : Int)) (by omega) (by omega) hs).symm.trans h1)
            · exact .inl q
          have HB : Hid (pos + gk = s.size ∧ pos + nextN s pos ≤ s.size ∧ 1 ≤ nextN s pos ∧ nextN s pos ≤ 4 ∧ 1 ≤ l ∧ l ≤ pos + 1 ∧ 1 ≤ c ∧ c ≤ pos + 1) := ⟨hg, hz.2.2, hz.1, hz.2.1, hl1, hl2, hc1, hc2⟩
          have CB := fun v => sign_behind l c (nextR s pos) (by omega) (by omega) (by omega) (by omega) v
          generalize wr.iterAt (w.heap.size + 1 + 1 + 1) s (pos + nextN s pos) = wi at *
          generalize nextR s pos = R at *
          generalize nextN s pos = M at *
          clear hit X1 X2 X3 bw hA hp hpa hz h1 h2 h3 hl1 hl2 hc1 hc2 hg c1 c2
          unfold AnsL at CB
          obtain ⟨p0, p1, p2, p3⟩ := Y3.drew.cells2
          obtain ⟨q0, q1, q2, q3⟩ := Y2.drew.cells2
          by_cases h10 : R = 10
          · have HA2 : Hid (At s (pos + M) (l + 1) (1)) := by have := HA.out; rw [if_pos h10, if_pos h10] at this; exact this
            rw [if_pos h10, if_pos h10] at CB
            dsimp only at CB
            clear HA h10
            go_wp2
            go_region_with (go_at_call 48; (with_reducible refine Calls.mono (CB _) ?_); rintro e w4' ⟨rfl, b4⟩; obtain ⟨p0, p1, p2, p3⟩ := (Y3.drew.more b4).cells2; obtain ⟨q0, q1, q2, q3⟩ := (Y2.drew.more b4).cells2)
            all_goals
              go_wp2
              have hB := HB.out
              have m1 : w.heap.size ≤ w.heap.size + 1 := by omega
              have m2 : w.heap.size ≤ w.heap.size + 1 + 1 := by omega
              go_roundg (s.size - (pos + M))
              case measure => omega
              case rel => exact ⟨pos + M, l + 1, 1, l, c, by omega, iter_set (iter_set (iter_set (iter_set (iter_more (show wi.drew.heap[w.heap.size + 1 + 1 + 1]? = _ from hi2) b4) (by omega) _) (by omega) _) (by omega) _) (by omega) _, (((((Y1.drew.more b4).other (by omega) _).other (by omega) _).other (by omega) _).other (by omega) _), (((((Y2.drew.more b4).set 0 (.int .i64 l)).set 1 (.int .i64 c)).other (by omega) _).other (by omega) _), (((((Y3.drew.more b4).other (by omega) _).other (by omega) _).set 0 (.int .i64 (l + 1))).set 1 (.int .i64 (1))), (((((below_more bw2.drew b4).setCell (p := ⟨w.heap.size + 1, 0, none⟩) m1 _).setCell (p := ⟨w.heap.size + 1, 1, none⟩) m1 _).setCell (p := ⟨w.heap.size + 1 + 1, 0, none⟩) m2 _).setCell (p := ⟨w.heap.size + 1 + 1, 1, none⟩) m2 _), HA2.out, by omega, by omega, by omega, by omega, HE.out⟩
          · have HA2 : Hid (At s (pos + M) (l) (c + 1)) := by have := HA.out; rw [if_neg h10, if_neg h10] at this; exact this
            rw [if_neg h10, if_neg h10] at CB
            dsimp only at CB
            clear HA h10
            go_wp2
            go_region_with (go_at_call 48; (with_reducible refine Calls.mono (CB _) ?_); rintro e w4' ⟨rfl, b4⟩; obtain ⟨p0, p1, p2, p3⟩ := (Y3.drew.more b4).cells2; obtain ⟨q0, q1, q2, q3⟩ := (Y2.drew.more b4).cells2)
            all_goals
              go_wp2
              have hB := HB.out
              have m1 : w.heap.size ≤ w.heap.size + 1 := by omega
              have m2 : w.heap.size ≤ w.heap.size + 1 + 1 := by omega
              go_roundg (s.size - (pos + M))
              case measure => omega
              case rel => exact ⟨pos + M, l, c + 1, l, c, by omega, iter_set (iter_set (iter_set (iter_set (iter_more (show wi.drew.heap[w.heap.size + 1 + 1 + 1]? = _ from hi2) b4) (by omega) _) (by omega) _) (by omega) _) (by omega) _, (((((Y1.drew.more b4).other (by omega) _).other (by omega) _).other (by omega) _).other (by omega) _), (((((Y2.drew.more b4).set 0 (.int .i64 l)).set 1 (.int .i64 c)).other (by omega) _).other (by omega) _), (((((Y3.drew.more b4).other (by omega) _).other (by omega) _).set 0 (.int .i64 (l))).set 1 (.int .i64 (c + 1))), (((((below_more bw2.drew b4).setCell (p := ⟨w.heap.size + 1, 0, none⟩) m1 _).setCell (p := ⟨w.heap.size + 1, 1, none⟩) m1 _).setCell (p := ⟨w.heap.size + 1 + 1, 0, none⟩) m2 _).setCell (p := ⟨w.heap.size + 1 + 1, 1, none⟩) m2 _), HA2.out, by omega, by omega, by omega, by omega, HE.out⟩
      · have hnx : ∀ ty, (Instr.next (.pointer (some ⟨w.heap.size + 1 + 1 + 1, 0, none⟩)) true ty).run Tryz.prog wr = .ok (.tuple #[.bool false]) wr := fun ty => run_next_end_at wr (w.heap.size + 1 + 1 + 1) s pos ty hit (by omega)
        obtain rfl : pos = s.size := by omega
        obtain ⟨x0, x1, x2, x3⟩ := X1.cells2
        obtain ⟨y0, y1, y2, y3⟩ := X2.cells2
        obtain ⟨z0, z1, z2, z3⟩ := X3.cells2
        by_cases hpa : a = s.size
        · have e : (0 == (s.size : Int)) = true := by rw [beq_iff_eq]; omega
          have hlc : (l, c) = P := by rw [← h1, hpa]; exact (hA.last (Int.le_refl _)).symm
          subst hlc
          clear hit X1 X2 X3 hA hp hpa h1 h2 h3 hg hs hl1 hl2 hc1 hc2 c1 c2
          go_wp2
          exact bodyPost_ret (v := .agg #[.int .i64 l, .int .i64 c]) (by simp [results, Tryz.results23, go_sem, x0, x1]) rfl ⟨rfl, (bw.setCell (p := ⟨w.heap.size, 0, none⟩) (Nat.le_refl _) _).setCell (p := ⟨w.heap.size, 1, none⟩) (Nat.le_refl _) _⟩
        · have e : (0 == (s.size : Int)) = false := by rw [beq_eq_false_iff_ne]; omega
          have hlc : (l0, c0) = P := by rcases hp with hp | hp; omega; exact hp
          subst hlc
          clear hit X1 X2 X3 hA hp hpa h1 h2 h3 hg hs hl1 hl2 hc1 hc2 c1 c2
          go_wp2
          exact bodyPost_ret (v := .agg #[.int .i64 l0, .int .i64 c0]) (by simp [results, Tryz.results23, go_sem, x0, x1]) rfl ⟨rfl, (bw.setCell (p := ⟨w.heap.size, 0, none⟩) (Nat.le_refl _) _).setCell (p := ⟨w.heap.size, 1, none⟩) (Nat.le_refl _) _⟩
  · go_enter Tryz.func23, Tryz.ntmps23
    go_wp2
    generalize ((w.alloc (.cells #[.int .i64 0, .int .i64 0] 29)).alloc (.cells #[.int .i64 0, .int .i64 0] 29)).alloc (.cells #[.int .i64 1, .int .i64 1] 29) = V at *
    have hit0 := iter_new V s
    have bI := below_more bV (below_iter V s 0)
    have BI1 := B1.more (below_iter V s 0)
    have BI2 := B2.more (below_iter V s 0)
    have BI3 := B3.more (below_iter V s 0)
    rw [hV] at hit0
    clear B1 B2 B3 bV hV
    go_loopg [7] s.size (fun g _ v => ∃ (pos : Nat) (l c l0 c0 : Int), pos + g = s.size ∧ v.heap[w.heap.size + 1 + 1 + 1]? = some (.stringIter s pos) ∧ BoxC v w.heap.size #[.int .i64 0, .int .i64 0] 29 ∧ BoxC v (w.heap.size + 1) #[.int .i64 l0, .int .i64 c0] 29 ∧ BoxC v (w.heap.size + 1 + 1) #[.int .i64 l, .int .i64 c] 29 ∧ Below w.heap.size w v ∧ At s pos l c ∧ 1 ≤ l ∧ l ≤ pos + 1 ∧ 1 ≤ c ∧ c ≤ pos + 1 ∧ (pos ≤ a ∨ (l0, c0) = P))
    case atStart => exact ⟨0, 1, 1, 0, 0, by omega, hit0, BI1, BI2, BI3, bI, At.zero s, by omega, by omega, by omega, by omega, .inl (Nat.zero_le _)⟩
    case round =>
      obtain ⟨pos, l, c, l0, c0, hg, hit, X1, X2, X3, bw, hA, hl1, hl2, hc1, hc2, hp⟩ := hrel
      clear hit0 BI1 BI2 BI3 bI
      obtain ⟨h1, h2, h3⟩ := HP.out
      rcases Nat.lt_or_ge pos s.size with hs | hs
      · have hnx : ∀ ty, (Instr.next (.pointer (some ⟨w.heap.size + 1 + 1 + 1, 0, none⟩)) true ty).run Tryz.prog wr = .ok (.tuple #[.bool true, .int .i64 pos, .int .i32 (nextR s pos)]) (wr.iterAt (w.heap.size + 1 + 1 + 1) s (pos + nextN s pos)) := fun ty => run_next_any_at wr (w.heap.size + 1 + 1 + 1) s pos ty hit hs
        have hi2 := iterAt_heap wr (w.heap.size + 1 + 1 + 1) s pos (pos + nextN s pos) hit
        have bw2 := below_iterAt bw (show w.heap.size ≤ w.heap.size + 1 + 1 + 1 by omega) s (pos + nextN s pos)
        have Y1 := X1.iterAt (g := w.heap.size + 1 + 1 + 1) s (pos + nextN s pos) (by omega)
        have Y2 := X2.iterAt (g := w.heap.size + 1 + 1 + 1) s (pos + nextN s pos) (by omega)
        have Y3 := X3.iterAt (g := w.heap.size + 1 + 1 + 1) s (pos + nextN s pos) (by omega)
        have hz := next_size hs
        by_cases hpa : a < pos
        · have hpa' : (a : Int) < (pos : Int) := by omega
          have hlc : (l0, c0) = P := by rcases hp with hp | hp; omega; exact hp
          subst hlc
          obtain ⟨x0, x1, x2, x3⟩ := Y1.cells2
          obtain ⟨y0, y1, y2, y3⟩ := Y2.cells2
          generalize wr.iterAt (w.heap.size + 1 + 1 + 1) s (pos + nextN s pos) = wi at *
          clear hit X1 X2 X3 bw hA hp hpa Y1 Y2 Y3 hi2 hz h1 h2 h3 c1 c2
          go_wp2
          exact bodyPost_ret (v := .agg #[.int .i64 l0, .int .i64 c0]) (by simp [results, Tryz.results23, go_sem, x0, x1]) rfl ⟨rfl, (bw2.setCell (p := ⟨w.heap.size, 0, none⟩) (Nat.le_refl _) _).setCell (p := ⟨w.heap.size, 1, none⟩) (Nat.le_refl _) _⟩
        · have hpa' : ¬ (a : Int) < (pos : Int) := by omega
          have HA : Hid (At s (pos + nextN s pos) (if nextR s pos = 10 then l + 1 else l) (if nextR s pos = 10 then 1 else c + 1)) := hA.next hs
          have HE : Hid (pos + nextN s pos ≤ a ∨ (l, c) = P) := by
            rcases Nat.lt_or_ge a (pos + nextN s pos) with q | q
            · exact .inr ((hA.here (at_ := (a : Int)) (by omega) (by omega) hs).symm.trans h1)
            · exact .inl q
          have HB : Hid (pos + gk = s.size ∧ pos + nextN s pos ≤ s.size ∧ 1 ≤ nextN s pos ∧ nextN s pos ≤ 4 ∧ 1 ≤ l ∧ l ≤ pos + 1 ∧ 1 ≤ c ∧ c ≤ pos + 1) := ⟨hg, hz.2.2, hz.1, hz.2.1, hl1, hl2, hc1, hc2⟩
          have CB := fun v => sign_behind l c (nextR s pos) (by omega) (by omega) (by omega) (by omega) v
          generalize wr.iterAt (w.heap.size + 1 + 1 + 1) s (pos + nextN s pos) = wi at *
          generalize nextR s pos = R at *
          generalize nextN s pos = M at *
          clear hit X1 X2 X3 bw hA hp hpa hz h1 h2 h3 hl1 hl2 hc1 hc2 hg c1 c2
          unfold AnsL at CB
          obtain ⟨p0, p1, p2, p3⟩ := Y3.drew.cells2
          obtain ⟨q0, q1, q2, q3⟩ := Y2.drew.cells2
          by_cases h10 : R = 10
          · have HA2 : Hid (At s (pos + M) (l + 1) (1)) := by have := HA.out; rw [if_pos h10, if_pos h10] at this; exact this
            rw [if_pos h10, if_pos h10] at CB
            dsimp only at CB
            clear HA h10
            go_wp2
            go_region_with (go_at_call 48; (with_reducible refine Calls.mono (CB _) ?_); rintro e w4' ⟨rfl, b4⟩; obtain ⟨p0, p1, p2, p3⟩ := (Y3.drew.more b4).cells2; obtain ⟨q0, q1, q2, q3⟩ := (Y2.drew.more b4).cells2)
            all_goals
              go_wp2
              have hB := HB.out
              have m1 : w.heap.size ≤ w.heap.size + 1 := by omega
              have m2 : w.heap.size ≤ w.heap.size + 1 + 1 := by omega
              go_roundg (s.size - (pos + M))
              case measure => omega
              case rel => exact ⟨pos + M, l + 1, 1, l, c, by omega, iter_set (iter_set (iter_set (iter_set (iter_more (show wi.drew.heap[w.heap.size + 1 + 1 + 1]? = _ from hi2) b4) (by omega) _) (by omega) _) (by omega) _) (by omega) _, (((((Y1.drew.more b4).other (by omega) _).other (by omega) _).other (by omega) _).other (by omega) _), (((((Y2.drew.more b4).set 0 (.int .i64 l)).set 1 (.int .i64 c)).other (by omega) _).other (by omega) _), (((((Y3.drew.more b4).other (by omega) _).other (by omega) _).set 0 (.int .i64 (l + 1))).set 1 (.int .i64 (1))), (((((below_more bw2.drew b4).setCell (p := ⟨w.heap.size + 1, 0, none⟩) m1 _).setCell (p := ⟨w.heap.size + 1, 1, none⟩) m1 _).setCell (p := ⟨w.heap.size + 1 + 1, 0, none⟩) m2 _).setCell (p := ⟨w.heap.size + 1 + 1, 1, none⟩) m2 _), HA2.out, by omega, by omega, by omega, by omega, HE.out⟩
          · have HA2 : Hid (At s (pos + M) (l) (c + 1)) := by have := HA.out; rw [if_neg h10, if_neg h10] at this; exact this
            rw [if_neg h10, if_neg h10] at CB
            dsimp only at CB
            clear HA h10
            go_wp2
            go_region_with (go_at_call 48; (with_reducible refine Calls.mono (CB _) ?_); rintro e w4' ⟨rfl, b4⟩; obtain ⟨p0, p1, p2, p3⟩ := (Y3.drew.more b4).cells2; obtain ⟨q0, q1, q2, q3⟩ := (Y2.drew.more b4).cells2)
            all_goals
              go_wp2
              have hB := HB.out
              have m1 : w.heap.size ≤ w.heap.size + 1 := by omega
              have m2 : w.heap.size ≤ w.heap.size + 1 + 1 := by omega
              go_roundg (s.size - (pos + M))
              case measure => omega
              case rel => exact ⟨pos + M, l, c + 1, l, c, by omega, iter_set (iter_set (iter_set (iter_set (iter_more (show wi.drew.heap[w.heap.size + 1 + 1 + 1]? = _ from hi2) b4) (by omega) _) (by omega) _) (by omega) _) (by omega) _, (((((Y1.drew.more b4).other (by omega) _).other (by omega) _).other (by omega) _).other (by omega) _), (((((Y2.drew.more b4).set 0 (.int .i64 l)).set 1 (.int .i64 c)).other (by omega) _).other (by omega) _), (((((Y3.drew.more b4).other (by omega) _).other (by omega) _).set 0 (.int .i64 (l))).set 1 (.int .i64 (c + 1))), (((((below_more bw2.drew b4).setCell (p := ⟨w.heap.size + 1, 0, none⟩) m1 _).setCell (p := ⟨w.heap.size + 1, 1, none⟩) m1 _).setCell (p := ⟨w.heap.size + 1 + 1, 0, none⟩) m2 _).setCell (p := ⟨w.heap.size + 1 + 1, 1, none⟩) m2 _), HA2.out, by omega, by omega, by omega, by omega, HE.out⟩
      · have hnx : ∀ ty, (Instr.next (.pointer (some ⟨w.heap.size + 1 + 1 + 1, 0, none⟩)) true ty).run Tryz.prog wr = .ok (.tuple #[.bool false]) wr := fun ty => run_next_end_at wr (w.heap.size + 1 + 1 + 1) s pos ty hit (by omega)
        obtain rfl : pos = s.size := by omega
        obtain ⟨x0, x1, x2, x3⟩ := X1.cells2
        obtain ⟨y0, y1, y2, y3⟩ := X2.cells2
        obtain ⟨z0, z1, z2, z3⟩ := X3.cells2
        by_cases hpa : a = s.size
        · have e : ((a : Int) == (s.size : Int)) = true := by rw [beq_iff_eq]; omega
          have hlc : (l, c) = P := by rw [← h1, hpa]; exact (hA.last (Int.le_refl _)).symm
          subst hlc
          clear hit X1 X2 X3 hA hp hpa h1 h2 h3 hg hs hl1 hl2 hc1 hc2 c1 c2
          go_wp2
          exact bodyPost_ret (v := .agg #[.int .i64 l, .int .i64 c]) (by simp [results, Tryz.results23, go_sem, x0, x1]) rfl ⟨rfl, (bw.setCell (p := ⟨w.heap.size, 0, none⟩) (Nat.le_refl _) _).setCell (p := ⟨w.heap.size, 1, none⟩) (Nat.le_refl _) _⟩
        · have e : ((a : Int) == (s.size : Int)) = false := by rw [beq_eq_false_iff_ne]; omega
          have hlc : (l0, c0) = P := by rcases hp with hp | hp; omega; exact hp
          subst hlc
          clear hit X1 X2 X3 hA hp hpa h1 h2 h3 hg hs hl1 hl2 hc1 hc2 c1 c2
          go_wp2
          exact bodyPost_ret (v := .agg #[.int .i64 l0, .int .i64 c0]) (by simp [results, Tryz.results23, go_sem, x0, x1]) rfl ⟨rfl, (bw.setCell (p := ⟨w.heap.size, 0, none⟩) (Nat.le_refl _) _).setCell (p := ⟨w.heap.size, 1, none⟩) (Nat.le_refl _) _⟩
  · go_enter Tryz.func23, Tryz.ntmps23
    go_wp2
    generalize ((w.alloc (.cells #[.int .i64 0, .int .i64 0] 29)).alloc (.cells #[.int .i64 0, .int .i64 0] 29)).alloc (.cells #[.int .i64 1, .int .i64 1] 29) = V at *
    have hit0 := iter_new V s
    have bI := below_more bV (below_iter V s 0)
    have BI1 := B1.more (below_iter V s 0)
    have BI2 := B2.more (below_iter V s 0)
    have BI3 := B3.more (below_iter V s 0)
    rw [hV] at hit0
    clear B1 B2 B3 bV hV
    go_loopg [7] s.size (fun g _ v => ∃ (pos : Nat) (l c l0 c0 : Int), pos + g = s.size ∧ v.heap[w.heap.size + 1 + 1 + 1]? = some (.stringIter s pos) ∧ BoxC v w.heap.size #[.int .i64 0, .int .i64 0] 29 ∧ BoxC v (w.heap.size + 1) #[.int .i64 l0, .int .i64 c0] 29 ∧ BoxC v (w.heap.size + 1 + 1) #[.int .i64 l, .int .i64 c] 29 ∧ Below w.heap.size w v ∧ At s pos l c ∧ 1 ≤ l ∧ l ≤ pos + 1 ∧ 1 ≤ c ∧ c ≤ pos + 1 ∧ (pos ≤ a ∨ (l0, c0) = P))
    case atStart => exact ⟨0, 1, 1, 0, 0, by omega, hit0, BI1, BI2, BI3, bI, At.zero s, by omega, by omega, by omega, by omega, .inl (Nat.zero_le _)⟩
    case round =>
      obtain ⟨pos, l, c, l0, c0, hg, hit, X1, X2, X3, bw, hA, hl1, hl2, hc1, hc2, hp⟩ := hrel
      clear hit0 BI1 BI2 BI3 bI
      obtain ⟨h1, h2, h3⟩ := HP.out
      rcases Nat.lt_or_ge pos s.size with hs | hs
      · have hnx : ∀ ty, (Instr.next (.pointer (some ⟨w.heap.size + 1 + 1 + 1, 0, none⟩)) true ty).run Tryz.prog wr = .ok (.tuple #[.bool true, .int .i64 pos, .int .i32 (nextR s pos)]) (wr.iterAt (w.heap.size + 1 + 1 + 1) s (pos + nextN s pos)) := fun ty => run_next_any_at wr (w.heap.size + 1 + 1 + 1) s pos ty hit hs
        have hi2 := iterAt_heap wr (w.heap.size + 1 + 1 + 1) s pos (pos + nextN s pos) hit
        have bw2 := below_iterAt bw (show w.heap.size ≤ w.heap.size + 1 + 1 + 1 by omega) s (pos + nextN s pos)
        have Y1 := X1.iterAt (g := w.heap.size + 1 + 1 + 1) s (pos + nextN s pos) (by omega)
        have Y2 := X2.iterAt (g := w.heap.size + 1 + 1 + 1) s (pos + nextN s pos) (by omega)
        have Y3 := X3.iterAt (g := w.heap.size + 1 + 1 + 1) s (pos + nextN s pos) (by omega)
        have hz := next_size hs
        by_cases hpa : a < pos
        · exact absurd hpa (by omega)
        · have hpa' : ¬ (s.size : Int) < (pos : Int) := by omega
          have HA : Hid (At s (pos + nextN s pos) (if nextR s pos = 10 then l + 1 else l) (if nextR s pos = 10 then 1 else c + 1)) := hA.next hs
          have HE : Hid (pos + nextN s pos ≤ a ∨ (l, c) = P) := by
            rcases Nat.lt_or_ge a (pos + nextN s pos) with q | q
            · exact .inr ((hA.here (at_ := (a : Int)) (by omega) (by omega) hs).symm.trans h1)
            · exact .inl q
          have HB : Hid (pos + gk = s.size ∧ pos + nextN s pos ≤ s.size ∧ 1 ≤ nextN s pos ∧ nextN s pos ≤ 4 ∧ 1 ≤ l ∧ l ≤ pos + 1 ∧ 1 ≤ c ∧ c ≤ pos + 1) := ⟨hg, hz.2.2, hz.1, hz.2.1, hl1, hl2, hc1, hc2⟩
          have CB := fun v => sign_behind l c (nextR s pos) (by omega) (by omega) (by omega) (by omega) v
          generalize wr.iterAt (w.heap.size + 1 + 1 + 1) s (pos + nextN s pos) = wi at *
          generalize nextR s pos = R at *
          generalize nextN s pos = M at *
          clear hit X1 X2 X3 bw hA hp hpa hz h1 h2 h3 hl1 hl2 hc1 hc2 hg c1 c2
          unfold AnsL at CB
          obtain ⟨p0, p1, p2, p3⟩ := Y3.drew.cells2
          obtain ⟨q0, q1, q2, q3⟩ := Y2.drew.cells2
          by_cases h10 : R = 10
          · have HA2 : Hid (At s (pos + M) (l + 1) (1)) := by have := HA.out; rw [if_pos h10, if_pos h10] at this; exact this
            rw [if_pos h10, if_pos h10] at CB
            dsimp only at CB
            clear HA h10
            go_wp2
            go_region_with (go_at_call 48; (with_reducible refine Calls.mono (CB _) ?_); rintro e w4' ⟨rfl, b4⟩; obtain ⟨p0, p1, p2, p3⟩ := (Y3.drew.more b4).cells2; obtain ⟨q0, q1, q2, q3⟩ := (Y2.drew.more b4).cells2)
            all_goals
              go_wp2
              have hB := HB.out
              have m1 : w.heap.size ≤ w.heap.size + 1 := by omega
              have m2 : w.heap.size ≤ w.heap.size + 1 + 1 := by omega
              go_roundg (s.size - (pos + M))
              case measure => omega
              case rel => exact ⟨pos + M, l + 1, 1, l, c, by omega, iter_set (iter_set (iter_set (iter_set (iter_more (show wi.drew.heap[w.heap.size + 1 + 1 + 1]? = _ from hi2) b4) (by omega) _) (by omega) _) (by omega) _) (by omega) _, (((((Y1.drew.more b4).other (by omega) _).other (by omega) _).other (by omega) _).other (by omega) _), (((((Y2.drew.more b4).set 0 (.int .i64 l)).set 1 (.int .i64 c)).other (by omega) _).other (by omega) _), (((((Y3.drew.more b4).other (by omega) _).other (by omega) _).set 0 (.int .i64 (l + 1))).set 1 (.int .i64 (1))), (((((below_more bw2.drew b4).setCell (p := ⟨w.heap.size + 1, 0, none⟩) m1 _).setCell (p := ⟨w.heap.size + 1, 1, none⟩) m1 _).setCell (p := ⟨w.heap.size + 1 + 1, 0, none⟩) m2 _).setCell (p := ⟨w.heap.size + 1 + 1, 1, none⟩) m2 _), HA2.out, by omega, by omega, by omega, by omega, HE.out⟩
          · have HA2 : Hid (At s (pos + M) (l) (c + 1)) := by have := HA.out; rw [if_neg h10, if_neg h10] at this; exact this
            rw [if_neg h10, if_neg h10] at CB
            dsimp only at CB
            clear HA h10
            go_wp2
            go_region_with (go_at_call 48; (with_reducible refine Calls.mono (CB _) ?_); rintro e w4' ⟨rfl, b4⟩; obtain ⟨p0, p1, p2, p3⟩ := (Y3.drew.more b4).cells2; obtain ⟨q0, q1, q2, q3⟩ := (Y2.drew.more b4).cells2)
            all_goals
              go_wp2
              have hB := HB.out
              have m1 : w.heap.size ≤ w.heap.size + 1 := by omega
              have m2 : w.heap.size ≤ w.heap.size + 1 + 1 := by omega
              go_roundg (s.size - (pos + M))
              case measure => omega
              case rel => exact ⟨pos + M, l, c + 1, l, c, by omega, iter_set (iter_set (iter_set (iter_set (iter_more (show wi.drew.heap[w.heap.size + 1 + 1 + 1]? = _ from hi2) b4) (by omega) _) (by omega) _) (by omega) _) (by omega) _, (((((Y1.drew.more b4).other (by omega) _).other (by omega) _).other (by omega) _).other (by omega) _), (((((Y2.drew.more b4).set 0 (.int .i64 l)).set 1 (.int .i64 c)).other (by omega) _).other (by omega) _), (((((Y3.drew.more b4).other (by omega) _).other (by omega) _).set 0 (.int .i64 (l))).set 1 (.int .i64 (c + 1))), (((((below_more bw2.drew b4).setCell (p := ⟨w.heap.size + 1, 0, none⟩) m1 _).setCell (p := ⟨w.heap.size + 1, 1, none⟩) m1 _).setCell (p := ⟨w.heap.size + 1 + 1, 0, none⟩) m2 _).setCell (p := ⟨w.heap.size + 1 + 1, 1, none⟩) m2 _), HA2.out, by omega, by omega, by omega, by omega, HE.out⟩
      · have hnx : ∀ ty, (Instr.next (.pointer (some ⟨w.heap.size + 1 + 1 + 1, 0, none⟩)) true ty).run Tryz.prog wr = .ok (.tuple #[.bool false]) wr := fun ty => run_next_end_at wr (w.heap.size + 1 + 1 + 1) s pos ty hit (by omega)
        obtain rfl : pos = s.size := by omega
        obtain ⟨x0, x1, x2, x3⟩ := X1.cells2
        obtain ⟨y0, y1, y2, y3⟩ := X2.cells2
        obtain ⟨z0, z1, z2, z3⟩ := X3.cells2
        by_cases hpa : a = s.size
        · have e : ((s.size : Int) == (s.size : Int)) = true := by rw [beq_iff_eq]
          have hlc : (l, c) = P := by rw [← h1, hpa]; exact (hA.last (Int.le_refl _)).symm
          subst hlc
          clear hit X1 X2 X3 hA hp hpa h1 h2 h3 hg hs hl1 hl2 hc1 hc2 c1 c2
          go_wp2
          exact bodyPost_ret (v := .agg #[.int .i64 l, .int .i64 c]) (by simp [results, Tryz.results23, go_sem, x0, x1]) rfl ⟨rfl, (bw.setCell (p := ⟨w.heap.size, 0, none⟩) (Nat.le_refl _) _).setCell (p := ⟨w.heap.size, 1, none⟩) (Nat.le_refl _) _⟩
        · exact absurd c3 hpa
end Go.Proofs.YtbcfplaalepnbaaGreatDoor
namespace Go.Proofs.YtbcfplaalepnbaaGreatDoor
open Go.Lib
structure Makes (num : ByteArray → Bool × Nat × Nat) (L : List Tok) (Q : Nd → Prop) : Prop where
  ref : ∀ x, nameB x = true → Q ⟨0, 0, 0, 0, x, (false, 0, 0)⟩
  const : ∀ t ∈ L, t.1 = 1 → Q ⟨1, 0, 0, 0, noText, num t.2.1⟩
  two : ∀ k a b, 2 ≤ k → k ≤ 5 → Q ⟨k, a, b, 0, noText, (false, 0, 0)⟩
  neg : ∀ a, Q ⟨6, a, 0, 0, noText, (false, 0, 0)⟩
  pow : ∀ a fac, ∀ t ∈ L, t.1 = 1 → 0 ≤ expI t.2.1 → (fac = 1 ∨ fac = -1) → Q ⟨7, a, 0, fac * expI t.2.1, noText, (false, 0, 0)⟩
theorem node_all {Q : Nd → Prop} {r : Rd} {n : Nd} (h : ∀ x ∈ r.all, Q x) (hn : Q n) : ∀ x ∈ (r.node n).2.all, Q x := by
  intro x hx
  rcases List.mem_append.1 (show x ∈ r.all ++ [n] from hx) with hx | hx
  · exact h x hx
  · obtain rfl := List.mem_singleton.1 hx; exact hn
theorem powE_fields {num : ByteArray → Bool × Nat × Nat} {L : List Tok} {Q : Nd → Prop} (M : Makes num L Q) {r : Rd} {a fac : Int} (hf : fac = 1 ∨ fac = -1) (h : ∀ x ∈ r.all, Q x) : ∀ x ∈ (r.powE L a fac).2.all, Q x := by
  unfold Rd.powE
  split
  · exact h
  · split
    · exact h
    · rename_i t ht
      split
      · exact h
      · rename_i h1
        split
        · exact h
        · rename_i h2
          exact node_all (r := r.skip) h (M.pow a fac t (List.mem_of_getElem? ht) (Decidable.not_not.1 h1) (by omega) hf)
theorem powT_fields {num : ByteArray → Bool × Nat × Nat} {L : List Tok} {Q : Nd → Prop} (M : Makes num L Q) {r : Rd} {a : Int} (h : ∀ x ∈ r.all, Q x) : ∀ x ∈ (r.powT L a).2.all, Q x := by
  unfold Rd.powT
  split
  · split
    · exact powE_fields M (r := r.skip.skip) (.inr rfl) h
    · exact powE_fields M (r := r.skip) (.inl rfl) h
  · exact h
theorem leaf_fields {num : ByteArray → Bool × Nat × Nat} {L : List Tok} {Q : Nd → Prop} (M : Makes num L Q) {r : Rd} (h : ∀ x ∈ r.all, Q x) (hb : (r.leaf num L).2.bad = false) : ∀ x ∈ (r.leaf num L).2.all, Q x := by
  have nm : (r.nameT L).2.bad = false → ∀ x ∈ ((r.nameT L).2.node ⟨0, 0, 0, 0, (r.nameT L).1, (false, 0, 0)⟩).2.all, Q x := fun hn => node_all (by rw [name_all]; exact h) (M.ref _ (name_good hn).1)
  unfold Rd.leaf at hb ⊢
  by_cases h0 : r.bad = true
  · rw [if_pos h0] at hb ⊢
    exact nm hb
  · rw [if_neg h0] at hb ⊢
    split at hb
    · rename_i t ht
      split at hb
      · rename_i h1
        rw [if_pos h1]
        exact node_all (r := r.skip) h (M.const t (List.mem_of_getElem? ht) h1)
      · rename_i h1
        rw [if_neg h1]
        exact nm hb
    · exact nm hb
theorem expr_fields {num : ByteArray → Bool × Nat × Nat} {L : List Tok} {Q : Nd → Prop} (M : Makes num L Q) : ∀ (f m : Nat) (a : Int) (r : Rd), (∀ x ∈ r.all, Q x) → (exprF num L f m a r).2.bad = false → ∀ x ∈ (exprF num L f m a r).2.all, Q x := by
  intro f
  induction f with
  | zero => intro m a r h _; exact h
  | succ f ih =>
    intro m a r h hb
    match m with
    | 0 =>
      unfold exprF at hb ⊢
      exact ih _ _ _ (ih _ _ _ h (Rd.good_of (on_expr num L f _ _ _) hb)) hb
    | 1 =>
      unfold exprF at hb ⊢
      split at hb
      · rename_i h1
        rw [if_pos h1]
        have g := Rd.good_of (on_expr num L f _ _ _) hb
        exact ih _ _ _ (node_all (ih 2 0 r.skip h g) (M.two _ _ _ (by split <;> omega) (by split <;> omega))) hb
      · rename_i h1
        rw [if_neg h1]; exact h
    | 2 =>
      unfold exprF at hb ⊢
      exact ih _ _ _ (ih _ _ _ h (Rd.good_of (on_expr num L f _ _ _) hb)) hb
    | 3 =>
      unfold exprF at hb ⊢
      split at hb
      · rename_i h1
        rw [if_pos h1]
        have g := Rd.good_of (on_expr num L f _ _ _) hb
        exact ih _ _ _ (node_all (ih 4 0 r.skip h g) (M.two _ _ _ (by split <;> omega) (by split <;> omega))) hb
      · rename_i h1
        rw [if_neg h1]; exact h
    | 4 =>
      unfold exprF at hb ⊢
      split at hb
      · rename_i h1
        rw [if_pos h1]
        exact node_all (ih 4 0 r.skip h hb) (M.neg _)
      · rename_i h1
        rw [if_neg h1]; exact ih _ _ _ h hb
    | 5 =>
      unfold exprF at hb ⊢
      exact powT_fields M (ih _ _ _ h (Rd.good_of (Rd.on_powT _ _ _) hb))
    | m + 6 =>
      unfold exprF at hb ⊢
      split at hb
      · rename_i h1
        rw [if_pos h1]
        dsimp only at hb ⊢
        rw [want_all]
        exact ih 0 0 r.skip h (Rd.good_of (Rd.on_want _ _ _ _) hb)
      · rename_i h1
        rw [if_neg h1]; exact leaf_fields M h hb
theorem let_fields {num : ByteArray → Bool × Nat × Nat} {L : List Tok} {Q : Nd → Prop} (M : Makes num L Q) {r : Rd} (h : ∀ x ∈ r.all, Q x) (hb : (oneLet num L r).2.bad = false) : ∀ x ∈ (oneLet num L r).2.all, Q x := by
  unfold oneLet at hb ⊢
  dsimp only at hb ⊢
  rw [want_all]
  exact expr_fields M _ 0 0 _ (by rw [want_all, name_all]; exact h) (Rd.good_of (Rd.on_want _ _ _ _) hb)
theorem lets_fields {num : ByteArray → Bool × Nat × Nat} {L : List Tok} {Q : Nd → Prop} (M : Makes num L Q) : ∀ (f : Nat) (out : List (ByteArray × Int)) (r : Rd), (∀ x ∈ r.all, Q x) → (letsF num L f out r).2.bad = false → ∀ x ∈ (letsF num L f out r).2.all, Q x := by
  intro f
  induction f with
  | zero => intro out r h _; exact h
  | succ f ih =>
    intro out r h hb
    unfold letsF at hb ⊢
    split at hb
    · rename_i h1
      rw [if_pos h1]
      exact ih _ _ (let_fields M (r := r.skip) h (Rd.good_of (on_lets num L f _ _) hb)) hb
    · rename_i h1
      rw [if_neg h1]; exact h
theorem prog_fields {num : ByteArray → Bool × Nat × Nat} {L : List Tok} {Q : Nd → Prop} (M : Makes num L Q) (h : (progI num L).2.bad = false) : ∀ x ∈ (progI num L).1.all, Q x := by
  have h1 : (outsI num L).2.bad = false := by
    unfold progI at h
    dsimp only at h
    split at h
    · exact absurd h (by simp [Rd.wrong])
    · exact h
  have o2 := on_names L ((letsI num L).2.want L 0 [111, 117, 116])
  have h3 := Rd.good_of (Rd.on_want L _ _ _) (Rd.good_of o2.1 h1)
  show ∀ x ∈ (outsI num L).2.all, Q x
  have ha : (outsI num L).2.all = (letsI num L).2.all := by
    show (namesI L ((letsI num L).2.want L 0 [111, 117, 116])).2.all = _
    rw [o2.2, want_all]
  rw [ha]
  refine lets_fields M _ _ _ (fun x hx => ?_) h3
  have hi : (insI L).2.all = [] := by
    show (namesI L (startR.want L 0 [105, 110])).2.all = _
    rw [(on_names L _).2, want_all]; rfl
  rw [hi] at hx
  exact absurd hx (by simp)
end Go.Proofs.YtbcfplaalepnbaaGreatDoor
namespace Go.Proofs.YtbcfplaalepnbaaGreatDoor
open Go.RowKit Go.Lib
def parseI (s : ByteArray) : Pg × (Int × Int) × Int :=
  if (lexI s).2.2 ≠ 0 then (noPg, (lexI s).2.1, (lexI s).2.2)
  else if (progI numT (lexI s).1).2.bad = true then
    (match (lexI s).1[(progI numT (lexI s).1).2.pos]? with
     | some t => (noPg, (t.2.2.1, t.2.2.2), 5)
     | none => (noPg, placeI s s.size, 5))
  else if lngB (progI numT (lexI s).1).1.all (progI numT (lexI s).1).1.ins.length (progI numT (lexI s).1).1.lets.length (progI numT (lexI s).1).1.outs.length = true then (noPg, (1, 1), 4)
  else ((progI numT (lexI s).1).1, (0, 0), 0)
def IsPg (w : World) (i l o a : Value) (p : Pg) : Prop := ∃ ia ic ta tc oa oc aa ac ms, i = .slice ia p.ins.length ic ∧ l = .slice ta p.lets.length tc ∧ o = .slice oa p.outs.length oc ∧ a = .slice aa p.all.length ac ∧
  IsC 1 w ia p.ins.length (flat encS p.ins) ∧ IsC 2 w ta p.lets.length (flat encL p.lets) ∧ IsC 1 w oa p.outs.length (flat encS p.outs) ∧ IsN w aa p.all.length ms ∧ ms.map (·.1) = p.all.map rawOf ∧ (∀ m ∈ ms, (∃ x y, m.2.1 = .slice x m.1.xs.length y ∧ IsWords w m.2.1 m.1.xs) ∧ ∃ x y, m.2.2 = .slice x m.1.ys.length y ∧ IsWords w m.2.2 m.1.ys) ∧ p.all.length ≤ ac
theorem isPg_no (w : World) : IsPg w (.slice none 0 0) (.slice none 0 0) (.slice none 0 0) (.slice none 0 0) noPg :=
  ⟨none, 0, none, 0, none, 0, none, 0, [], rfl, rfl, rfl, rfl, IsC.nil 1 w none, IsC.nil 2 w none, IsC.nil 1 w none, ⟨rfl, .inl rfl⟩, rfl, fun m hm => absurd hm (by simp), Nat.le_refl 0⟩
def AnsPG (W : World) (q : Pg × (Int × Int) × Int) (e : Ending) (w' : World) : Prop :=
  ∃ i l o a, e = .returned (.tuple #[.agg #[i, l, o, a], .agg #[.int .i64 q.2.1.1, .int .i64 q.2.1.2], .int .i64 q.2.2]) ∧ IsPg w' i l o a q.1 ∧ Below W.heap.size W w'
theorem ansPG_no {W w' : World} {l c E : Int} (h : Below W.heap.size W w') : AnsPG W (noPg, (l, c), E) (.returned (.tuple #[.agg #[.slice none 0 0, .slice none 0 0, .slice none 0 0, .slice none 0 0], .agg #[.int .i64 l, .int .i64 c], .int .i64 E])) w' := ⟨_, _, _, _, rfl, isPg_no w', h⟩
theorem pg_store {w V : World} {A : Nat} {i0 i1 i2 i3 j0 j1 : Value} {P Q : TypeId} (D1 : BoxC V A #[i0, i1, i2, i3] P) (D2 : BoxC V (A + 1) #[j0, j1] Q) (hA : w.heap.size ≤ A) (hb : Below w.heap.size w V) (x0 x1 x2 x3 y0 y1 : Value) :
    ∃ F, (((((V.setCell ⟨A, 0, none⟩ x0).setCell ⟨A, 1, none⟩ x1).setCell ⟨A, 2, none⟩ x2).setCell ⟨A, 3, none⟩ x3).setCell ⟨A + 1, 0, none⟩ y0).setCell ⟨A + 1, 1, none⟩ y1 = F ∧ F.cell? ⟨A, 0, none⟩ = some x0 ∧ F.cell? ⟨A, 1, none⟩ = some x1 ∧ F.cell? ⟨A, 2, none⟩ = some x2 ∧ F.cell? ⟨A, 3, none⟩ = some x3 ∧ F.cell? ⟨A + 1, 0, none⟩ = some y0 ∧ F.cell? ⟨A + 1, 1, none⟩ = some y1 ∧ Below w.heap.size w F ∧ Keep (fun T => T = P ∨ T = Q) V F := by
  have E1 : BoxC ((((V.setCell ⟨A, 0, none⟩ x0).setCell ⟨A, 1, none⟩ x1).setCell ⟨A, 2, none⟩ x2).setCell ⟨A, 3, none⟩ x3) A #[x0, x1, x2, x3] P := (((D1.set 0 x0).set 1 x1).set 2 x2).set 3 x3
  have E2 : BoxC ((((V.setCell ⟨A, 0, none⟩ x0).setCell ⟨A, 1, none⟩ x1).setCell ⟨A, 2, none⟩ x2).setCell ⟨A, 3, none⟩ x3) (A + 1) #[j0, j1] Q := (((D2.other (by omega) x0).other (by omega) x1).other (by omega) x2).other (by omega) x3
  have k1 := ((((Keep.refl (fun T => T = P ∨ T = Q) V).set D1 (.inl rfl) 0 x0).set (D1.set 0 x0) (.inl rfl) 1 x1).set ((D1.set 0 x0).set 1 x1) (.inl rfl) 2 x2).set (((D1.set 0 x0).set 1 x1).set 2 x2) (.inl rfl) 3 x3
  have k2 := (k1.set E2 (.inr rfl) 0 y0).set (E2.set 0 y0) (.inr rfl) 1 y1
  have bb := (((((hb.setCell (p := ⟨A, 0, none⟩) hA x0).setCell (p := ⟨A, 1, none⟩) hA x1).setCell (p := ⟨A, 2, none⟩) hA x2).setCell (p := ⟨A, 3, none⟩) hA x3).setCell (p := ⟨A + 1, 0, none⟩) (Nat.le_succ_of_le hA) y0).setCell (p := ⟨A + 1, 1, none⟩) (Nat.le_succ_of_le hA) y1
  have G1 := (E1.other (g := A + 1) (i := 0) (by omega) y0).other (g := A + 1) (i := 1) (by omega) y1
  have G2 := (E2.set 0 y0).set 1 y1
  exact ⟨_, rfl, (G1.cell 0).1, (G1.cell 1).1, (G1.cell 2).1, (G1.cell 3).1, (G2.cell 0).1, (G2.cell 1).1, bb, k2⟩
theorem cnt_lets (L : List Tok) : ∀ (f : Nat) (ls : List (ByteArray × Int)) (q : Rd), cnt L (letsF numT L f ls q).2 ≤ cnt L q := by
  intro f
  induction f with
  | zero => intro ls q; exact Nat.le_refl _
  | succ f ih =>
    intro ls q
    unfold letsF
    split
    · rename_i h
      have h1 := cnt_let L q.skip
      have h2 := cnt_skip (q.is_in h).2
      have h3 := ih (ls ++ [(oneLet numT L q.skip).1]) (oneLet numT L q.skip).2
      omega
    · exact Nat.le_refl _
theorem prog_all (L : List Tok) : (progI numT L).2.all = (progI numT L).1.all ∧ (progI numT L).1.all.length ≤ 2 * L.length := by
  refine ⟨?_, ?_⟩
  · unfold progI
    dsimp only
    split <;> rfl
  · show (outsI numT L).2.all.length ≤ _
    have h1 := (on_names L ((letsI numT L).2.want L 0 [111, 117, 116])).2
    rw [show (outsI numT L).2.all = (letsI numT L).2.all from h1.trans (want_all _ _ _ _)]
    have h2 := cnt_all (n := 2 * L.length) (L := L) (r := (letsI numT L).2) (by
      refine Nat.le_trans (cnt_lets L _ _ _) ?_
      have e1 := (on_names L (startR.want L 0 [105, 110])).2
      rw [want_all] at e1
      show (insI L).2.all.length + 2 * (L.length - (insI L).2.pos) ≤ _
      rw [show (insI L).2.all = startR.all from e1]
      show 0 + _ ≤ _
      omega)
    exact h2
theorem nd_map {ms : List Mn} {l : List Nd} (h : ms.map (·.1) = l.map rawOf) : (ms.map fun m => m.1.nd) = l := by
  have e : (ms.map fun m => m.1.nd) = (ms.map (·.1)).map Nw.nd := by rw [List.map_map]; rfl
  rw [e, h, List.map_map]
  have : (Nw.nd ∘ rawOf) = id := by funext n; exact nd_raw n
  rw [this, List.map_id]
theorem Own.sl {W w : World} {v : Value} {n : Nat} {xs : List Int} (h : Own W w v n xs) : ∃ x y z, v = .slice x y z := by
  obtain ⟨a, c, rfl⟩ := h.lit
  exact ⟨_, _, _, rfl⟩
end Go.Proofs.YtbcfplaalepnbaaGreatDoor
