/-
  Texts of mine put together in build order, as far as TreeRights needs them: RowC, Came, SignMath, SignPlace, SignRef, SignRefB, SignKind, SignRefC, TreeBegin, DeciRef, RatRef, RatRefB, TreeRefK, TreeRefL, TreeRefM, IntFrame, TreeRefQ. No conditions of their own.
-/
import Derived.WalkKit
import Derived.ProofKit
import Derived.Lib.AppendZerosOnto
import Derived.Laws.AppendOwn
import Derived.Laws.AppendOwnNone
import Derived.Test.YtbcfplaalepnbaaGreatDoorRows
import Derived.WalkLawsBesides
import Derived.Deep.QuietTactic
import Derived.BigQuiet
import Derived.Outline
import Derived.Lib.BitFns
import Derived.OpenShut
import Derived.Lib.DecodeN
import Derived.Laws.CopyOwn
import Derived.Deep.LoopGhost
import Derived.Deep.RegionWith
import Derived.Deep.DrawnRows
import Derived.Deep.RegionLaw
import Derived.Laws.IdiomStrings
import Derived.Deep.RegionHeld3
import Derived.Laws.Bits64b
import Derived.RangeFuncNested
import Derived.RangeFuncBound
import Derived.RangeFuncCalls
import Derived.RangeFuncLeaves
import Derived.Shelf.Abstract
import Derived.Shelf.RegionOpen
import Derived.OwnWalkIn
import Derived.TacticsInMore
import Derived.LoopNIn
import Derived.LoopIn
import Derived.Sort.LoopGhostIn
import Derived.Lib.SmallJoins
import Derived.Test.YtbcfplaalepnbaaGreatDoorPack1
import Derived.Test.YtbcfplaalepnbaaGreatDoorPack2
import Derived.Test.YtbcfplaalepnbaaGreatDoorPack3
namespace Go.Proofs.YtbcfplaalepnbaaGreatDoor
open Go.RowKit
theorem BoxC.grownC {w w' : World} {g : Nat} {cs : Array Value} {T : TypeId} {row : Option Nat} (h : BoxC w g cs T) (hg : w.grownBy w' row) (hne : row ≠ some g) : BoxC w' g cs T := by
  have := hg.block g h.lt (Ne.symm hne)
  unfold BoxC at h ⊢
  rw [this]; exact h
end Go.Proofs.YtbcfplaalepnbaaGreatDoor
namespace Go.Proofs.YtbcfplaalepnbaaGreatDoor
open Go.RowKit
theorem wf_u32 {a : Int} (h : (Lit.int .u32 a).wf = true) : 0 ≤ a ∧ a < 4294967296 := by
  simp [Lit.wf, IntKind.min, IntKind.max, IntKind.signed, IntKind.bits] at h; omega
theorem came_words {w : World} {a : Option Addr} {len cap : Nat} {zs : List Int} (h : CameIn .u32 w a len cap zs) : IsWords w (.slice a len cap) (zs.take len) := by
  rcases h with ⟨rfl, rfl, rfl, rfl⟩ | ⟨x, rfl, hl, hm, hz, hc, hw⟩
  · exact .inl ⟨rfl, rfl⟩
  · have e : (zs.take len).length = len := by simp; omega
    refine .inr ⟨x, cap, by rw [e], by omega, hm, fun i hi => ?_⟩
    rw [e] at hi
    rw [hc i (by omega)]
    simp [List.getD_eq_getElem?_getD, hi]
end Go.Proofs.YtbcfplaalepnbaaGreatDoor
namespace Go.Proofs.YtbcfplaalepnbaaGreatDoor
open Go.Lib
set_option maxRecDepth 100000 in
set_option maxHeartbeats 4000000 in
theorem decodeN_two {n b0 b1 b2 b3 : Nat} (h : 194 ≤ b0 ∧ b0 ≤ 223) (h1 : 1 < n ∧ 128 ≤ b1 ∧ b1 ≤ 191) : decodeN n b0 b1 b2 b3 = ((b0 - 192) * 64 + b1 % 64, 2) := by
  unfold decodeN; repeat' split
  all_goals first | (exfalso; omega) | (apply Prod.ext <;> simp only <;> omega)
set_option maxRecDepth 100000 in
set_option maxHeartbeats 4000000 in
theorem decodeN_three {n b0 b1 b2 b3 : Nat} (h : 224 ≤ b0 ∧ b0 ≤ 239) (h1 : 1 < n ∧ (if b0 = 224 then 160 else 128) ≤ b1 ∧ b1 ≤ (if b0 = 237 then 159 else 191)) (h2 : 2 < n ∧ 128 ≤ b2 ∧ b2 ≤ 191) :
    decodeN n b0 b1 b2 b3 = ((b0 - 224) * 4096 + b1 % 64 * 64 + b2 % 64, 3) := by
  unfold decodeN; repeat' split
  all_goals first | (exfalso; split at h1 <;> split at h1 <;> omega) | (apply Prod.ext <;> simp only <;> split at h1 <;> split at h1 <;> omega)
set_option maxRecDepth 100000 in
set_option maxHeartbeats 4000000 in
theorem decodeN_four {n b0 b1 b2 b3 : Nat} (h : 240 ≤ b0 ∧ b0 ≤ 244) (h1 : 1 < n ∧ (if b0 = 240 then 144 else 128) ≤ b1 ∧ b1 ≤ (if b0 = 244 then 143 else 191)) (h2 : 2 < n ∧ 128 ≤ b2 ∧ b2 ≤ 191) (h3 : 3 < n ∧ 128 ≤ b3 ∧ b3 ≤ 191) :
    decodeN n b0 b1 b2 b3 = ((b0 - 240) * 262144 + b1 % 64 * 4096 + b2 % 64 * 64 + b3 % 64, 4) := by
  unfold decodeN; repeat' split
  all_goals first | (exfalso; split at h1 <;> split at h1 <;> omega) | (apply Prod.ext <;> simp only <;> split at h1 <;> split at h1 <;> omega)
set_option maxRecDepth 100000 in
set_option maxHeartbeats 4000000 in
theorem decodeN_none {n b0 b1 b2 b3 : Nat} (hb : b0 < 256) (h0 : ¬ b0 < 128) (h2 : ¬ ((194 ≤ b0 ∧ b0 ≤ 223) ∧ (1 < n ∧ 128 ≤ b1 ∧ b1 ≤ 191)))
    (h3 : ¬ ((224 ≤ b0 ∧ b0 ≤ 239) ∧ (1 < n ∧ (if b0 = 224 then 160 else 128) ≤ b1 ∧ b1 ≤ (if b0 = 237 then 159 else 191)) ∧ (2 < n ∧ 128 ≤ b2 ∧ b2 ≤ 191)))
    (h4 : ¬ ((240 ≤ b0 ∧ b0 ≤ 244) ∧ (1 < n ∧ (if b0 = 240 then 144 else 128) ≤ b1 ∧ b1 ≤ (if b0 = 244 then 143 else 191)) ∧ (2 < n ∧ 128 ≤ b2 ∧ b2 ≤ 191) ∧ (3 < n ∧ 128 ≤ b3 ∧ b3 ≤ 191))) :
    decodeN n b0 b1 b2 b3 = (65533, 1) := by
  have e3 : ¬ (b0 = 224) ∨ b0 = 224 := by omega
  unfold decodeN
  split
  · omega
  split
  · split
    · exfalso; omega
    · rfl
  split
  · split
    · exfalso
      apply h3
      refine ⟨by omega, ⟨by omega, ?_, ?_⟩, by omega⟩
      · split <;> omega
      · split <;> omega
    · rfl
  split
  · split
    · exfalso
      apply h4
      refine ⟨by omega, ⟨by omega, ?_, ?_⟩, by omega, by omega⟩
      · split <;> omega
      · split <;> omega
    · rfl
  · rfl
end Go.Proofs.YtbcfplaalepnbaaGreatDoor
namespace Go.Proofs.YtbcfplaalepnbaaGreatDoor
open Go.Lib
theorem bt_lt (s : ByteArray) (i : Nat) : bt s i < 256 := UInt8.toNat_lt _
end Go.Proofs.YtbcfplaalepnbaaGreatDoor
namespace Go.Proofs.YtbcfplaalepnbaaGreatDoor
open Go.RowKit Go.Lib
theorem wrap_byte (b : UInt8) : wrap64 (b.toNat : Int) = b.toNat := by
  have := b.toNat_lt
  unfold wrap64; omega
set_option maxHeartbeats 2000000 in
theorem ref_sin {s : ByteArray} (i : Nat) (j : Int) (hj : (i : Int) = j) (lo hi : Int) (r : Bool) (hr : decide (i < s.size ∧ lo ≤ (bt s i : Int) ∧ (bt s i : Int) ≤ hi) = r) (w : World) :
    Calls Tryz.prog 93 #[.string s, .int .i64 j, .int .i64 lo, .int .i64 hi] w fun e w' => e = .returned (.bool r) ∧ w = w' := by
  subst hj
  rcases (by by_cases h : i < s.size <;> by_cases h2 : lo ≤ (bt s i : Int) <;> simp [h, h2] : (i < s.size ∧ lo ≤ (bt s i : Int)) ∨ (i < s.size ∧ ¬ lo ≤ (bt s i : Int)) ∨ ¬ i < s.size) with ⟨h, h2⟩ | ⟨h, h2⟩ | h
  case' inl =>
    rw [bt_get h] at hr h2
    have h1 : (i : Int) < s.size := by omega
    have hd : decide ((s[i].toNat : Int) ≤ hi) = r := by rw [← hr]; simp [h, h2]
  case' inr.inl =>
    rw [bt_get h] at hr h2
    have h1 : (i : Int) < s.size := by omega
    obtain rfl : r = false := by rw [← hr]; simp [h2]
  case' inr.inr =>
    have h1 : ¬ (i : Int) < s.size := by omega
    obtain rfl : r = false := by rw [← hr]; simp [h]
  all_goals
    clear hr
    (try have hw := wrap_byte s[i])
    go_enter Tryz.func93, Tryz.ntmps93
    go_wp2
    go_ret
    exact ⟨rfl, rfl⟩
set_option maxHeartbeats 2000000 in
theorem ref_slow {s : ByteArray} (i : Nat) (h : i < s.size) (j : Int) (hj : (i : Int) = j) (w : World) :
    Calls Tryz.prog 94 #[.string s, .int .i64 j] w fun e w' => e = .returned (.int .i64 ((bt s i % 64 : Nat) : Int)) ∧ w = w' := by
  subst hj
  have h1 : (i : Int) < s.size := by omega
  rw [bt_get h]
  have HM : Hid ((s[i].toNat : Int).tmod 64 = ((s[i].toNat % 64 : Nat) : Int)) := by
    show _ = _
    rw [Int.tmod_eq_emod_of_nonneg (by omega)]; omega
  have hw := wrap_byte s[i]
  go_enter Tryz.func94, Tryz.ntmps94
  go_wp2
  go_ret
  exact ⟨by first | rfl | rw [← HM.out], rfl⟩
def threeI (n b0 b1 b2 : Nat) : Int := if (224 ≤ b0 ∧ b0 ≤ 239) ∧ (1 < n ∧ (if b0 = 224 then 160 else 128) ≤ b1 ∧ b1 ≤ (if b0 = 237 then 159 else 191)) ∧ (2 < n ∧ 128 ≤ b2 ∧ b2 ≤ 191) then (((b0 - 224) * 4096 + b1 % 64 * 64 + b2 % 64 : Nat) : Int) else -1
set_option maxHeartbeats 4000000 in
theorem ref_three {s : ByteArray} (hs : s.size ≤ 1000000) (i : Nat) (h : i < s.size) (z : Int) (hz : threeI (s.size - i) (bt s i) (bt s (i + 1)) (bt s (i + 2)) = z) (w : World) :
    Calls Tryz.prog 95 #[.string s, .int .i64 i] w fun e w' => e = .returned (.int .i64 z) ∧ w = w' := by
  unfold threeI at hz
  have h1 : (i : Int) < s.size := by omega
  have hw := wrap_byte s[i]
  have hb := s[i].toNat_lt
  have w1 : wrap64 ((i : Int) + 1) = (i : Int) + 1 := by unfold wrap64; omega
  have w2 : wrap64 ((i : Int) + 2) = (i : Int) + 2 := by unfold wrap64; omega
  obtain ⟨r2, hr2⟩ : ∃ r, decide (i + 2 < s.size ∧ (128 : Int) ≤ (bt s (i + 2) : Int) ∧ (bt s (i + 2) : Int) ≤ 191) = r := ⟨_, rfl⟩
  have I2 := fun v => ref_sin (i + 2) ((i : Int) + 2) (by omega) 128 191 r2 hr2 v
  rw [bt_get h] at hz
  rcases (by omega : (s[i].toNat : Int) < 224 ∨ 239 < (s[i].toNat : Int) ∨ s[i].toNat = 224 ∨ s[i].toNat = 237 ∨ (224 ≤ s[i].toNat ∧ s[i].toNat ≤ 239 ∧ s[i].toNat ≠ 224 ∧ s[i].toNat ≠ 237)) with h3 | h3 | h3 | h3 | h3
  case' inl =>
    have e1 : ((s[i].toNat : Int) == 224) = false := by rw [beq_eq_false_iff_ne]; omega
    have e2 : ((s[i].toNat : Int) == 237) = false := by rw [beq_eq_false_iff_ne]; omega
    skip
    obtain rfl : z = -1 := by rw [← hz, if_neg (by omega)]
    clear hz hs hb
  case' inr.inl =>
    have e1 : ((s[i].toNat : Int) == 224) = false := by rw [beq_eq_false_iff_ne]; omega
    have e2 : ((s[i].toNat : Int) == 237) = false := by rw [beq_eq_false_iff_ne]; omega
    have h4 : ¬ (s[i].toNat : Int) < 224 := by omega
    obtain rfl : z = -1 := by rw [← hz, if_neg (by omega)]
    clear hz hs hb
  case' inr.inr.inl =>
    have h4 : ¬ (s[i].toNat : Int) < 224 := by omega
    have h5 : ¬ 239 < (s[i].toNat : Int) := by omega
    have e1 : ((s[i].toNat : Int) == 224) = true := by rw [beq_iff_eq]; omega
    have e2 : ((s[i].toNat : Int) == 237) = false := by rw [beq_eq_false_iff_ne]; omega
    obtain ⟨r1, hr1⟩ : ∃ r, decide (i + 1 < s.size ∧ (160 : Int) ≤ (bt s (i + 1) : Int) ∧ (bt s (i + 1) : Int) ≤ 191) = r := ⟨_, rfl⟩
    have I1 := fun v => ref_sin (i + 1) ((i : Int) + 1) (by omega) 160 191 r1 hr1 v
    have HZ : Hid (((r1 = true ∧ r2 = true) → z = ((((s[i].toNat - 224) * 4096 + bt s (i + 1) % 64 * 64 + bt s (i + 2) % 64 : Nat)) : Int)) ∧ (¬ (r1 = true ∧ r2 = true) → z = -1)) := by
      rw [← hr1, ← hr2]
      simp only [decide_eq_true_eq]
      simp only [h3, if_true, if_false, show ((224 : Nat) = 237) = False from eq_false (by decide)] at hz ⊢
      refine ⟨fun q => ?_, fun q => ?_⟩
      · rw [← hz, if_pos (by omega)]
      · rw [← hz, if_neg (by omega)]
    have HL1 : Hid (r1 = true → i + 1 < s.size) := fun e => (of_decide_eq_true (hr1.trans e)).1
    have HL2 : Hid (r2 = true → i + 2 < s.size) := fun e => (of_decide_eq_true (hr2.trans e)).1
    have HB : Hid (224 ≤ s[i].toNat ∧ s[i].toNat < 256) := ⟨by omega, by omega⟩
    clear hz hs hb h3 hr1 hr2
  case' inr.inr.inr.inl =>
    have h4 : ¬ (s[i].toNat : Int) < 224 := by omega
    have h5 : ¬ 239 < (s[i].toNat : Int) := by omega
    have e1 : ((s[i].toNat : Int) == 224) = false := by rw [beq_eq_false_iff_ne]; omega
    have e2 : ((s[i].toNat : Int) == 237) = true := by rw [beq_iff_eq]; omega
    obtain ⟨r1, hr1⟩ : ∃ r, decide (i + 1 < s.size ∧ (128 : Int) ≤ (bt s (i + 1) : Int) ∧ (bt s (i + 1) : Int) ≤ 159) = r := ⟨_, rfl⟩
    have I1 := fun v => ref_sin (i + 1) ((i : Int) + 1) (by omega) 128 159 r1 hr1 v
    have HZ : Hid (((r1 = true ∧ r2 = true) → z = ((((s[i].toNat - 224) * 4096 + bt s (i + 1) % 64 * 64 + bt s (i + 2) % 64 : Nat)) : Int)) ∧ (¬ (r1 = true ∧ r2 = true) → z = -1)) := by
      rw [← hr1, ← hr2]
      simp only [decide_eq_true_eq]
      simp only [h3, if_true, if_false, show ((237 : Nat) = 224) = False from eq_false (by decide)] at hz ⊢
      refine ⟨fun q => ?_, fun q => ?_⟩
      · rw [← hz, if_pos (by omega)]
      · rw [← hz, if_neg (by omega)]
    have HL1 : Hid (r1 = true → i + 1 < s.size) := fun e => (of_decide_eq_true (hr1.trans e)).1
    have HL2 : Hid (r2 = true → i + 2 < s.size) := fun e => (of_decide_eq_true (hr2.trans e)).1
    have HB : Hid (224 ≤ s[i].toNat ∧ s[i].toNat < 256) := ⟨by omega, by omega⟩
    clear hz hs hb h3 hr1 hr2
  case' inr.inr.inr.inr =>
    have h4 : ¬ (s[i].toNat : Int) < 224 := by omega
    have h5 : ¬ 239 < (s[i].toNat : Int) := by omega
    have e1 : ((s[i].toNat : Int) == 224) = false := by rw [beq_eq_false_iff_ne]; omega
    have e2 : ((s[i].toNat : Int) == 237) = false := by rw [beq_eq_false_iff_ne]; omega
    obtain ⟨r1, hr1⟩ : ∃ r, decide (i + 1 < s.size ∧ (128 : Int) ≤ (bt s (i + 1) : Int) ∧ (bt s (i + 1) : Int) ≤ 191) = r := ⟨_, rfl⟩
    have I1 := fun v => ref_sin (i + 1) ((i : Int) + 1) (by omega) 128 191 r1 hr1 v
    have HZ : Hid (((r1 = true ∧ r2 = true) → z = ((((s[i].toNat - 224) * 4096 + bt s (i + 1) % 64 * 64 + bt s (i + 2) % 64 : Nat)) : Int)) ∧ (¬ (r1 = true ∧ r2 = true) → z = -1)) := by
      rw [← hr1, ← hr2]
      simp only [decide_eq_true_eq]
      simp only [h3.2.2.1, h3.2.2.2, if_false] at hz
      refine ⟨fun q => ?_, fun q => ?_⟩
      · rw [← hz, if_pos (by omega)]
      · rw [← hz, if_neg (by omega)]
    have HL1 : Hid (r1 = true → i + 1 < s.size) := fun e => (of_decide_eq_true (hr1.trans e)).1
    have HL2 : Hid (r2 = true → i + 2 < s.size) := fun e => (of_decide_eq_true (hr2.trans e)).1
    have HB : Hid (224 ≤ s[i].toNat ∧ s[i].toNat < 256) := ⟨by omega, by omega⟩
    clear hz hs hb h3 hr1 hr2
  case' inl | inr.inl =>
    go_enter Tryz.func95, Tryz.ntmps95
    go_wp2
    go_ret
    exact ⟨rfl, rfl⟩
  all_goals
    cases r1
    case' false => obtain rfl := HZ.out.2 (by simp)
    case' true => cases r2
    case' true.false => obtain rfl := HZ.out.2 (by simp)
    case' true.true =>
      obtain rfl := HZ.out.1 (by simp)
      have L1 := fun v => ref_slow (i + 1) (HL1.out rfl) ((i : Int) + 1) (by omega) v
      have L2 := fun v => ref_slow (i + 2) (HL2.out rfl) ((i : Int) + 2) (by omega) v
    all_goals
      go_enter Tryz.func95, Tryz.ntmps95
      go_wp2_with (first
        | (go_at_call 93; (with_reducible refine Calls.mono (I1 _) ?_); rintro e v1 ⟨rfl, rfl⟩)
        | (go_at_call 93; (with_reducible refine Calls.mono (I2 _) ?_); rintro e v2 ⟨rfl, rfl⟩)
        | (go_at_call 94; (with_reducible refine Calls.mono (L1 _) ?_); rintro e u1 ⟨rfl, rfl⟩)
        | (go_at_call 94; (with_reducible refine Calls.mono (L2 _) ?_); rintro e u2 ⟨rfl, rfl⟩))
      go_ret
      first
        | exact ⟨rfl, rfl⟩
        | (refine ⟨?_, rfl⟩
           have hB := HB.out
           have l1 : bt s (i + 1) % 64 < 64 := Nat.mod_lt _ (by omega)
           have l2 : bt s (i + 2) % 64 < 64 := Nat.mod_lt _ (by omega)
           show Ending.returned (.int .i64 _) = .returned (.int .i64 _)
           congr 2
           (try unfold wrap64)
           omega)
def fourI (n b0 b1 b2 b3 : Nat) : Int := if (240 ≤ b0 ∧ b0 ≤ 244) ∧ (1 < n ∧ (if b0 = 240 then 144 else 128) ≤ b1 ∧ b1 ≤ (if b0 = 244 then 143 else 191)) ∧ (2 < n ∧ 128 ≤ b2 ∧ b2 ≤ 191) ∧ (3 < n ∧ 128 ≤ b3 ∧ b3 ≤ 191) then (((b0 - 240) * 262144 + b1 % 64 * 4096 + b2 % 64 * 64 + b3 % 64 : Nat) : Int) else -1
set_option maxHeartbeats 4000000 in
theorem ref_four {s : ByteArray} (hs : s.size ≤ 1000000) (i : Nat) (h : i < s.size) (z : Int) (hz : fourI (s.size - i) (bt s i) (bt s (i + 1)) (bt s (i + 2)) (bt s (i + 3)) = z) (w : World) :
    Calls Tryz.prog 96 #[.string s, .int .i64 i] w fun e w' => e = .returned (.int .i64 z) ∧ w = w' := by
  unfold fourI at hz
  have h1 : (i : Int) < s.size := by omega
  have hw := wrap_byte s[i]
  have hb := s[i].toNat_lt
  have w1 : wrap64 ((i : Int) + 1) = (i : Int) + 1 := by unfold wrap64; omega
  have w2 : wrap64 ((i : Int) + 2) = (i : Int) + 2 := by unfold wrap64; omega
  have w3 : wrap64 ((i : Int) + 3) = (i : Int) + 3 := by unfold wrap64; omega
  obtain ⟨r2, hr2⟩ : ∃ r, decide (i + 2 < s.size ∧ (128 : Int) ≤ (bt s (i + 2) : Int) ∧ (bt s (i + 2) : Int) ≤ 191) = r := ⟨_, rfl⟩
  have I2 := fun v => ref_sin (i + 2) ((i : Int) + 2) (by omega) 128 191 r2 hr2 v
  obtain ⟨r3, hr3⟩ : ∃ r, decide (i + 3 < s.size ∧ (128 : Int) ≤ (bt s (i + 3) : Int) ∧ (bt s (i + 3) : Int) ≤ 191) = r := ⟨_, rfl⟩
  have I3 := fun v => ref_sin (i + 3) ((i : Int) + 3) (by omega) 128 191 r3 hr3 v
  rw [bt_get h] at hz
  rcases (by omega : (s[i].toNat : Int) < 240 ∨ 244 < (s[i].toNat : Int) ∨ s[i].toNat = 240 ∨ s[i].toNat = 244 ∨ (240 ≤ s[i].toNat ∧ s[i].toNat ≤ 244 ∧ s[i].toNat ≠ 240 ∧ s[i].toNat ≠ 244)) with h3 | h3 | h3 | h3 | h3
  case' inl =>
    have e1 : ((s[i].toNat : Int) == 240) = false := by rw [beq_eq_false_iff_ne]; omega
    have e2 : ((s[i].toNat : Int) == 244) = false := by rw [beq_eq_false_iff_ne]; omega
    skip
    obtain rfl : z = -1 := by rw [← hz, if_neg (by omega)]
    clear hz hs hb
  case' inr.inl =>
    have e1 : ((s[i].toNat : Int) == 240) = false := by rw [beq_eq_false_iff_ne]; omega
    have e2 : ((s[i].toNat : Int) == 244) = false := by rw [beq_eq_false_iff_ne]; omega
    have h4 : ¬ (s[i].toNat : Int) < 240 := by omega
    obtain rfl : z = -1 := by rw [← hz, if_neg (by omega)]
    clear hz hs hb
  case' inr.inr.inl =>
    have h4 : ¬ (s[i].toNat : Int) < 240 := by omega
    have h5 : ¬ 244 < (s[i].toNat : Int) := by omega
    have e1 : ((s[i].toNat : Int) == 240) = true := by rw [beq_iff_eq]; omega
    have e2 : ((s[i].toNat : Int) == 244) = false := by rw [beq_eq_false_iff_ne]; omega
    obtain ⟨r1, hr1⟩ : ∃ r, decide (i + 1 < s.size ∧ (144 : Int) ≤ (bt s (i + 1) : Int) ∧ (bt s (i + 1) : Int) ≤ 191) = r := ⟨_, rfl⟩
    have I1 := fun v => ref_sin (i + 1) ((i : Int) + 1) (by omega) 144 191 r1 hr1 v
    have HZ : Hid (((r1 = true ∧ r2 = true ∧ r3 = true) → z = ((((s[i].toNat - 240) * 262144 + bt s (i + 1) % 64 * 4096 + bt s (i + 2) % 64 * 64 + bt s (i + 3) % 64 : Nat)) : Int)) ∧ (¬ (r1 = true ∧ r2 = true ∧ r3 = true) → z = -1)) := by
      rw [← hr1, ← hr2, ← hr3]
      simp only [decide_eq_true_eq]
      simp only [h3, if_true, if_false, show ((240 : Nat) = 244) = False from eq_false (by decide)] at hz ⊢
      refine ⟨fun q => ?_, fun q => ?_⟩
      · rw [← hz, if_pos (by omega)]
      · rw [← hz, if_neg (by omega)]
    have HL1 : Hid (r1 = true → i + 1 < s.size) := fun e => (of_decide_eq_true (hr1.trans e)).1
    have HL2 : Hid (r2 = true → i + 2 < s.size) := fun e => (of_decide_eq_true (hr2.trans e)).1
    have HL3 : Hid (r3 = true → i + 3 < s.size) := fun e => (of_decide_eq_true (hr3.trans e)).1
    have HB : Hid (240 ≤ s[i].toNat ∧ s[i].toNat < 256) := ⟨by omega, by omega⟩
    clear hz hs hb h3 hr1 hr2 hr3
  case' inr.inr.inr.inl =>
    have h4 : ¬ (s[i].toNat : Int) < 240 := by omega
    have h5 : ¬ 244 < (s[i].toNat : Int) := by omega
    have e1 : ((s[i].toNat : Int) == 240) = false := by rw [beq_eq_false_iff_ne]; omega
    have e2 : ((s[i].toNat : Int) == 244) = true := by rw [beq_iff_eq]; omega
    obtain ⟨r1, hr1⟩ : ∃ r, decide (i + 1 < s.size ∧ (128 : Int) ≤ (bt s (i + 1) : Int) ∧ (bt s (i + 1) : Int) ≤ 143) = r := ⟨_, rfl⟩
    have I1 := fun v => ref_sin (i + 1) ((i : Int) + 1) (by omega) 128 143 r1 hr1 v
    have HZ : Hid (((r1 = true ∧ r2 = true ∧ r3 = true) → z = ((((s[i].toNat - 240) * 262144 + bt s (i + 1) % 64 * 4096 + bt s (i + 2) % 64 * 64 + bt s (i + 3) % 64 : Nat)) : Int)) ∧ (¬ (r1 = true ∧ r2 = true ∧ r3 = true) → z = -1)) := by
      rw [← hr1, ← hr2, ← hr3]
      simp only [decide_eq_true_eq]
      simp only [h3, if_true, if_false, show ((244 : Nat) = 240) = False from eq_false (by decide)] at hz ⊢
      refine ⟨fun q => ?_, fun q => ?_⟩
      · rw [← hz, if_pos (by omega)]
      · rw [← hz, if_neg (by omega)]
    have HL1 : Hid (r1 = true → i + 1 < s.size) := fun e => (of_decide_eq_true (hr1.trans e)).1
    have HL2 : Hid (r2 = true → i + 2 < s.size) := fun e => (of_decide_eq_true (hr2.trans e)).1
    have HL3 : Hid (r3 = true → i + 3 < s.size) := fun e => (of_decide_eq_true (hr3.trans e)).1
    have HB : Hid (240 ≤ s[i].toNat ∧ s[i].toNat < 256) := ⟨by omega, by omega⟩
    clear hz hs hb h3 hr1 hr2 hr3
  case' inr.inr.inr.inr =>
    have h4 : ¬ (s[i].toNat : Int) < 240 := by omega
    have h5 : ¬ 244 < (s[i].toNat : Int) := by omega
    have e1 : ((s[i].toNat : Int) == 240) = false := by rw [beq_eq_false_iff_ne]; omega
    have e2 : ((s[i].toNat : Int) == 244) = false := by rw [beq_eq_false_iff_ne]; omega
    obtain ⟨r1, hr1⟩ : ∃ r, decide (i + 1 < s.size ∧ (128 : Int) ≤ (bt s (i + 1) : Int) ∧ (bt s (i + 1) : Int) ≤ 191) = r := ⟨_, rfl⟩
    have I1 := fun v => ref_sin (i + 1) ((i : Int) + 1) (by omega) 128 191 r1 hr1 v
    have HZ : Hid (((r1 = true ∧ r2 = true ∧ r3 = true) → z = ((((s[i].toNat - 240) * 262144 + bt s (i + 1) % 64 * 4096 + bt s (i + 2) % 64 * 64 + bt s (i + 3) % 64 : Nat)) : Int)) ∧ (¬ (r1 = true ∧ r2 = true ∧ r3 = true) → z = -1)) := by
      rw [← hr1, ← hr2, ← hr3]
      simp only [decide_eq_true_eq]
      simp only [h3.2.2.1, h3.2.2.2, if_false] at hz
      refine ⟨fun q => ?_, fun q => ?_⟩
      · rw [← hz, if_pos (by omega)]
      · rw [← hz, if_neg (by omega)]
    have HL1 : Hid (r1 = true → i + 1 < s.size) := fun e => (of_decide_eq_true (hr1.trans e)).1
    have HL2 : Hid (r2 = true → i + 2 < s.size) := fun e => (of_decide_eq_true (hr2.trans e)).1
    have HL3 : Hid (r3 = true → i + 3 < s.size) := fun e => (of_decide_eq_true (hr3.trans e)).1
    have HB : Hid (240 ≤ s[i].toNat ∧ s[i].toNat < 256) := ⟨by omega, by omega⟩
    clear hz hs hb h3 hr1 hr2 hr3
  case' inl | inr.inl =>
    go_enter Tryz.func96, Tryz.ntmps96
    go_wp2
    go_ret
    exact ⟨rfl, rfl⟩
  all_goals
    cases r1
    case' false => obtain rfl := HZ.out.2 (by simp)
    case' true => cases r2
    case' true.false => obtain rfl := HZ.out.2 (by simp)
    case' true.true => cases r3
    case' true.true.false => obtain rfl := HZ.out.2 (by simp)
    case' true.true.true =>
      obtain rfl := HZ.out.1 (by simp)
      have L1 := fun v => ref_slow (i + 1) (HL1.out rfl) ((i : Int) + 1) (by omega) v
      have L2 := fun v => ref_slow (i + 2) (HL2.out rfl) ((i : Int) + 2) (by omega) v
      have L3 := fun v => ref_slow (i + 3) (HL3.out rfl) ((i : Int) + 3) (by omega) v
    all_goals
      go_enter Tryz.func96, Tryz.ntmps96
      go_wp2_with (first
        | (go_at_call 93; (with_reducible refine Calls.mono (I1 _) ?_); rintro e v1 ⟨rfl, rfl⟩)
        | (go_at_call 93; (with_reducible refine Calls.mono (I2 _) ?_); rintro e v2 ⟨rfl, rfl⟩)
        | (go_at_call 93; (with_reducible refine Calls.mono (I3 _) ?_); rintro e v3 ⟨rfl, rfl⟩)
        | (go_at_call 94; (with_reducible refine Calls.mono (L1 _) ?_); rintro e u1 ⟨rfl, rfl⟩)
        | (go_at_call 94; (with_reducible refine Calls.mono (L2 _) ?_); rintro e u2 ⟨rfl, rfl⟩)
        | (go_at_call 94; (with_reducible refine Calls.mono (L3 _) ?_); rintro e u3 ⟨rfl, rfl⟩))
      go_ret
      first
        | exact ⟨rfl, rfl⟩
        | (refine ⟨?_, rfl⟩
           have hB := HB.out
           have l1 : bt s (i + 1) % 64 < 64 := Nat.mod_lt _ (by omega)
           have l2 : bt s (i + 2) % 64 < 64 := Nat.mod_lt _ (by omega)
           have l3 : bt s (i + 3) % 64 < 64 := Nat.mod_lt _ (by omega)
           show Ending.returned (.int .i64 _) = .returned (.int .i64 _)
           congr 2
           (try unfold wrap64)
           omega)
end Go.Proofs.YtbcfplaalepnbaaGreatDoor
namespace Go.Proofs.YtbcfplaalepnbaaGreatDoor
open Go.RowKit Go.Lib
theorem next_ways {s : ByteArray} {i : Nat} (h : i < s.size) :
    (bt s i < 128 ∧ nextR s i = bt s i ∧ nextN s i = 1) ∨
    (¬ bt s i < 128 ∧ ((194 ≤ bt s i ∧ bt s i ≤ 223) ∧ (i + 1 < s.size ∧ 128 ≤ bt s (i + 1) ∧ bt s (i + 1) ≤ 191)) ∧ nextR s i = (((bt s i - 192) * 64 + bt s (i + 1) % 64 : Nat) : Int) ∧ nextN s i = 2) ∨
    (¬ bt s i < 128 ∧ ¬ (194 ≤ bt s i ∧ bt s i ≤ 223) ∧ nextR s i = threeI (s.size - i) (bt s i) (bt s (i + 1)) (bt s (i + 2)) ∧ 0 ≤ threeI (s.size - i) (bt s i) (bt s (i + 1)) (bt s (i + 2)) ∧ nextN s i = 3) ∨
    (¬ bt s i < 128 ∧ ¬ (194 ≤ bt s i ∧ bt s i ≤ 223) ∧ threeI (s.size - i) (bt s i) (bt s (i + 1)) (bt s (i + 2)) = -1 ∧ nextR s i = fourI (s.size - i) (bt s i) (bt s (i + 1)) (bt s (i + 2)) (bt s (i + 3)) ∧ 0 ≤ fourI (s.size - i) (bt s i) (bt s (i + 1)) (bt s (i + 2)) (bt s (i + 3)) ∧ nextN s i = 4) ∨
    (¬ bt s i < 128 ∧ ¬ ((194 ≤ bt s i ∧ bt s i ≤ 223) ∧ (i + 1 < s.size ∧ 128 ≤ bt s (i + 1) ∧ bt s (i + 1) ≤ 191)) ∧ threeI (s.size - i) (bt s i) (bt s (i + 1)) (bt s (i + 2)) = -1 ∧ fourI (s.size - i) (bt s i) (bt s (i + 1)) (bt s (i + 2)) (bt s (i + 3)) = -1 ∧ nextR s i = 65533 ∧ nextN s i = 1) := by
  unfold nextR nextN
  rw [decode_bt]
  have hb := bt_lt s i
  generalize hn : s.size - i = n
  have e1 : (i + 1 < s.size) = (1 < n) := propext ⟨fun _ => by omega, fun _ => by omega⟩
  rw [e1]
  generalize bt s i = b0 at *
  generalize bt s (i + 1) = b1 at *
  generalize bt s (i + 2) = b2 at *
  generalize bt s (i + 3) = b3 at *
  by_cases c1 : b0 < 128
  · left; rw [decodeN_one c1]; exact ⟨c1, rfl, rfl⟩
  right
  by_cases c2 : (194 ≤ b0 ∧ b0 ≤ 223) ∧ (1 < n ∧ 128 ≤ b1 ∧ b1 ≤ 191)
  · left; rw [decodeN_two c2.1 c2.2]; exact ⟨c1, c2, rfl, rfl⟩
  right
  by_cases c3 : (224 ≤ b0 ∧ b0 ≤ 239) ∧ (1 < n ∧ (if b0 = 224 then 160 else 128) ≤ b1 ∧ b1 ≤ (if b0 = 237 then 159 else 191)) ∧ (2 < n ∧ 128 ≤ b2 ∧ b2 ≤ 191)
  · left
    rw [decodeN_three c3.1 c3.2.1 c3.2.2]
    unfold threeI
    rw [if_pos c3]
    exact ⟨c1, by omega, rfl, by omega, rfl⟩
  right
  have t3 : threeI n b0 b1 b2 = -1 := if_neg c3
  by_cases c4 : (240 ≤ b0 ∧ b0 ≤ 244) ∧ (1 < n ∧ (if b0 = 240 then 144 else 128) ≤ b1 ∧ b1 ≤ (if b0 = 244 then 143 else 191)) ∧ (2 < n ∧ 128 ≤ b2 ∧ b2 ≤ 191) ∧ (3 < n ∧ 128 ≤ b3 ∧ b3 ≤ 191)
  · left
    rw [decodeN_four c4.1 c4.2.1 c4.2.2.1 c4.2.2.2]
    unfold fourI
    rw [if_pos c4]
    exact ⟨c1, by omega, t3, rfl, by omega, rfl⟩
  right
  have t4 : fourI n b0 b1 b2 b3 = -1 := if_neg c4
  rw [decodeN_none hb c1 c2 c3 c4]
  exact ⟨c1, c2, t3, t4, rfl, rfl⟩
set_option maxHeartbeats 8000000 in
theorem ref_snext {s : ByteArray} (hs : s.size ≤ 1000000) (i : Nat) (h : i < s.size) (w : World) :
    Calls Tryz.prog 63 #[.string s, .int .i64 i] w fun e w' => e = .returned (.tuple #[.int .i64 (nextR s i), .int .i64 (nextN s i)]) ∧ w = w' := by
  have W := next_ways h
  have g1 : (i : Int) < s.size := by omega
  have g2 : ¬ (s.size : Int) ≤ i := by omega
  have g3 : ¬ (i : Int) < 0 := by omega
  have hw := wrap_byte s[i]
  have w1 : wrap64 ((i : Int) + 1) = (i : Int) + 1 := by unfold wrap64; omega
  obtain ⟨r0, hr0⟩ : ∃ r, decide (i < s.size ∧ (194 : Int) ≤ (bt s i : Int) ∧ (bt s i : Int) ≤ 223) = r := ⟨_, rfl⟩
  obtain ⟨r1, hr1⟩ : ∃ r, decide (i + 1 < s.size ∧ (128 : Int) ≤ (bt s (i + 1) : Int) ∧ (bt s (i + 1) : Int) ≤ 191) = r := ⟨_, rfl⟩
  have J0 := fun v => ref_sin i (i : Int) rfl 194 223 r0 hr0 v
  have J1 := fun v => ref_sin (i + 1) ((i : Int) + 1) (by omega) 128 191 r1 hr1 v
  have T := fun v => ref_three hs i h _ rfl v
  have Fo := fun v => ref_four hs i h _ rfl v
  have hl := fun (q : i + 1 < s.size) v => ref_slow (i + 1) q ((i : Int) + 1) (by omega) v
  have hbt := bt_get h
  generalize threeI (s.size - i) (bt s i) (bt s (i + 1)) (bt s (i + 2)) = t at *
  generalize fourI (s.size - i) (bt s i) (bt s (i + 1)) (bt s (i + 2)) (bt s (i + 3)) = f at *
  generalize nextR s i = R at *
  generalize nextN s i = M at *
  rcases W with ⟨a0, rfl, rfl⟩ | ⟨a0, a1, rfl, rfl⟩ | ⟨a0, a1, rfl, a2, rfl⟩ | ⟨a0, a1, rfl, rfl, a2, rfl⟩ | ⟨a0, a1, rfl, rfl, rfl, rfl⟩
  case' inl => have k0 : (s[i].toNat : Int) < 128 := by omega
  case' inr.inl =>
    have k0 : ¬ (s[i].toNat : Int) < 128 := by omega
    obtain rfl : r0 = true := by rw [← hr0]; exact decide_eq_true (by omega)
    obtain rfl : r1 = true := by rw [← hr1]; exact decide_eq_true (by omega)
    replace hl := hl a1.2.1
  case' inr.inr.inl =>
    have k0 : ¬ (s[i].toNat : Int) < 128 := by omega
    obtain rfl : r0 = false := by rw [← hr0]; exact decide_eq_false (by omega)
  case' inr.inr.inr.inl =>
    have k0 : ¬ (s[i].toNat : Int) < 128 := by omega
    obtain rfl : r0 = false := by rw [← hr0]; exact decide_eq_false (by omega)
  case' inr.inr.inr.inr =>
    have k0 : ¬ (s[i].toNat : Int) < 128 := by omega
    have a2 : r0 = false ∨ (r0 = true ∧ r1 = false) := by
      rw [← hr0, ← hr1]
      simp only [decide_eq_false_iff_not, decide_eq_true_eq]
      omega
    rcases a2 with rfl | ⟨rfl, rfl⟩
  all_goals
    have HK : Hid (bt s i = s[i].toNat) := hbt
    have hb8 : Hid (s[i].toNat < 256) := s[i].toNat_lt
    (try have HA : Hid (194 ≤ bt s i) := a1.1.1)
    clear hr0 hr1 a0 hs hbt
    (try clear a1)
    go_enter Tryz.func63, Tryz.ntmps63
    go_wp2_with (first
      | (go_at_call 93; (with_reducible refine Calls.mono (J0 _) ?_); rintro e v0 ⟨rfl, rfl⟩)
      | (go_at_call 93; (with_reducible refine Calls.mono (J1 _) ?_); rintro e v1 ⟨rfl, rfl⟩)
      | (go_at_call 94; (with_reducible refine Calls.mono (hl _) ?_); rintro e v2 ⟨rfl, rfl⟩)
      | (go_at_call 95; (with_reducible refine Calls.mono (T _) ?_); rintro e v3 ⟨rfl, rfl⟩)
      | (go_at_call 96; (with_reducible refine Calls.mono (Fo _) ?_); rintro e v4 ⟨rfl, rfl⟩))
    go_ret2
    first
      | exact ⟨rfl, rfl⟩
      | (rw [HK.out]; exact ⟨rfl, rfl⟩)
      | (refine ⟨?_, rfl⟩
         have hB := HK.out
         have hA := HA.out
         have h8 := hb8.out
         have l1 : bt s (i + 1) % 64 < 64 := Nat.mod_lt _ (by omega)
         show Ending.returned (.tuple #[.int .i64 _, .int .i64 _]) = .returned (.tuple #[.int .i64 _, .int .i64 _])
         congr 5
         (try unfold wrap64)
         omega)
set_option maxHeartbeats 2000000 in
theorem ref_skey (s : ByteArray) (r : Bool) (hr : keyB s = r) (w : World) :
    Calls Tryz.prog 67 #[.string s] w fun e w' => e = .returned (.bool r) ∧ w = w' := by
  unfold keyB at hr
  generalize h1 : (s.toList == [105, 110]) = q1 at hr
  generalize h2 : (s.toList == [108, 101, 116]) = q2 at hr
  generalize h3 : (s.toList == [111, 117, 116]) = q3 at hr
  cases q1 <;> cases q2
  all_goals
    simp at hr
    subst hr
    go_enter Tryz.func67, Tryz.ntmps67
    go_wp2
    go_ret
    exact ⟨rfl, rfl⟩
end Go.Proofs.YtbcfplaalepnbaaGreatDoor
namespace Go.Proofs.YtbcfplaalepnbaaGreatDoor
open Go.RowKit Go.Lib
theorem kind_iv0 (r : Int) (h1 : r ≤ 8) (w : World) : Calls Tryz.prog 68 #[.int .i64 r] w fun e w' => e = .returned (.int .i64 0) ∧ w = w' := by
  have g97 : ¬ 97 ≤ r := by omega
  have g65 : ¬ 65 ≤ r := by omega
  have e95 : (r == 95) = false := by rw [beq_eq_false_iff_ne]; omega
  have g128 : ¬ 128 ≤ r := by omega
  have g48 : ¬ 48 ≤ r := by omega
  have e9 : (r == 9) = false := by rw [beq_eq_false_iff_ne]; omega
  have e10 : (r == 10) = false := by rw [beq_eq_false_iff_ne]; omega
  have e13 : (r == 13) = false := by rw [beq_eq_false_iff_ne]; omega
  have e32 : (r == 32) = false := by rw [beq_eq_false_iff_ne]; omega
  have e43 : (r == 43) = false := by rw [beq_eq_false_iff_ne]; omega
  have e45 : (r == 45) = false := by rw [beq_eq_false_iff_ne]; omega
  have e42 : (r == 42) = false := by rw [beq_eq_false_iff_ne]; omega
  have e47 : (r == 47) = false := by rw [beq_eq_false_iff_ne]; omega
  have e94 : (r == 94) = false := by rw [beq_eq_false_iff_ne]; omega
  have e40 : (r == 40) = false := by rw [beq_eq_false_iff_ne]; omega
  have e41 : (r == 41) = false := by rw [beq_eq_false_iff_ne]; omega
  have e61 : (r == 61) = false := by rw [beq_eq_false_iff_ne]; omega
  have e59 : (r == 59) = false := by rw [beq_eq_false_iff_ne]; omega
  have e44 : (r == 44) = false := by rw [beq_eq_false_iff_ne]; omega
  go_enter Tryz.func68, Tryz.ntmps68
  go_wp2
  go_ret
  exact ⟨rfl, rfl⟩
theorem kind_iv1 (r : Int) (h0 : 11 ≤ r) (h1 : r ≤ 12) (w : World) : Calls Tryz.prog 68 #[.int .i64 r] w fun e w' => e = .returned (.int .i64 0) ∧ w = w' := by
  have g97 : ¬ 97 ≤ r := by omega
  have g65 : ¬ 65 ≤ r := by omega
  have e95 : (r == 95) = false := by rw [beq_eq_false_iff_ne]; omega
  have g128 : ¬ 128 ≤ r := by omega
  have g48 : ¬ 48 ≤ r := by omega
  have e9 : (r == 9) = false := by rw [beq_eq_false_iff_ne]; omega
  have e10 : (r == 10) = false := by rw [beq_eq_false_iff_ne]; omega
  have e13 : (r == 13) = false := by rw [beq_eq_false_iff_ne]; omega
  have e32 : (r == 32) = false := by rw [beq_eq_false_iff_ne]; omega
  have e43 : (r == 43) = false := by rw [beq_eq_false_iff_ne]; omega
  have e45 : (r == 45) = false := by rw [beq_eq_false_iff_ne]; omega
  have e42 : (r == 42) = false := by rw [beq_eq_false_iff_ne]; omega
  have e47 : (r == 47) = false := by rw [beq_eq_false_iff_ne]; omega
  have e94 : (r == 94) = false := by rw [beq_eq_false_iff_ne]; omega
  have e40 : (r == 40) = false := by rw [beq_eq_false_iff_ne]; omega
  have e41 : (r == 41) = false := by rw [beq_eq_false_iff_ne]; omega
  have e61 : (r == 61) = false := by rw [beq_eq_false_iff_ne]; omega
  have e59 : (r == 59) = false := by rw [beq_eq_false_iff_ne]; omega
  have e44 : (r == 44) = false := by rw [beq_eq_false_iff_ne]; omega
  go_enter Tryz.func68, Tryz.ntmps68
  go_wp2
  go_ret
  exact ⟨rfl, rfl⟩
theorem kind_iv2 (r : Int) (h0 : 14 ≤ r) (h1 : r ≤ 31) (w : World) : Calls Tryz.prog 68 #[.int .i64 r] w fun e w' => e = .returned (.int .i64 0) ∧ w = w' := by
  have g97 : ¬ 97 ≤ r := by omega
  have g65 : ¬ 65 ≤ r := by omega
  have e95 : (r == 95) = false := by rw [beq_eq_false_iff_ne]; omega
  have g128 : ¬ 128 ≤ r := by omega
  have g48 : ¬ 48 ≤ r := by omega
  have e9 : (r == 9) = false := by rw [beq_eq_false_iff_ne]; omega
  have e10 : (r == 10) = false := by rw [beq_eq_false_iff_ne]; omega
  have e13 : (r == 13) = false := by rw [beq_eq_false_iff_ne]; omega
  have e32 : (r == 32) = false := by rw [beq_eq_false_iff_ne]; omega
  have e43 : (r == 43) = false := by rw [beq_eq_false_iff_ne]; omega
  have e45 : (r == 45) = false := by rw [beq_eq_false_iff_ne]; omega
  have e42 : (r == 42) = false := by rw [beq_eq_false_iff_ne]; omega
  have e47 : (r == 47) = false := by rw [beq_eq_false_iff_ne]; omega
  have e94 : (r == 94) = false := by rw [beq_eq_false_iff_ne]; omega
  have e40 : (r == 40) = false := by rw [beq_eq_false_iff_ne]; omega
  have e41 : (r == 41) = false := by rw [beq_eq_false_iff_ne]; omega
  have e61 : (r == 61) = false := by rw [beq_eq_false_iff_ne]; omega
  have e59 : (r == 59) = false := by rw [beq_eq_false_iff_ne]; omega
  have e44 : (r == 44) = false := by rw [beq_eq_false_iff_ne]; omega
  go_enter Tryz.func68, Tryz.ntmps68
  go_wp2
  go_ret
  exact ⟨rfl, rfl⟩
theorem kind_iv3 (r : Int) (h0 : 33 ≤ r) (h1 : r ≤ 39) (w : World) : Calls Tryz.prog 68 #[.int .i64 r] w fun e w' => e = .returned (.int .i64 0) ∧ w = w' := by
  have g97 : ¬ 97 ≤ r := by omega
  have g65 : ¬ 65 ≤ r := by omega
  have e95 : (r == 95) = false := by rw [beq_eq_false_iff_ne]; omega
  have g128 : ¬ 128 ≤ r := by omega
  have g48 : ¬ 48 ≤ r := by omega
  have e9 : (r == 9) = false := by rw [beq_eq_false_iff_ne]; omega
  have e10 : (r == 10) = false := by rw [beq_eq_false_iff_ne]; omega
  have e13 : (r == 13) = false := by rw [beq_eq_false_iff_ne]; omega
  have e32 : (r == 32) = false := by rw [beq_eq_false_iff_ne]; omega
  have e43 : (r == 43) = false := by rw [beq_eq_false_iff_ne]; omega
  have e45 : (r == 45) = false := by rw [beq_eq_false_iff_ne]; omega
  have e42 : (r == 42) = false := by rw [beq_eq_false_iff_ne]; omega
  have e47 : (r == 47) = false := by rw [beq_eq_false_iff_ne]; omega
  have e94 : (r == 94) = false := by rw [beq_eq_false_iff_ne]; omega
  have e40 : (r == 40) = false := by rw [beq_eq_false_iff_ne]; omega
  have e41 : (r == 41) = false := by rw [beq_eq_false_iff_ne]; omega
  have e61 : (r == 61) = false := by rw [beq_eq_false_iff_ne]; omega
  have e59 : (r == 59) = false := by rw [beq_eq_false_iff_ne]; omega
  have e44 : (r == 44) = false := by rw [beq_eq_false_iff_ne]; omega
  go_enter Tryz.func68, Tryz.ntmps68
  go_wp2
  go_ret
  exact ⟨rfl, rfl⟩
theorem kind_iv4 (r : Int) (h0 : 46 ≤ r) (h1 : r ≤ 46) (w : World) : Calls Tryz.prog 68 #[.int .i64 r] w fun e w' => e = .returned (.int .i64 0) ∧ w = w' := by
  have g97 : ¬ 97 ≤ r := by omega
  have g65 : ¬ 65 ≤ r := by omega
  have e95 : (r == 95) = false := by rw [beq_eq_false_iff_ne]; omega
  have g128 : ¬ 128 ≤ r := by omega
  have g48 : ¬ 48 ≤ r := by omega
  have e9 : (r == 9) = false := by rw [beq_eq_false_iff_ne]; omega
  have e10 : (r == 10) = false := by rw [beq_eq_false_iff_ne]; omega
  have e13 : (r == 13) = false := by rw [beq_eq_false_iff_ne]; omega
  have e32 : (r == 32) = false := by rw [beq_eq_false_iff_ne]; omega
  have e43 : (r == 43) = false := by rw [beq_eq_false_iff_ne]; omega
  have e45 : (r == 45) = false := by rw [beq_eq_false_iff_ne]; omega
  have e42 : (r == 42) = false := by rw [beq_eq_false_iff_ne]; omega
  have e47 : (r == 47) = false := by rw [beq_eq_false_iff_ne]; omega
  have e94 : (r == 94) = false := by rw [beq_eq_false_iff_ne]; omega
  have e40 : (r == 40) = false := by rw [beq_eq_false_iff_ne]; omega
  have e41 : (r == 41) = false := by rw [beq_eq_false_iff_ne]; omega
  have e61 : (r == 61) = false := by rw [beq_eq_false_iff_ne]; omega
  have e59 : (r == 59) = false := by rw [beq_eq_false_iff_ne]; omega
  have e44 : (r == 44) = false := by rw [beq_eq_false_iff_ne]; omega
  go_enter Tryz.func68, Tryz.ntmps68
  go_wp2
  go_ret
  exact ⟨rfl, rfl⟩
theorem kind_iv5 (r : Int) (h0 : 48 ≤ r) (h1 : r ≤ 57) (w : World) : Calls Tryz.prog 68 #[.int .i64 r] w fun e w' => e = .returned (.int .i64 2) ∧ w = w' := by
  have g97 : ¬ 97 ≤ r := by omega
  have g65 : ¬ 65 ≤ r := by omega
  have e95 : (r == 95) = false := by rw [beq_eq_false_iff_ne]; omega
  have g128 : ¬ 128 ≤ r := by omega
  have g48 : 48 ≤ r := by omega
  have l57 : r ≤ 57 := by omega
  go_enter Tryz.func68, Tryz.ntmps68
  go_wp2
  go_ret
  exact ⟨rfl, rfl⟩
theorem kind_iv6 (r : Int) (h0 : 58 ≤ r) (h1 : r ≤ 58) (w : World) : Calls Tryz.prog 68 #[.int .i64 r] w fun e w' => e = .returned (.int .i64 0) ∧ w = w' := by
  have g97 : ¬ 97 ≤ r := by omega
  have g65 : ¬ 65 ≤ r := by omega
  have e95 : (r == 95) = false := by rw [beq_eq_false_iff_ne]; omega
  have g128 : ¬ 128 ≤ r := by omega
  have g48 : 48 ≤ r := by omega
  have l57 : ¬ r ≤ 57 := by omega
  have e9 : (r == 9) = false := by rw [beq_eq_false_iff_ne]; omega
  have e10 : (r == 10) = false := by rw [beq_eq_false_iff_ne]; omega
  have e13 : (r == 13) = false := by rw [beq_eq_false_iff_ne]; omega
  have e32 : (r == 32) = false := by rw [beq_eq_false_iff_ne]; omega
  have e43 : (r == 43) = false := by rw [beq_eq_false_iff_ne]; omega
  have e45 : (r == 45) = false := by rw [beq_eq_false_iff_ne]; omega
  have e42 : (r == 42) = false := by rw [beq_eq_false_iff_ne]; omega
  have e47 : (r == 47) = false := by rw [beq_eq_false_iff_ne]; omega
  have e94 : (r == 94) = false := by rw [beq_eq_false_iff_ne]; omega
  have e40 : (r == 40) = false := by rw [beq_eq_false_iff_ne]; omega
  have e41 : (r == 41) = false := by rw [beq_eq_false_iff_ne]; omega
  have e61 : (r == 61) = false := by rw [beq_eq_false_iff_ne]; omega
  have e59 : (r == 59) = false := by rw [beq_eq_false_iff_ne]; omega
  have e44 : (r == 44) = false := by rw [beq_eq_false_iff_ne]; omega
  go_enter Tryz.func68, Tryz.ntmps68
  go_wp2
  go_ret
  exact ⟨rfl, rfl⟩
theorem kind_iv7 (r : Int) (h0 : 60 ≤ r) (h1 : r ≤ 60) (w : World) : Calls Tryz.prog 68 #[.int .i64 r] w fun e w' => e = .returned (.int .i64 0) ∧ w = w' := by
  have g97 : ¬ 97 ≤ r := by omega
  have g65 : ¬ 65 ≤ r := by omega
  have e95 : (r == 95) = false := by rw [beq_eq_false_iff_ne]; omega
  have g128 : ¬ 128 ≤ r := by omega
  have g48 : 48 ≤ r := by omega
  have l57 : ¬ r ≤ 57 := by omega
  have e9 : (r == 9) = false := by rw [beq_eq_false_iff_ne]; omega
  have e10 : (r == 10) = false := by rw [beq_eq_false_iff_ne]; omega
  have e13 : (r == 13) = false := by rw [beq_eq_false_iff_ne]; omega
  have e32 : (r == 32) = false := by rw [beq_eq_false_iff_ne]; omega
  have e43 : (r == 43) = false := by rw [beq_eq_false_iff_ne]; omega
  have e45 : (r == 45) = false := by rw [beq_eq_false_iff_ne]; omega
  have e42 : (r == 42) = false := by rw [beq_eq_false_iff_ne]; omega
  have e47 : (r == 47) = false := by rw [beq_eq_false_iff_ne]; omega
  have e94 : (r == 94) = false := by rw [beq_eq_false_iff_ne]; omega
  have e40 : (r == 40) = false := by rw [beq_eq_false_iff_ne]; omega
  have e41 : (r == 41) = false := by rw [beq_eq_false_iff_ne]; omega
  have e61 : (r == 61) = false := by rw [beq_eq_false_iff_ne]; omega
  have e59 : (r == 59) = false := by rw [beq_eq_false_iff_ne]; omega
  have e44 : (r == 44) = false := by rw [beq_eq_false_iff_ne]; omega
  go_enter Tryz.func68, Tryz.ntmps68
  go_wp2
  go_ret
  exact ⟨rfl, rfl⟩
theorem kind_iv8 (r : Int) (h0 : 62 ≤ r) (h1 : r ≤ 64) (w : World) : Calls Tryz.prog 68 #[.int .i64 r] w fun e w' => e = .returned (.int .i64 0) ∧ w = w' := by
  have g97 : ¬ 97 ≤ r := by omega
  have g65 : ¬ 65 ≤ r := by omega
  have e95 : (r == 95) = false := by rw [beq_eq_false_iff_ne]; omega
  have g128 : ¬ 128 ≤ r := by omega
  have g48 : 48 ≤ r := by omega
  have l57 : ¬ r ≤ 57 := by omega
  have e9 : (r == 9) = false := by rw [beq_eq_false_iff_ne]; omega
  have e10 : (r == 10) = false := by rw [beq_eq_false_iff_ne]; omega
  have e13 : (r == 13) = false := by rw [beq_eq_false_iff_ne]; omega
  have e32 : (r == 32) = false := by rw [beq_eq_false_iff_ne]; omega
  have e43 : (r == 43) = false := by rw [beq_eq_false_iff_ne]; omega
  have e45 : (r == 45) = false := by rw [beq_eq_false_iff_ne]; omega
  have e42 : (r == 42) = false := by rw [beq_eq_false_iff_ne]; omega
  have e47 : (r == 47) = false := by rw [beq_eq_false_iff_ne]; omega
  have e94 : (r == 94) = false := by rw [beq_eq_false_iff_ne]; omega
  have e40 : (r == 40) = false := by rw [beq_eq_false_iff_ne]; omega
  have e41 : (r == 41) = false := by rw [beq_eq_false_iff_ne]; omega
  have e61 : (r == 61) = false := by rw [beq_eq_false_iff_ne]; omega
  have e59 : (r == 59) = false := by rw [beq_eq_false_iff_ne]; omega
  have e44 : (r == 44) = false := by rw [beq_eq_false_iff_ne]; omega
  go_enter Tryz.func68, Tryz.ntmps68
  go_wp2
  go_ret
  exact ⟨rfl, rfl⟩
theorem kind_iv9 (r : Int) (h0 : 65 ≤ r) (h1 : r ≤ 90) (w : World) : Calls Tryz.prog 68 #[.int .i64 r] w fun e w' => e = .returned (.int .i64 1) ∧ w = w' := by
  have g97 : ¬ 97 ≤ r := by omega
  have g65 : 65 ≤ r := by omega
  have l90 : r ≤ 90 := by omega
  go_enter Tryz.func68, Tryz.ntmps68
  go_wp2
  go_ret
  exact ⟨rfl, rfl⟩
theorem kind_iv10 (r : Int) (h0 : 91 ≤ r) (h1 : r ≤ 93) (w : World) : Calls Tryz.prog 68 #[.int .i64 r] w fun e w' => e = .returned (.int .i64 0) ∧ w = w' := by
  have g97 : ¬ 97 ≤ r := by omega
  have g65 : 65 ≤ r := by omega
  have l90 : ¬ r ≤ 90 := by omega
  have e95 : (r == 95) = false := by rw [beq_eq_false_iff_ne]; omega
  have g128 : ¬ 128 ≤ r := by omega
  have g48 : 48 ≤ r := by omega
  have l57 : ¬ r ≤ 57 := by omega
  have e9 : (r == 9) = false := by rw [beq_eq_false_iff_ne]; omega
  have e10 : (r == 10) = false := by rw [beq_eq_false_iff_ne]; omega
  have e13 : (r == 13) = false := by rw [beq_eq_false_iff_ne]; omega
  have e32 : (r == 32) = false := by rw [beq_eq_false_iff_ne]; omega
  have e43 : (r == 43) = false := by rw [beq_eq_false_iff_ne]; omega
  have e45 : (r == 45) = false := by rw [beq_eq_false_iff_ne]; omega
  have e42 : (r == 42) = false := by rw [beq_eq_false_iff_ne]; omega
  have e47 : (r == 47) = false := by rw [beq_eq_false_iff_ne]; omega
  have e94 : (r == 94) = false := by rw [beq_eq_false_iff_ne]; omega
  have e40 : (r == 40) = false := by rw [beq_eq_false_iff_ne]; omega
  have e41 : (r == 41) = false := by rw [beq_eq_false_iff_ne]; omega
  have e61 : (r == 61) = false := by rw [beq_eq_false_iff_ne]; omega
  have e59 : (r == 59) = false := by rw [beq_eq_false_iff_ne]; omega
  have e44 : (r == 44) = false := by rw [beq_eq_false_iff_ne]; omega
  go_enter Tryz.func68, Tryz.ntmps68
  go_wp2
  go_ret
  exact ⟨rfl, rfl⟩
theorem kind_iv11 (r : Int) (h0 : 96 ≤ r) (h1 : r ≤ 96) (w : World) : Calls Tryz.prog 68 #[.int .i64 r] w fun e w' => e = .returned (.int .i64 0) ∧ w = w' := by
  have g97 : ¬ 97 ≤ r := by omega
  have g65 : 65 ≤ r := by omega
  have l90 : ¬ r ≤ 90 := by omega
  have e95 : (r == 95) = false := by rw [beq_eq_false_iff_ne]; omega
  have g128 : ¬ 128 ≤ r := by omega
  have g48 : 48 ≤ r := by omega
  have l57 : ¬ r ≤ 57 := by omega
  have e9 : (r == 9) = false := by rw [beq_eq_false_iff_ne]; omega
  have e10 : (r == 10) = false := by rw [beq_eq_false_iff_ne]; omega
  have e13 : (r == 13) = false := by rw [beq_eq_false_iff_ne]; omega
  have e32 : (r == 32) = false := by rw [beq_eq_false_iff_ne]; omega
  have e43 : (r == 43) = false := by rw [beq_eq_false_iff_ne]; omega
  have e45 : (r == 45) = false := by rw [beq_eq_false_iff_ne]; omega
  have e42 : (r == 42) = false := by rw [beq_eq_false_iff_ne]; omega
  have e47 : (r == 47) = false := by rw [beq_eq_false_iff_ne]; omega
  have e94 : (r == 94) = false := by rw [beq_eq_false_iff_ne]; omega
  have e40 : (r == 40) = false := by rw [beq_eq_false_iff_ne]; omega
  have e41 : (r == 41) = false := by rw [beq_eq_false_iff_ne]; omega
  have e61 : (r == 61) = false := by rw [beq_eq_false_iff_ne]; omega
  have e59 : (r == 59) = false := by rw [beq_eq_false_iff_ne]; omega
  have e44 : (r == 44) = false := by rw [beq_eq_false_iff_ne]; omega
  go_enter Tryz.func68, Tryz.ntmps68
  go_wp2
  go_ret
  exact ⟨rfl, rfl⟩
theorem kind_iv12 (r : Int) (h0 : 97 ≤ r) (h1 : r ≤ 122) (w : World) : Calls Tryz.prog 68 #[.int .i64 r] w fun e w' => e = .returned (.int .i64 1) ∧ w = w' := by
  have g97 : 97 ≤ r := by omega
  have l122 : r ≤ 122 := by omega
  go_enter Tryz.func68, Tryz.ntmps68
  go_wp2
  go_ret
  exact ⟨rfl, rfl⟩
theorem kind_iv13 (r : Int) (h0 : 123 ≤ r) (h1 : r ≤ 127) (w : World) : Calls Tryz.prog 68 #[.int .i64 r] w fun e w' => e = .returned (.int .i64 0) ∧ w = w' := by
  have g97 : 97 ≤ r := by omega
  have l122 : ¬ r ≤ 122 := by omega
  have g65 : 65 ≤ r := by omega
  have l90 : ¬ r ≤ 90 := by omega
  have e95 : (r == 95) = false := by rw [beq_eq_false_iff_ne]; omega
  have g128 : ¬ 128 ≤ r := by omega
  have g48 : 48 ≤ r := by omega
  have l57 : ¬ r ≤ 57 := by omega
  have e9 : (r == 9) = false := by rw [beq_eq_false_iff_ne]; omega
  have e10 : (r == 10) = false := by rw [beq_eq_false_iff_ne]; omega
  have e13 : (r == 13) = false := by rw [beq_eq_false_iff_ne]; omega
  have e32 : (r == 32) = false := by rw [beq_eq_false_iff_ne]; omega
  have e43 : (r == 43) = false := by rw [beq_eq_false_iff_ne]; omega
  have e45 : (r == 45) = false := by rw [beq_eq_false_iff_ne]; omega
  have e42 : (r == 42) = false := by rw [beq_eq_false_iff_ne]; omega
  have e47 : (r == 47) = false := by rw [beq_eq_false_iff_ne]; omega
  have e94 : (r == 94) = false := by rw [beq_eq_false_iff_ne]; omega
  have e40 : (r == 40) = false := by rw [beq_eq_false_iff_ne]; omega
  have e41 : (r == 41) = false := by rw [beq_eq_false_iff_ne]; omega
  have e61 : (r == 61) = false := by rw [beq_eq_false_iff_ne]; omega
  have e59 : (r == 59) = false := by rw [beq_eq_false_iff_ne]; omega
  have e44 : (r == 44) = false := by rw [beq_eq_false_iff_ne]; omega
  go_enter Tryz.func68, Tryz.ntmps68
  go_wp2
  go_ret
  exact ⟨rfl, rfl⟩
theorem kind_iv14 (r : Int) (h0 : 128 ≤ r) (h1 : r ≤ 65532) (w : World) : Calls Tryz.prog 68 #[.int .i64 r] w fun e w' => e = .returned (.int .i64 1) ∧ w = w' := by
  have g97 : 97 ≤ r := by omega
  have l122 : ¬ r ≤ 122 := by omega
  have g65 : 65 ≤ r := by omega
  have l90 : ¬ r ≤ 90 := by omega
  have e95 : (r == 95) = false := by rw [beq_eq_false_iff_ne]; omega
  have g128 : 128 ≤ r := by omega
  have l1114111 : r ≤ 1114111 := by omega
  have n1 : (r != 65533) = true := by rw [bne_iff_ne]; omega
  go_enter Tryz.func68, Tryz.ntmps68
  go_wp2
  go_ret
  exact ⟨rfl, rfl⟩
theorem kind_iv15 (r : Int) (h0 : 65534 ≤ r) (h1 : r ≤ 1114111) (w : World) : Calls Tryz.prog 68 #[.int .i64 r] w fun e w' => e = .returned (.int .i64 1) ∧ w = w' := by
  have g97 : 97 ≤ r := by omega
  have l122 : ¬ r ≤ 122 := by omega
  have g65 : 65 ≤ r := by omega
  have l90 : ¬ r ≤ 90 := by omega
  have e95 : (r == 95) = false := by rw [beq_eq_false_iff_ne]; omega
  have g128 : 128 ≤ r := by omega
  have l1114111 : r ≤ 1114111 := by omega
  have n1 : (r != 65533) = true := by rw [bne_iff_ne]; omega
  go_enter Tryz.func68, Tryz.ntmps68
  go_wp2
  go_ret
  exact ⟨rfl, rfl⟩
theorem kind_iv16 (r : Int) (h0 : 1114112 ≤ r) (w : World) : Calls Tryz.prog 68 #[.int .i64 r] w fun e w' => e = .returned (.int .i64 0) ∧ w = w' := by
  have g97 : 97 ≤ r := by omega
  have l122 : ¬ r ≤ 122 := by omega
  have g65 : 65 ≤ r := by omega
  have l90 : ¬ r ≤ 90 := by omega
  have e95 : (r == 95) = false := by rw [beq_eq_false_iff_ne]; omega
  have g128 : 128 ≤ r := by omega
  have l1114111 : ¬ r ≤ 1114111 := by omega
  have g48 : 48 ≤ r := by omega
  have l57 : ¬ r ≤ 57 := by omega
  have e9 : (r == 9) = false := by rw [beq_eq_false_iff_ne]; omega
  have e10 : (r == 10) = false := by rw [beq_eq_false_iff_ne]; omega
  have e13 : (r == 13) = false := by rw [beq_eq_false_iff_ne]; omega
  have e32 : (r == 32) = false := by rw [beq_eq_false_iff_ne]; omega
  have e43 : (r == 43) = false := by rw [beq_eq_false_iff_ne]; omega
  have e45 : (r == 45) = false := by rw [beq_eq_false_iff_ne]; omega
  have e42 : (r == 42) = false := by rw [beq_eq_false_iff_ne]; omega
  have e47 : (r == 47) = false := by rw [beq_eq_false_iff_ne]; omega
  have e94 : (r == 94) = false := by rw [beq_eq_false_iff_ne]; omega
  have e40 : (r == 40) = false := by rw [beq_eq_false_iff_ne]; omega
  have e41 : (r == 41) = false := by rw [beq_eq_false_iff_ne]; omega
  have e61 : (r == 61) = false := by rw [beq_eq_false_iff_ne]; omega
  have e59 : (r == 59) = false := by rw [beq_eq_false_iff_ne]; omega
  have e44 : (r == 44) = false := by rw [beq_eq_false_iff_ne]; omega
  go_enter Tryz.func68, Tryz.ntmps68
  go_wp2
  go_ret
  exact ⟨rfl, rfl⟩
theorem kind_one9 (w : World) : Calls Tryz.prog 68 #[.int .i64 9] w fun e w' => e = .returned (.int .i64 3) ∧ w = w' := by
  go_enter Tryz.func68, Tryz.ntmps68
  go_wp2
  go_ret
  exact ⟨rfl, rfl⟩
theorem kind_one10 (w : World) : Calls Tryz.prog 68 #[.int .i64 10] w fun e w' => e = .returned (.int .i64 3) ∧ w = w' := by
  go_enter Tryz.func68, Tryz.ntmps68
  go_wp2
  go_ret
  exact ⟨rfl, rfl⟩
theorem kind_one13 (w : World) : Calls Tryz.prog 68 #[.int .i64 13] w fun e w' => e = .returned (.int .i64 3) ∧ w = w' := by
  go_enter Tryz.func68, Tryz.ntmps68
  go_wp2
  go_ret
  exact ⟨rfl, rfl⟩
theorem kind_one32 (w : World) : Calls Tryz.prog 68 #[.int .i64 32] w fun e w' => e = .returned (.int .i64 3) ∧ w = w' := by
  go_enter Tryz.func68, Tryz.ntmps68
  go_wp2
  go_ret
  exact ⟨rfl, rfl⟩
theorem kind_one40 (w : World) : Calls Tryz.prog 68 #[.int .i64 40] w fun e w' => e = .returned (.int .i64 4) ∧ w = w' := by
  go_enter Tryz.func68, Tryz.ntmps68
  go_wp2
  go_ret
  exact ⟨rfl, rfl⟩
theorem kind_one41 (w : World) : Calls Tryz.prog 68 #[.int .i64 41] w fun e w' => e = .returned (.int .i64 4) ∧ w = w' := by
  go_enter Tryz.func68, Tryz.ntmps68
  go_wp2
  go_ret
  exact ⟨rfl, rfl⟩
theorem kind_one42 (w : World) : Calls Tryz.prog 68 #[.int .i64 42] w fun e w' => e = .returned (.int .i64 4) ∧ w = w' := by
  go_enter Tryz.func68, Tryz.ntmps68
  go_wp2
  go_ret
  exact ⟨rfl, rfl⟩
theorem kind_one43 (w : World) : Calls Tryz.prog 68 #[.int .i64 43] w fun e w' => e = .returned (.int .i64 4) ∧ w = w' := by
  go_enter Tryz.func68, Tryz.ntmps68
  go_wp2
  go_ret
  exact ⟨rfl, rfl⟩
theorem kind_one44 (w : World) : Calls Tryz.prog 68 #[.int .i64 44] w fun e w' => e = .returned (.int .i64 4) ∧ w = w' := by
  go_enter Tryz.func68, Tryz.ntmps68
  go_wp2
  go_ret
  exact ⟨rfl, rfl⟩
theorem kind_one45 (w : World) : Calls Tryz.prog 68 #[.int .i64 45] w fun e w' => e = .returned (.int .i64 4) ∧ w = w' := by
  go_enter Tryz.func68, Tryz.ntmps68
  go_wp2
  go_ret
  exact ⟨rfl, rfl⟩
theorem kind_one47 (w : World) : Calls Tryz.prog 68 #[.int .i64 47] w fun e w' => e = .returned (.int .i64 4) ∧ w = w' := by
  go_enter Tryz.func68, Tryz.ntmps68
  go_wp2
  go_ret
  exact ⟨rfl, rfl⟩
theorem kind_one59 (w : World) : Calls Tryz.prog 68 #[.int .i64 59] w fun e w' => e = .returned (.int .i64 4) ∧ w = w' := by
  go_enter Tryz.func68, Tryz.ntmps68
  go_wp2
  go_ret
  exact ⟨rfl, rfl⟩
theorem kind_one61 (w : World) : Calls Tryz.prog 68 #[.int .i64 61] w fun e w' => e = .returned (.int .i64 4) ∧ w = w' := by
  go_enter Tryz.func68, Tryz.ntmps68
  go_wp2
  go_ret
  exact ⟨rfl, rfl⟩
theorem kind_one94 (w : World) : Calls Tryz.prog 68 #[.int .i64 94] w fun e w' => e = .returned (.int .i64 4) ∧ w = w' := by
  go_enter Tryz.func68, Tryz.ntmps68
  go_wp2
  go_ret
  exact ⟨rfl, rfl⟩
theorem kind_one95 (w : World) : Calls Tryz.prog 68 #[.int .i64 95] w fun e w' => e = .returned (.int .i64 1) ∧ w = w' := by
  go_enter Tryz.func68, Tryz.ntmps68
  go_wp2
  go_ret
  exact ⟨rfl, rfl⟩
theorem kind_one65533 (w : World) : Calls Tryz.prog 68 #[.int .i64 65533] w fun e w' => e = .returned (.int .i64 0) ∧ w = w' := by
  go_enter Tryz.func68, Tryz.ntmps68
  go_wp2
  go_ret
  exact ⟨rfl, rfl⟩
theorem kind_ways (r : Int) : (r ≤ 8) ∨ (r = 9) ∨ (r = 10) ∨ (11 ≤ r ∧ r ≤ 12) ∨ (r = 13) ∨ (14 ≤ r ∧ r ≤ 31) ∨ (r = 32) ∨ (33 ≤ r ∧ r ≤ 39) ∨ (r = 40) ∨ (r = 41) ∨ (r = 42) ∨ (r = 43) ∨ (r = 44) ∨ (r = 45) ∨ (46 ≤ r ∧ r ≤ 46) ∨ (r = 47) ∨ (48 ≤ r ∧ r ≤ 57) ∨ (58 ≤ r ∧ r ≤ 58) ∨ (r = 59) ∨ (60 ≤ r ∧ r ≤ 60) ∨ (r = 61) ∨ (62 ≤ r ∧ r ≤ 64) ∨ (65 ≤ r ∧ r ≤ 90) ∨ (91 ≤ r ∧ r ≤ 93) ∨ (r = 94) ∨ (r = 95) ∨ (96 ≤ r ∧ r ≤ 96) ∨ (97 ≤ r ∧ r ≤ 122) ∨ (123 ≤ r ∧ r ≤ 127) ∨ (128 ≤ r ∧ r ≤ 65532) ∨ (r = 65533) ∨ (65534 ≤ r ∧ r ≤ 1114111) ∨ (1114112 ≤ r) := by omega
set_option maxHeartbeats 1000000 in
theorem ref_skind (r : Int) (k : Int) (hk : kindI r = k) (w : World) : Calls Tryz.prog 68 #[.int .i64 r] w fun e w' => e = .returned (.int .i64 k) ∧ w = w' := by
  subst hk
  rcases kind_ways r with h0 | rfl | rfl | ⟨h0, h1⟩ | rfl | ⟨h0, h1⟩ | rfl | ⟨h0, h1⟩ | rfl | rfl | rfl | rfl | rfl | rfl | ⟨h0, h1⟩ | rfl | ⟨h0, h1⟩ | ⟨h0, h1⟩ | rfl | ⟨h0, h1⟩ | rfl | ⟨h0, h1⟩ | ⟨h0, h1⟩ | ⟨h0, h1⟩ | rfl | rfl | ⟨h0, h1⟩ | ⟨h0, h1⟩ | ⟨h0, h1⟩ | ⟨h0, h1⟩ | rfl | ⟨h0, h1⟩ | h0
  · rw [show kindI r = 0 from by unfold kindI; (repeat' split) <;> omega]; exact kind_iv0 r h0 w
  · rw [show kindI 9 = 3 from by decide]; exact kind_one9 w
  · rw [show kindI 10 = 3 from by decide]; exact kind_one10 w
  · rw [show kindI r = 0 from by unfold kindI; (repeat' split) <;> omega]; exact kind_iv1 r h0 h1 w
  · rw [show kindI 13 = 3 from by decide]; exact kind_one13 w
  · rw [show kindI r = 0 from by unfold kindI; (repeat' split) <;> omega]; exact kind_iv2 r h0 h1 w
  · rw [show kindI 32 = 3 from by decide]; exact kind_one32 w
  · rw [show kindI r = 0 from by unfold kindI; (repeat' split) <;> omega]; exact kind_iv3 r h0 h1 w
  · rw [show kindI 40 = 4 from by decide]; exact kind_one40 w
  · rw [show kindI 41 = 4 from by decide]; exact kind_one41 w
  · rw [show kindI 42 = 4 from by decide]; exact kind_one42 w
  · rw [show kindI 43 = 4 from by decide]; exact kind_one43 w
  · rw [show kindI 44 = 4 from by decide]; exact kind_one44 w
  · rw [show kindI 45 = 4 from by decide]; exact kind_one45 w
  · rw [show kindI r = 0 from by unfold kindI; (repeat' split) <;> omega]; exact kind_iv4 r h0 h1 w
  · rw [show kindI 47 = 4 from by decide]; exact kind_one47 w
  · rw [show kindI r = 2 from by unfold kindI; (repeat' split) <;> omega]; exact kind_iv5 r h0 h1 w
  · rw [show kindI r = 0 from by unfold kindI; (repeat' split) <;> omega]; exact kind_iv6 r h0 h1 w
  · rw [show kindI 59 = 4 from by decide]; exact kind_one59 w
  · rw [show kindI r = 0 from by unfold kindI; (repeat' split) <;> omega]; exact kind_iv7 r h0 h1 w
  · rw [show kindI 61 = 4 from by decide]; exact kind_one61 w
  · rw [show kindI r = 0 from by unfold kindI; (repeat' split) <;> omega]; exact kind_iv8 r h0 h1 w
  · rw [show kindI r = 1 from by unfold kindI; (repeat' split) <;> omega]; exact kind_iv9 r h0 h1 w
  · rw [show kindI r = 0 from by unfold kindI; (repeat' split) <;> omega]; exact kind_iv10 r h0 h1 w
  · rw [show kindI 94 = 4 from by decide]; exact kind_one94 w
  · rw [show kindI 95 = 1 from by decide]; exact kind_one95 w
  · rw [show kindI r = 0 from by unfold kindI; (repeat' split) <;> omega]; exact kind_iv11 r h0 h1 w
  · rw [show kindI r = 1 from by unfold kindI; (repeat' split) <;> omega]; exact kind_iv12 r h0 h1 w
  · rw [show kindI r = 0 from by unfold kindI; (repeat' split) <;> omega]; exact kind_iv13 r h0 h1 w
  · rw [show kindI r = 1 from by unfold kindI; (repeat' split) <;> omega]; exact kind_iv14 r h0 h1 w
  · rw [show kindI 65533 = 0 from by decide]; exact kind_one65533 w
  · rw [show kindI r = 1 from by unfold kindI; (repeat' split) <;> omega]; exact kind_iv15 r h0 h1 w
  · rw [show kindI r = 0 from by unfold kindI; (repeat' split) <;> omega]; exact kind_iv16 r h0 w
end Go.Proofs.YtbcfplaalepnbaaGreatDoor
namespace Go.Proofs.YtbcfplaalepnbaaGreatDoor
open Go.RowKit Go.Lib
set_option maxHeartbeats 4000000 in
theorem ref_sname {s : ByteArray} (hs : s.size ≤ 1000000) (r : Bool) (hr : nameB s = r) (w : World) :
    Calls Tryz.prog 39 #[.string s] w fun e w' => e = .returned (.bool r) ∧ w = w' := by
  have KY := fun v => ref_skey s _ rfl v
  have NX := fun i (h : i < s.size) v => ref_snext hs i h v
  unfold nameB at hr
  rcases (by by_cases h1 : s.size < 1 <;> by_cases h2 : 40 < s.size <;> by_cases h3 : keyB s = true <;> simp [h1, h2, h3] : s.size < 1 ∨ (¬ s.size < 1 ∧ 40 < s.size) ∨ (¬ s.size < 1 ∧ ¬ 40 < s.size ∧ keyB s = true) ∨ (¬ s.size < 1 ∧ ¬ 40 < s.size ∧ keyB s = false)) with h | ⟨h, h2⟩ | ⟨h, h2, h3⟩ | ⟨h, h2, h3⟩
  · obtain rfl : r = false := by rw [← hr, decide_eq_false (by omega)]; rfl
    have k1 : (s.size : Int) < 1 := by omega
    clear hr hs NX
    go_enter Tryz.func39, Tryz.ntmps39
    go_wp2
    go_ret
    exact ⟨rfl, rfl⟩
  · obtain rfl : r = false := by rw [← hr, decide_eq_false (by omega)]; rfl
    have k1 : ¬ (s.size : Int) < 1 := by omega
    have k2 : 40 < (s.size : Int) := by omega
    clear hr hs NX
    go_enter Tryz.func39, Tryz.ntmps39
    go_wp2
    go_ret
    exact ⟨rfl, rfl⟩
  · obtain rfl : r = false := by rw [← hr, h3]; simp
    have k1 : ¬ (s.size : Int) < 1 := by omega
    have k2 : ¬ 40 < (s.size : Int) := by omega
    rw [h3] at KY
    clear hr hs NX h3
    go_enter Tryz.func39, Tryz.ntmps39
    go_wp2_with (go_at_call 67; (with_reducible refine Calls.mono (KY _) ?_); rintro e v1 ⟨rfl, rfl⟩)
    go_ret
    exact ⟨rfl, rfl⟩
  · have k1 : ¬ (s.size : Int) < 1 := by omega
    have k2 : ¬ 40 < (s.size : Int) := by omega
    have hF : nameF s (s.size + 1) 0 = r := by rw [← hr, h3, decide_eq_true (by omega : 1 ≤ s.size ∧ s.size ≤ 40)]; rfl
    have HF : Hid (nameF s (s.size + 1) 0 = r) := hF
    rw [h3] at KY
    clear hr h3 hF hs h h2
    go_enter Tryz.func39, Tryz.ntmps39
    go_wp2_with (go_at_call 67; (with_reducible refine Calls.mono (KY _) ?_); rintro e v1 ⟨rfl, rfl⟩)
    go_loopg [3] s.size (fun g s3 v => ∃ i : Nat, s3 = .int .i64 i ∧ i + g = s.size ∧ nameF s (s.size + 1) i = r ∧ w = v)
    case atStart => exact ⟨0, rfl, by omega, HF.out, rfl⟩
    case round =>
      obtain ⟨i, rfl, hg, hF, rfl⟩ := hrel
      clear HF KY
      have HF : Hid (nameF s (s.size + 1) i = r) := hF
      clear hF
      rcases Nat.lt_or_ge i s.size with hi | hi
      · have hi' : (i : Int) < s.size := by omega
        have N1 := fun v => NX i hi v
        have hz := next_size hi
        have HS : Hid (nameF s (s.size + 1) i = if (kindI (nextR s i) ≠ 1 ∧ kindI (nextR s i) ≠ 2) ∨ (kindI (nextR s i) = 2 ∧ i = 0) then false else nameF s (s.size + 1) (i + nextN s i)) := nameF_step hi
        have K1 := fun v => ref_skind (nextR s i) _ rfl v
        have hk := kindI_range (nextR s i)
        have hw : wrap64 ((i : Int) + nextN s i) = (i : Int) + nextN s i := by unfold wrap64; omega
        have HZ : Hid (1 ≤ nextN s i ∧ i + nextN s i ≤ s.size) := ⟨hz.1, hz.2.2⟩
        generalize kindI (nextR s i) = k at *
        generalize nextR s i = R at *
        generalize nextN s i = M at *
        clear hz NX
        rcases (by omega : ((k = 0 ∨ k = 3 ∨ k = 4) ∨ (k = 2 ∧ i = 0)) ∨ (k = 1 ∨ (k = 2 ∧ i ≠ 0))) with hA | hB
        · obtain rfl : r = false := by rw [← HF.out, HS.out, if_pos (by omega)]
          clear hk HS HF
          rcases hA with (rfl | rfl | rfl) | ⟨rfl, h0⟩
          all_goals
            (try (have e0 : ((i : Int) == 0) = true := by (rw [beq_iff_eq]; omega)); clear h0)
            go_wp2_with (first
              | (go_at_call 63; (with_reducible refine Calls.mono (N1 _) ?_); rintro e v1 ⟨rfl, rfl⟩)
              | (go_at_call 68; (with_reducible refine Calls.mono (K1 _) ?_); rintro e v2 ⟨rfl, rfl⟩))
            go_ret
            exact ⟨rfl, rfl⟩
        · have HR : Hid (nameF s (s.size + 1) (i + M) = r) := by show _ = _; rw [← HF.out, HS.out, if_neg (by omega)]
          clear hk HS HF
          rcases hB with rfl | ⟨rfl, h0⟩
          all_goals
            (try (have e0 : ((i : Int) == 0) = false := by (rw [beq_eq_false_iff_ne]; omega)); clear h0)
            go_wp2_with (first
              | (go_at_call 63; (with_reducible refine Calls.mono (N1 _) ?_); rintro e v1 ⟨rfl, rfl⟩)
              | (go_at_call 68; (with_reducible refine Calls.mono (K1 _) ?_); rintro e v2 ⟨rfl, rfl⟩))
            have hZ := HZ.out
            go_roundg (s.size - (i + M))
            case measure => omega
            case rel => exact ⟨i + M, by go_num, by omega, HR.out, rfl⟩
      · have hi' : ¬ (i : Int) < s.size := by omega
        obtain rfl : r = true := by rw [← HF.out, nameF_end (by omega)]
        clear NX HF
        go_wp2
        go_ret
        exact ⟨rfl, rfl⟩
end Go.Proofs.YtbcfplaalepnbaaGreatDoor
namespace Go.Proofs.YtbcfplaalepnbaaGreatDoor
open Go.Lib
def beginF (l : List Nd) (s : Int) : Nat → Int → Int
  | 0, _ => s - 1
  | f + 1, i => if i < s then s - 1 else match l[i.toNat]? with
    | none => s - 1
    | some n => if n.kind = 0 ∨ n.kind = 1 then i
      else if n.kind = 6 ∨ n.kind = 7 then (if n.a ≠ i - 1 then s - 1 else beginF l s f n.a)
      else if n.b ≠ i - 1 then s - 1
      else if beginF l s f n.b < s ∨ n.a ≠ beginF l s f n.b - 1 then s - 1 else beginF l s f n.a
theorem begin_seg {l : List Nd} {b i : Nat} (h : Seg l b i) : ∀ (s : Nat), s ≤ b → ∀ f, i + 1 ≤ f → beginF l s f i = b := by
  refine (h (fun b i => Seg l b i ∧ ∀ (s : Nat), s ≤ b → ∀ f, i + 1 ≤ f → beginF l s f i = b) ?_ ?_ ?_).2
  · intro i n hn hk
    refine ⟨Seg.leaf hn hk, fun s hs f hf => ?_⟩
    cases f with
    | zero => omega
    | succ f =>
      unfold beginF
      rw [if_neg (by omega), Int.toNat_natCast, hn]
      exact if_pos hk
  · intro b i n ⟨hs, ih⟩ hn hk ha
    refine ⟨hs.one hn hk ha, fun s hsb f hf => ?_⟩
    have hle := hs.le
    cases f with
    | zero => omega
    | succ f =>
      unfold beginF
      rw [if_neg (by omega), Int.toNat_natCast, hn]
      show (if n.kind = 0 ∨ n.kind = 1 then _ else _) = _
      rw [if_neg (by omega), if_pos hk, if_neg (by rw [ha]; omega), ha]
      exact ih s hsb f (by omega)
  · intro b j i n ⟨hs, ih⟩ ⟨ht, ih2⟩ hn h2 h5 ha hb
    refine ⟨hs.two ht hn h2 h5 ha hb, fun s hsb f hf => ?_⟩
    have hle := hs.le
    have hle2 := ht.le
    cases f with
    | zero => omega
    | succ f =>
      unfold beginF
      rw [if_neg (by omega), Int.toNat_natCast, hn]
      show (if n.kind = 0 ∨ n.kind = 1 then _ else _) = _
      rw [if_neg (by omega), if_neg (by omega), if_neg (by rw [hb]; omega), hb, ih2 s (by omega) f (by omega), if_neg (by rw [ha]; omega), ha]
      exact ih s hsb f (by omega)
theorem seg_begin {l : List Nd} (hk : ∀ n ∈ l, 0 ≤ n.kind ∧ n.kind ≤ 7) {s : Nat} : ∀ (f i b : Nat), beginF l s f i = b → s ≤ b → Seg l b i := by
  intro f
  induction f with
  | zero => intro i b h hb; unfold beginF at h; omega
  | succ f ih =>
    intro i b h hb
    unfold beginF at h
    split at h
    · omega
    · rename_i his
      rw [Int.toNat_natCast] at h
      cases hn : l[i]? with
      | none => rw [hn] at h; dsimp only at h; omega
      | some n =>
        rw [hn] at h
        dsimp only at h
        have hkn := hk n (List.mem_of_getElem? hn)
        by_cases k0 : n.kind = 0 ∨ n.kind = 1
        · rw [if_pos k0] at h
          obtain rfl : i = b := by omega
          exact Seg.leaf hn k0
        rw [if_neg k0] at h
        by_cases k6 : n.kind = 6 ∨ n.kind = 7
        · rw [if_pos k6] at h
          by_cases ha : n.a ≠ (i : Int) - 1
          · rw [if_pos ha] at h; omega
          rw [if_neg ha] at h
          have ha' : n.a = (i : Int) - 1 := Decidable.not_not.1 ha
          cases i with
          | zero =>
            exfalso
            rw [ha'] at h
            cases f with
            | zero => unfold beginF at h; omega
            | succ f => unfold beginF at h; rw [if_pos (by omega)] at h; omega
          | succ i =>
            have ha2 : n.a = (i : Int) := by rw [ha']; omega
            rw [ha2] at h
            exact (ih i b h hb).one hn k6 ha2
        rw [if_neg k6] at h
        by_cases hbb : n.b ≠ (i : Int) - 1
        · rw [if_pos hbb] at h; omega
        rw [if_neg hbb] at h
        have hb' : n.b = (i : Int) - 1 := Decidable.not_not.1 hbb
        by_cases hc : beginF l s f n.b < s ∨ n.a ≠ beginF l s f n.b - 1
        · rw [if_pos hc] at h; omega
        rw [if_neg hc] at h
        have hge : ¬ beginF l s f n.b < s := fun e => hc (.inl e)
        have hea : n.a = beginF l s f n.b - 1 := Decidable.not_not.1 (fun e => hc (.inr e))
        cases i with
        | zero =>
          exfalso
          rw [hb'] at hge
          cases f with
          | zero => unfold beginF at hge; omega
          | succ f => unfold beginF at hge; rw [if_pos (by omega)] at hge; omega
        | succ i =>
          have hb2 : n.b = (i : Int) := by rw [hb']; omega
          rw [hb2] at hge hea
          obtain ⟨m, hm⟩ : ∃ m : Nat, beginF l s f (i : Int) = (m : Int) := ⟨(beginF l s f i).toNat, by omega⟩
          have ht := ih i m hm (by omega)
          rw [hm] at hea
          cases m with
          | zero =>
            exfalso
            rw [hea] at h
            cases f with
            | zero => unfold beginF at h; omega
            | succ f => unfold beginF at h; rw [if_pos (by omega)] at h; omega
          | succ j =>
            have ha2 : n.a = (j : Int) := by rw [hea]; omega
            rw [ha2] at h
            exact (ih j b h hb).two ht hn (by omega) (by omega) ha2 hb2
end Go.Proofs.YtbcfplaalepnbaaGreatDoor
namespace Go.Proofs.YtbcfplaalepnbaaGreatDoor
open Go.RowKit
theorem conv_byte1 (v : World) (d : UInt8) (x : Int) (hx : (d.toNat : Int) = x) :
    Sem.run Tryz.prog (convert 129 9 (.slice (some ⟨v.heap.size, 0, none⟩) 1 1)) (v.alloc (.cells #[.int .u8 x] 5)) = .ok (.string ⟨#[d]⟩) (v.alloc (.cells #[.int .u8 x] 5)) := by
  have h := run_convert_bytes_back (P := Tryz.prog) (v.alloc (.cells #[.int .u8 x] 5)) 129 9 5 ⟨v.heap.size, 0, none⟩ 1 [d] Tryz.underlying129 Tryz.underlying5 Tryz.underlying9 (fun j hj => by
    rw [Go.WideShapes.add_plain]
    have : j = 0 := by simp at hj; omega
    subst this
    simp [hx])
  exact h
set_option maxHeartbeats 2000000 in
theorem ref_print {a : Option Addr} {n c : Nat} {zs : List Int} {w : World} (h : IsWords w (.slice a n c) zs) (hz : Wd zs) (hn : n ≤ 1000000) (N : Nat) (hN : val zs = N) :
    Calls Tryz.prog 66 #[.slice a n c] w fun e w' => e = .returned (.string ⟨(decOf N).toArray⟩) ∧ Below w.heap.size w w' := by
  have T := ref_trim a n c zs w h hz (by omega)
  rw [hN] at T
  unfold Ans at T
  have lN : nl N ≤ 1000000 := by rw [← hN]; exact nl_small hz _ (by rw [h.len]; exact hn)
  clear h hz hn hN
  rcases Nat.eq_zero_or_pos N with h0 | h0
  · subst h0
    simp only [nl_zero] at T
    rw [decOf_zero]
    go_enter Tryz.func66, Tryz.ntmps66
    go_wp2_with (go_at_call 99; (with_reducible refine Calls.mono T ?_); rintro e w1 ⟨a1, c1, rfl, o1⟩)
    go_ret
    exact ⟨rfl, o1.below⟩
  · have hN0 : ((nl N : Int) == 0) = false := by have := nl_pos h0; simp; omega
    rw [decOf_pos h0]
    have LD := dg_words N
    have HL : Hid (nl N ≤ 1000000 ∧ (dg N).length ≤ 10000000) := ⟨lN, by omega⟩
    clear h0 LD lN
    go_enter Tryz.func66, Tryz.ntmps66
    go_wp2_with (go_at_call 99; (with_reducible refine Calls.mono T ?_); rintro e w1 ⟨a1, c1, rfl, o1⟩)
    clear T hN0
    go_loopg [3, 4, 5, 6, 7] N (fun X s3 s4 s5 s6 s7 v => ∃ (a3 : Option Addr) (c3 : Nat) (l : List UInt8), s3 = .slice a3 (nl X) c3 ∧ s4 = .string ⟨l.toArray⟩ ∧ Own w v (.slice a3 (nl X) c3) (nl X) (natOf X) ∧ dg X ++ l = dg N ∧ nl X ≤ 1000000)
    case atStart => exact ⟨_, _, [], rfl, rfl, o1, by simp, HL.out.1⟩
    case round =>
      obtain ⟨a3, c3, l, rfl, rfl, o3, hd, hl⟩ := hrel
      clear o1
      rcases Nat.eq_zero_or_pos gk with h0 | h0
      · subst h0
        rw [dg_zero, List.nil_append] at hd
        rw [nl_zero] at o3 ⊢
        have HD : Hid (l = dg N) := hd
        clear hd hl
        go_wp2
        go_ret
        exact ⟨by rw [← HD.out]; rfl, o3.below⟩
      · have S := ref_small4 a3 (nl gk) c3 (natOf gk) 10 wr o3.words (wd_natOf gk) (by omega) (by omega) (by omega)
        rw [val_natOf, show (10 : Int).toNat = 10 from rfl] at S
        unfold AnsSmall at S
        have hp : 0 < (nl gk : Int) := by have := nl_pos h0; omega
        have HX : Hid (dg gk ++ l = dg N ∧ 0 < gk ∧ nl gk ≤ 1000000) := ⟨hd, h0, hl⟩
        have hls : (1 : Int) + l.length ≤ 9223372036854775807 := by
          have := congrArg List.length hd
          rw [List.length_append] at this
          have := HL.out.2
          omega
        clear hd h0 hl
        obtain ⟨r, hr, r0, r1⟩ : ∃ r : Int, ((gk % 10 : Nat) : Int) = r ∧ 0 ≤ r ∧ r < 10 := ⟨_, rfl, by omega, by omega⟩
        rw [hr] at S
        have CV := fun v => conv_byte1 v (UInt8.ofNat (48 + gk % 10)) (48 + r) (by rw [digit_nat]; omega)
        have hdg := dg_pos HX.out.2.1
        generalize UInt8.ofNat (48 + gk % 10) = d at CV hdg
        have HG : Hid (dg gk = dg (gk / 10) ++ [d]) := hdg
        clear hr hdg
        go_wp2_with (go_at_call 100; (with_reducible refine Calls.mono S ?_); rintro e w2 ⟨a4, c4, rfl, o4⟩)
        obtain ⟨x1, x2, x3⟩ := HX.out
        go_roundg (gk / 10)
        case measure => omega
        case rel => exact ⟨a4, c4, d :: l, rfl, by rw [ByteArray.mk_append_mk]; simp, (o4.outer o3.below).alloc _, by rw [← x1, HG.out]; simp, Nat.le_trans (nl_mono (by omega)) x3⟩
end Go.Proofs.YtbcfplaalepnbaaGreatDoor
namespace Go.Proofs.YtbcfplaalepnbaaGreatDoor
open Go.RowKit
set_option maxHeartbeats 4000000 in
theorem ref_rfix {s : Bool} {a : Option Addr} {n c : Nat} {xs : List Int} {b : Option Addr} {m d : Nat} {ys : List Int} {w : World} (h : IsWords w (.slice a n c) xs) (hx : Wd xs) (k : IsWords w (.slice b m d) ys) (hy : Wd ys) (hn : n ≤ 3000) (hm : m ≤ 3000) (q : Rat) (hq : rv s (val xs) (val ys) = q) :
    Calls Tryz.prog 98 #[.agg #[.bool s, .slice a n c, .slice b m d]] w (AnsT w (tri q)) := by
  have L := fun v (hb : Below w.heap.size w v) => ref_rlow (s := s) (h.below hb) hx (k.below hb) hy hn hm q hq
  unfold AnsT at L
  generalize tri q = t at L ⊢
  obtain ⟨t0, N, D⟩ := t
  dsimp only at L
  obtain ⟨b1, b2, bV, hs⟩ := boxes2 w #[.bool s, .slice a n c, .slice b m d] #[.bool false, .slice none 0 0, .slice none 0 0] 42 42
  clear h k hx hy hn hm hq
  obtain ⟨x0, x1, x2, -, -, -⟩ := b1.cells3
  go_enter Tryz.func98, Tryz.ntmps98
  go_wp2_with (go_at_call 49; (with_reducible refine Calls.mono (L _ bV) ?_); rintro e w1 ⟨a1, c1, a2, c2, rfl, o1, o2⟩; obtain ⟨y0, y1, y2, g0, g1, g2⟩ := (b2.more o1.below).cells3)
  exact bodyPost_ret (v := .agg #[.bool t0, .slice a1 (nl N) c1, .slice a2 (nl D) c2]) (by simp [results, Tryz.results98, go_sem, y0, y1, y2]) rfl (ansT_mk (((o1.above bV).set3 (by omega) hs _ _ _).own (by omega)) (((o2.above bV).set3 (by omega) hs _ _ _).own (by omega)))
end Go.Proofs.YtbcfplaalepnbaaGreatDoor
namespace Go.Proofs.YtbcfplaalepnbaaGreatDoor
open Go.RowKit
set_option maxHeartbeats 4000000 in
theorem ref_rright {s : Bool} {a : Option Addr} {n c : Nat} {xs : List Int} {b : Option Addr} {m d : Nat} {ys : List Int} {w : World} (h : IsWords w (.slice a n c) xs) (hx : Wd xs) (k : IsWords w (.slice b m d) ys) (hy : Wd ys) (hn : n ≤ 3000) (hm : m ≤ 3000) (q : Rat) (hq : rv s (val xs) (val ys) = q) (r : Bool) (hr : decide (decide (q.num < 0) = s ∧ natOf q.num.natAbs = xs ∧ natOf q.den = ys) = r) :
    Calls Tryz.prog 65 #[.agg #[.bool s, .slice a n c, .slice b m d]] w fun e w' => e = .returned (.bool r) ∧ Below w.heap.size w w' := by
  have F := fun v (hb : Below w.heap.size w v) => ref_rfix (s := s) (h.below hb) hx (k.below hb) hy hn hm q hq
  unfold AnsT tri at F
  have E := fun v a1 c1 a2 c2 (h1 : IsWords v (.slice a1 (nl q.num.natAbs) c1) (natOf q.num.natAbs)) (h2 : IsWords v (.slice a2 (nl q.den) c2) (natOf q.den)) (hb : Below w.heap.size w v) => ref_requal (s := decide (q.num < 0)) (s' := s) h1 h2 (h.below hb) (k.below hb) r hr
  dsimp only at F
  obtain ⟨b1, bV, hs⟩ := boxes1 w #[.bool s, .slice a n c, .slice b m d] 42
  clear h k hx hy hn hm hq hr
  generalize decide (q.num < 0) = t0 at *
  generalize q.num.natAbs = N at *
  generalize q.den = D at *
  go_enter Tryz.func65, Tryz.ntmps65
  go_wp2
  generalize w.alloc (.cells #[.bool s, .slice a n c, .slice b m d] 42) = V at *
  have SO : ∀ v, Below V.heap.size V v → v.cell? ⟨w.heap.size, 0, none⟩ = some (.bool s) ∧ v.cell? ⟨w.heap.size, 1, none⟩ = some (.slice a n c) ∧ v.cell? ⟨w.heap.size, 2, none⟩ = some (.slice b m d) := fun v hb => ⟨(b1.more hb).cells3.1, (b1.more hb).cells3.2.1, (b1.more hb).cells3.2.2.1⟩
  have bs : Below V.heap.size V V.drew := (Below.refl _ _).drew
  have HB : Hid (Below w.heap.size w V) := bV
  have bW := fun v (hb : Below V.heap.size V v) => below_more HB.out hb
  clear b1 bV hs
  go_region_held3 (fun v => v.cell? ⟨w.heap.size, 0, none⟩ = some (.bool s) ∧ v.cell? ⟨w.heap.size, 1, none⟩ = some (.slice a n c) ∧ v.cell? ⟨w.heap.size, 2, none⟩ = some (.slice b m d))
    (exact SO _ bs)
    (first
    | (go_at_call 98; (with_reducible refine Calls.mono (F _ (bW _ bs)) ?_); rintro e w1 ⟨a1, c1, a2, c2, rfl, o1, o2⟩; replace bs := below_more bs o1.below)
    | (go_at_call 64; (with_reducible refine Calls.mono (E _ _ _ _ _ o1.words o2.words (bW _ bs)) ?_); rintro e w2 ⟨rfl, b2⟩; replace bs := below_more bs b2))
  all_goals
    go_wp2
    go_ret
    exact ⟨rfl, below_more HB.out bs⟩
end Go.Proofs.YtbcfplaalepnbaaGreatDoor
namespace Go.Proofs.YtbcfplaalepnbaaGreatDoor
open Go.RowKit Go.Lib
set_option maxHeartbeats 16000000 in
theorem ref_ttall {w : World} {a : Option Addr} {n c : Nat} {ms : List Mn} (h : IsN w a n ms) (hn : n ≤ 100000) (hB : Behind (ms.map fun m => m.1.nd)) (hV : ∀ m ∈ ms, (∃ x y z, m.2.1 = .slice x y z) ∧ ∃ x y z, m.2.2 = .slice x y z) :
    ∀ (i : Nat), i < n → ∀ v, Below w.heap.size w v → Calls Tryz.prog 41 #[.slice a n c, .int .i64 i] v fun e w' => e = .returned (.int .i64 (tallI (ms.map fun m => m.1.nd) i)) ∧ Below v.heap.size v w' := by
  intro i
  induction i using Nat.strongRecOn with
  | ind i ih =>
    intro hin v hb
    have hl := h.1
    obtain ⟨m, hm⟩ : ∃ m, ms[i]? = some m := ⟨_, List.getElem?_eq_getElem (by omega)⟩
    have hmd : (ms.map fun m => m.1.nd)[i]? = some m.1.nd := by rw [List.getElem?_map, hm]; rfl
    obtain ⟨⟨ua, un, uc, hu⟩, ⟨va, vn, vc, hv⟩⟩ := hV m (List.mem_of_getElem? hm)
    obtain ⟨g, o, rfl, c0, c1, c2, c3, c4, c5, c6, c7⟩ := (h.below hb).node hm
    rw [hu] at c6
    rw [hv] at c7
    rw [tall_step hB hmd]
    have k1 : (i : Int) < n := by omega
    by_cases hk1 : m.1.kind ≤ 1
    · rw [if_pos (show m.1.nd.kind ≤ 1 from hk1)]
      clear ih h hB hV hmd hm hu hv hl
      go_enter Tryz.func41, Tryz.ntmps41
      go_wp2
      go_ret
      exact ⟨rfl, (Below.refl _ _).alloc (Nat.le_refl _) _⟩
    rw [if_neg (show ¬ m.1.nd.kind ≤ 1 from hk1)]
    obtain ⟨a0, a1, b0⟩ := hB i m.1.nd hmd (by show 2 ≤ m.1.kind; omega)
    have a0 : 0 ≤ m.1.a := a0
    have a1 : m.1.a < (i : Int) := a1
    obtain ⟨A, hA⟩ : ∃ A : Nat, m.1.a = (A : Int) := ⟨m.1.a.toNat, by omega⟩
    have CA := ih A (by omega) (by omega)
    have tA := tall_range hB A A (Nat.le_refl _) (by rw [List.length_map]; omega)
    rw [show m.1.nd.a = (A : Int) from hA, Int.toNat_natCast]
    rw [hA] at c1
    by_cases hk5 : m.1.kind ≤ 5
    · rw [if_pos (show m.1.nd.kind ≤ 5 from hk5)]
      have b0 := b0 hk5
      have b1 : 0 ≤ m.1.b := b0.1
      have b2 : m.1.b < (i : Int) := b0.2
      obtain ⟨C, hC⟩ : ∃ C : Nat, m.1.b = (C : Int) := ⟨m.1.b.toNat, by omega⟩
      have CC := ih C (by omega) (by omega)
      have tC := tall_range hB C C (Nat.le_refl _) (by rw [List.length_map]; omega)
      rw [show m.1.nd.b = (C : Int) from hC, Int.toNat_natCast]
      rw [hC] at c2
      generalize tallI (ms.map fun m => m.1.nd) A = X at *
      generalize tallI (ms.map fun m => m.1.nd) C = Y at *
      have NB := BoxC.new v #[.int .i64 m.1.kind, .int .i64 (A : Int), .int .i64 (C : Int), .int .i64 m.1.exp, .string m.1.name, .bool m.1.neg, .slice ua un uc, .slice va vn vc] 44
      have z1 := (NB.cell 1).1
      have z2 := (NB.cell 2).1
      have b0V : Below v.heap.size v (v.alloc (.cells #[.int .i64 m.1.kind, .int .i64 (A : Int), .int .i64 (C : Int), .int .i64 m.1.exp, .string m.1.name, .bool m.1.neg, .slice ua un uc, .slice va vn vc] 44)).drew := ((Below.refl _ v).alloc (Nat.le_refl _) _).drew
      have bV : Below w.heap.size w (v.alloc (.cells #[.int .i64 m.1.kind, .int .i64 (A : Int), .int .i64 (C : Int), .int .i64 m.1.exp, .string m.1.name, .bool m.1.neg, .slice ua un uc, .slice va vn vc] 44)).drew := below_more hb b0V
      have v1 : IntKind.i64.wrap (1 + X) = 1 + X := by rw [IntKind.wrap_i64]; omega
      have v2 : IntKind.i64.wrap (1 + Y) = 1 + Y := by rw [IntKind.wrap_i64]; omega
      have bs := (Below.refl (v.alloc (.cells #[.int .i64 m.1.kind, .int .i64 (A : Int), .int .i64 (C : Int), .int .i64 m.1.exp, .string m.1.name, .bool m.1.neg, .slice ua un uc, .slice va vn vc] 44)).heap.size (v.alloc (.cells #[.int .i64 m.1.kind, .int .i64 (A : Int), .int .i64 (C : Int), .int .i64 m.1.exp, .string m.1.name, .bool m.1.neg, .slice ua un uc, .slice va vn vc] 44))).drew
      have SO : ∀ u, Below (v.alloc (.cells #[.int .i64 m.1.kind, .int .i64 (A : Int), .int .i64 (C : Int), .int .i64 m.1.exp, .string m.1.name, .bool m.1.neg, .slice ua un uc, .slice va vn vc] 44)).heap.size (v.alloc (.cells #[.int .i64 m.1.kind, .int .i64 (A : Int), .int .i64 (C : Int), .int .i64 m.1.exp, .string m.1.name, .bool m.1.neg, .slice ua un uc, .slice va vn vc] 44)) u → (u.cell? ⟨v.heap.size, 1, none⟩ = some (.int .i64 (A : Int)) ∧ u.cell? ⟨v.heap.size, 2, none⟩ = some (.int .i64 (C : Int))) := fun u hu => ⟨((NB.more hu).cell 1).1, ((NB.more hu).cell 2).1⟩
      rcases Int.le_total X Y with hXY | hXY
      · rw [Int.max_eq_right hXY]
        clear ih h hB hV hmd hm hu hv hl tA tC a0 b0 hA hC
        go_enter Tryz.func41, Tryz.ntmps41
        go_wp2
        go_region_held3 (fun u => u.cell? ⟨v.heap.size, 1, none⟩ = some (.int .i64 (A : Int)) ∧ u.cell? ⟨v.heap.size, 2, none⟩ = some (.int .i64 (C : Int))) (exact SO _ bs) (first
          | (go_at_call 41; (with_reducible refine Calls.mono (CC _ bA) ?_); rintro e w2 ⟨rfl, d2⟩; replace bs := below_more bs d2; have bZ := below_more dA d2)
          | (go_at_call 41; (with_reducible refine Calls.mono (CA _ bC) ?_); rintro e w2 ⟨rfl, d2⟩; replace bs := below_more bs d2; have bZ := below_more dC d2)
          | (go_at_call 41; (with_reducible refine Calls.mono (CA _ bV) ?_); rintro e w1 ⟨rfl, dA⟩; have bA := below_more bV dA; replace bs := below_more bs dA)
          | (go_at_call 41; (with_reducible refine Calls.mono (CC _ bV) ?_); rintro e w1 ⟨rfl, dC⟩; have bC := below_more bV dC; replace bs := below_more bs dC))
        all_goals go_wp2
        all_goals
          first
            | (go_ret; exact ⟨rfl, below_more b0V bZ⟩)
            | (obtain rfl : X = Y := by omega
               go_ret; exact ⟨rfl, below_more b0V bZ⟩)
      · rw [Int.max_eq_left hXY]
        clear ih h hB hV hmd hm hu hv hl tA tC a0 b0 hA hC
        go_enter Tryz.func41, Tryz.ntmps41
        go_wp2
        go_region_held3 (fun u => u.cell? ⟨v.heap.size, 1, none⟩ = some (.int .i64 (A : Int)) ∧ u.cell? ⟨v.heap.size, 2, none⟩ = some (.int .i64 (C : Int))) (exact SO _ bs) (first
          | (go_at_call 41; (with_reducible refine Calls.mono (CC _ bA) ?_); rintro e w2 ⟨rfl, d2⟩; replace bs := below_more bs d2; have bZ := below_more dA d2)
          | (go_at_call 41; (with_reducible refine Calls.mono (CA _ bC) ?_); rintro e w2 ⟨rfl, d2⟩; replace bs := below_more bs d2; have bZ := below_more dC d2)
          | (go_at_call 41; (with_reducible refine Calls.mono (CA _ bV) ?_); rintro e w1 ⟨rfl, dA⟩; have bA := below_more bV dA; replace bs := below_more bs dA)
          | (go_at_call 41; (with_reducible refine Calls.mono (CC _ bV) ?_); rintro e w1 ⟨rfl, dC⟩; have bC := below_more bV dC; replace bs := below_more bs dC))
        all_goals go_wp2
        all_goals
          first
            | (go_ret; exact ⟨rfl, below_more b0V bZ⟩)
            | (obtain rfl : X = Y := by omega
               go_ret; exact ⟨rfl, below_more b0V bZ⟩)
    · rw [if_neg (show ¬ m.1.nd.kind ≤ 5 from hk5)]
      generalize tallI (ms.map fun m => m.1.nd) A = X at *
      have NB := BoxC.new v #[.int .i64 m.1.kind, .int .i64 (A : Int), .int .i64 m.1.b, .int .i64 m.1.exp, .string m.1.name, .bool m.1.neg, .slice ua un uc, .slice va vn vc] 44
      have z1 := (NB.cell 1).1
      have b0V : Below v.heap.size v (v.alloc (.cells #[.int .i64 m.1.kind, .int .i64 (A : Int), .int .i64 m.1.b, .int .i64 m.1.exp, .string m.1.name, .bool m.1.neg, .slice ua un uc, .slice va vn vc] 44)) := ((Below.refl _ v).alloc (Nat.le_refl _) _)
      have bV := below_more hb b0V
      have v1 : wrap64 (1 + X) = 1 + X := wrap_smalls (by omega) (by omega)
      clear ih h hB hV hmd hm hu hv hl tA a0 b0 hA
      go_enter Tryz.func41, Tryz.ntmps41
      go_wp2_with (go_at_call 41; (with_reducible refine Calls.mono (CA _ bV) ?_); rintro e w1 ⟨rfl, dA⟩)
      go_ret
      exact ⟨by simp only [v1]; rfl, below_more b0V dA⟩
end Go.Proofs.YtbcfplaalepnbaaGreatDoor
namespace Go.Proofs.YtbcfplaalepnbaaGreatDoor
open Go.RowKit Go.Lib
def encI (x : Int) : List Value := [.int .i64 x]
theorem encI_length (x : Int) : (encI x).length = 1 := rfl
theorem hts_succ (l : List Nd) (n : Nat) : hts l (n + 1) = hts l n ++ [tallI l n] := by unfold hts; rw [List.range_succ, List.map_append]; rfl
theorem OwnC.ints {T : TypeId} {W w : World} {a : Option Addr} {n c : Nat} {l : List Int} (h : OwnC T 1 W w (.slice a n c) n (flat encI l)) : l.length = n ∧ (n = 0 ∨ ∃ g, a = some ⟨g, 0, none⟩ ∧ ∀ i x, l[i]? = some x → w.cell? ⟨g, i, none⟩ = some (.int .i64 x)) := by
  have hl : l.length = n := by
    have := h.1.1
    rw [flat_length encI_length] at this
    omega
  refine ⟨hl, ?_⟩
  rcases h.1.2 with ⟨-, h0⟩ | ⟨g, cap, cur, e, -, hg, -, -, -, ht⟩
  · exact .inl h0
  · right
    simp only [Value.slice.injEq] at e
    refine ⟨g, e.1, fun i x hx => ?_⟩
    have hi : i < l.length := (List.getElem?_eq_some_iff.1 hx).1
    have hf := flat_get encI_length l i x hx 0 (by omega)
    rw [Nat.mul_one, Nat.add_zero] at hf
    have hlt : i < n * 1 := by omega
    rw [← ht, List.getElem?_take, if_pos hlt] at hf
    simp only [World.cell?, hg]
    have hf' : cur.toList[i]? = some (.int .i64 x) := hf
    rw [← hf']
    simp
set_option maxHeartbeats 16000000 in
theorem ref_theights {w : World} {i l o : Value} {a : Option Addr} {n c : Nat} {ms : List Mn} (h : IsN w a n ms) (hn : n ≤ 100000) (hB : Behind (ms.map fun m => m.1.nd)) (hV : ∀ m ∈ ms, (∃ x y z, m.2.1 = .slice x y z) ∧ ∃ x y z, m.2.2 = .slice x y z) (il ic tl tc ol oc : Nat) (ia ta oa : Option Addr) (hi : i = .slice ia il ic) (hl : l = .slice ta tl tc) (ho : o = .slice oa ol oc) :
    Calls Tryz.prog 15 #[.agg #[i, l, o, .slice a n c]] w fun e w' => ∃ ha hc, e = .returned (.slice ha n hc) ∧ OwnC 3 1 w w' (.slice ha n hc) n (flat encI (hts (ms.map fun m => m.1.nd) n)) := by
  subst hi hl ho
  have TA := fun k (hk : k < n) v hb => ref_ttall (c := c) h hn hB hV k hk v hb
  generalize (ms.map fun m => m.1.nd) = L at *
  have HN : Hid (n ≤ 100000) := hn
  obtain ⟨B1, bV, hs⟩ := boxes1 w #[.slice ia il ic, .slice ta tl tc, .slice oa ol oc, .slice a n c] 27
  have HB1 : Hid (BoxC (w.alloc (.cells #[.slice ia il ic, .slice ta tl tc, .slice oa ol oc, .slice a n c] 27)) w.heap.size #[.slice ia il ic, .slice ta tl tc, .slice oa ol oc, .slice a n c] 27 ∧ Below w.heap.size w (w.alloc (.cells #[.slice ia il ic, .slice ta tl tc, .slice oa ol oc, .slice a n c] 27))) := ⟨B1, bV⟩
  clear h hn hB hV B1 bV hs
  go_enter Tryz.func15, Tryz.ntmps15
  go_wp2
  go_loopg [3, 4] n (fun g s3 s4 v => ∃ (t : Nat) (ha : Option Addr) (hc : Nat), s3 = .slice ha t hc ∧ s4 = .int .i64 t ∧ t + g = n ∧ OwnC 3 1 w v (.slice ha t hc) t (flat encI (hts L t)) ∧ BoxC v w.heap.size #[.slice ia il ic, .slice ta tl tc, .slice oa ol oc, .slice a n c] 27)
  case atStart => exact ⟨0, none, 0, rfl, rfl, by omega, OwnC.nil HB1.out.2, HB1.out.1⟩
  case round =>
    obtain ⟨t, ha, hc, rfl, rfl, hg, O, B⟩ := hrel
    have hN := HN.out
    have z3 := (B.cell 3).1
    rcases Nat.lt_or_ge t n with ht | ht
    · have k1 : (t : Int) < n := by omega
      have w1 : wrap64 ((t : Int) + 1) = (t : Int) + 1 := wrap_smalls (by omega) (by omega)
      have T1 := TA t ht wr O.below
      have HR : Hid (OwnC 3 1 w wr (.slice ha t hc) t (flat encI (hts L t)) ∧ BoxC wr w.heap.size #[.slice ia il ic, .slice ta tl tc, .slice oa ol oc, .slice a n c] 27 ∧ t + gk = n ∧ t < n ∧ (Value.slice ha t hc).ownBlock ≠ some w.heap.size) := ⟨O, B, hg, ht, O.apart B (by decide)⟩
      have m1 : t + 1 ≤ maxLen := by unfold maxLen; omega
      have m2 : (t + 1) * 8 ≤ 140737488355328 := by omega
      have hs := hts_succ L t
      generalize tallI L t = X at *
      clear O B hg ht TA hN HB1
      go_wp2_with (first
        | (go_at_call 41; (with_reducible refine Calls.mono T1 ?_); rintro e w2 ⟨rfl, d2⟩; have O2 := fun ob => (HR.out.1.more d2).alloc ob)
        | (at_builtin; refine wpl_append_c (t := 37) (e := 3) Tryz.underlying37 infoInt rfl (by decide) (.tmp 12) (.tmp 17) rfl rfl w _ _ t (flat encI (hts L t)) (some ⟨w2.heap.size, 0, none⟩) 1 1 (encI X) rfl rfl (O2 _) (BoxC.new w2 #[.int .i64 X] 3).isc (by simp [encI, Value.oneCell']) (fun e => absurd e (by simp)) m1 m2 ?_; intro a6 c6 w6 _ o6 g6; have B6 := ((HR.out.2.1.more d2).alloc (.cells #[.int .i64 X] 3)).grownC g6 HR.out.2.2.2.2; have z3' := (B6.cell 3).1))
      obtain ⟨j1, j2, j3, j4, j5⟩ := HR.out
      go_roundg (n - (t + 1))
      case measure => omega
      case rel => exact ⟨t + 1, a6, c6, rfl, by first | rfl | (rw [w1]; rfl), by omega, by rw [hs, flat_append, flat_one]; exact o6, B6⟩
    · have k1 : ¬ (t : Int) < n := by omega
      obtain rfl : t = n := by omega
      clear hg ht TA hN HB1 B
      go_wp2
      go_ret
      exact ⟨ha, hc, rfl, O⟩
end Go.Proofs.YtbcfplaalepnbaaGreatDoor
namespace Go.Proofs.YtbcfplaalepnbaaGreatDoor
open Go.RowKit Go.Lib
set_option maxHeartbeats 16000000 in
theorem ref_tlong {w : World} {a : Option Addr} {n c : Nat} {ms : List Mn} (h : IsN w a n ms) (hn : n ≤ 100000) (hB : Behind (ms.map fun m => m.1.nd)) (hV : ∀ m ∈ ms, (∃ x y z, m.2.1 = .slice x y z) ∧ ∃ x y z, m.2.2 = .slice x y z) (il ic tl tc ol oc : Nat) (ia ta oa : Option Addr) (r : Bool) (hr : lngB (ms.map fun m => m.1.nd) il tl ol = r) :
    Calls Tryz.prog 33 #[.agg #[.slice ia il ic, .slice ta tl tc, .slice oa ol oc, .slice a n c]] w fun e w' => e = .returned (.bool r) ∧ Below w.heap.size w w' := by
  obtain ⟨B1, bV, hs⟩ := boxes1 w #[.slice ia il ic, .slice ta tl tc, .slice oa ol oc, .slice a n c] 27
  have HT := ref_theights (c := c) (h.below bV) hn hB hV il ic tl tc ol oc ia ta oa rfl rfl rfl
  have z0 := (B1.cell 0).1
  have z1 := (B1.cell 1).1
  have z2 := (B1.cell 2).1
  have z3 := (B1.cell 3).1
  have hlen : (ms.map fun m => m.1.nd).length = n := by rw [List.length_map]; exact h.1
  unfold lngB at hr
  rw [hlen] at hr
  generalize (ms.map fun m => m.1.nd) = L at *
  clear h hB hV B1 hs hlen
  by_cases h1 : 400 < n
  · have k1 : 400 < (n : Int) := by omega
    obtain rfl : r = true := by rw [← hr, decide_eq_true h1]; simp
    clear hr hn h1 HT
    go_enter Tryz.func33, Tryz.ntmps33
    go_wp2
    go_ret
    exact ⟨rfl, bV⟩
  have k1 : ¬ 400 < (n : Int) := by omega
  rw [decide_eq_false h1, Bool.false_or] at hr
  by_cases h2 : 40 < il
  · have k2 : 40 < (il : Int) := by omega
    obtain rfl : r = true := by rw [← hr, decide_eq_true h2]; simp
    clear hr hn h1 h2 HT
    go_enter Tryz.func33, Tryz.ntmps33
    go_wp2
    go_ret
    exact ⟨rfl, bV⟩
  have k2 : ¬ 40 < (il : Int) := by omega
  rw [decide_eq_false h2, Bool.false_or] at hr
  by_cases h3 : 40 < tl
  · have k3 : 40 < (tl : Int) := by omega
    obtain rfl : r = true := by rw [← hr, decide_eq_true h3]; simp
    clear hr hn h1 h2 h3 HT
    go_enter Tryz.func33, Tryz.ntmps33
    go_wp2
    go_ret
    exact ⟨rfl, bV⟩
  have k3 : ¬ 40 < (tl : Int) := by omega
  rw [decide_eq_false h3, Bool.false_or] at hr
  by_cases h4 : 40 < ol
  · have k4 : 40 < (ol : Int) := by omega
    obtain rfl : r = true := by rw [← hr, decide_eq_true h4]; simp
    clear hr hn h1 h2 h3 h4 HT
    go_enter Tryz.func33, Tryz.ntmps33
    go_wp2
    go_ret
    exact ⟨rfl, bV⟩
  have k4 : ¬ 40 < (ol : Int) := by omega
  rw [decide_eq_false h4, Bool.false_or] at hr
  have HR : Hid (((List.range n).any fun k => decide (60 < tallI L k)) = r ∧ n ≤ 100000) := ⟨hr, hn⟩
  clear hr hn h1 h2 h3 h4
  go_enter Tryz.func33, Tryz.ntmps33
  go_wp2_with (go_at_call 15; (with_reducible refine Calls.mono HT ?_); rintro e w2 ⟨ha, hc, rfl, O⟩)
  obtain ⟨-, hI⟩ := O.ints
  have b2 := below_more bV O.below
  clear HT z0 z1 z2 z3
  go_loopg [4] n (fun g s4 v => ∃ t : Nat, s4 = .int .i64 t ∧ t + g = n ∧ (∀ j, j < t → ¬ 60 < tallI L j) ∧ w2 = v)
  case atStart => exact ⟨0, rfl, by omega, fun j hj => absurd hj (by omega), rfl⟩
  case round =>
    obtain ⟨t, rfl, hg, hN, rfl⟩ := hrel
    have hn := HR.out.2
    rcases Nat.lt_or_ge t n with ht | ht
    · have p1 : (t : Int) < n := by omega
      obtain ⟨gb, rfl, hc2⟩ := hI.resolve_left (by omega)
      have cX := hc2 t _ (hts_get L ht)
      have hX : tallI L t = tallI L t := rfl
      by_cases h6 : 60 < tallI L t
      · have hr : r = true := by
          rw [← HR.out.1, List.any_eq_true]
          exact ⟨t, List.mem_range.2 ht, by rw [decide_eq_true_eq]; exact h6⟩
        subst hr
        generalize tallI L t = X at *
        clear hg hN hn HR hI hc2 O hX
        go_wp2
        go_ret
        exact ⟨rfl, b2⟩
      · have w1 : wrap64 ((t : Int) + 1) = (t : Int) + 1 := wrap_smalls (by omega) (by omega)
        have HN : Hid ((∀ j, j < t + 1 → ¬ 60 < tallI L j) ∧ t + gk = n ∧ t < n) := ⟨fun j hj => by
          rcases Nat.lt_or_ge j t with q | q
          · exact hN j q
          · obtain rfl : j = t := by omega
            exact h6, hg, ht⟩
        generalize tallI L t = X at *
        clear hg hN hn hI hc2 O hX
        go_wp2
        obtain ⟨j1, j2, j3⟩ := HN.out
        go_roundg (n - (t + 1))
        case measure => omega
        case rel => exact ⟨t + 1, by first | rfl | (rw [w1]; rfl), by omega, j1, rfl⟩
    · have p1 : ¬ (t : Int) < n := by omega
      obtain rfl : t = n := by omega
      have hr : r = false := by
        rw [← HR.out.1, List.any_eq_false]
        intro k hk
        rw [decide_eq_true_eq]
        exact hN k (List.mem_range.1 hk)
      subst hr
      clear hg hN hn HR hI O
      go_wp2
      go_ret
      exact ⟨rfl, b2⟩
end Go.Proofs.YtbcfplaalepnbaaGreatDoor
namespace Go.Proofs.YtbcfplaalepnbaaGreatDoor
open Go.ChangeShapes Go.WideShapes Go.ChangeAt Go.RowKit Go.Joins
theorem open_row {H : Type} {enc : TypeId × Value → H} {W : World} {fuel : Nat} {v : Value} {y : DataW H × List MemPlace} (h : DataW.trod enc Tryz.prog W 0 (fun _ => true) true fuel 40 [v] = some y) :
    ∃ a len cap zs, v = .slice a len cap ∧ CameIn .u32 W a len cap zs := by
  rcases open_ints Tryz.underlying40 Tryz.underlying84 (by kernel_rfl) h with ⟨hcs, _⟩ | ⟨x, l, c, zs, hcs, _, hl, hm, hz, _, hcell, hwz⟩
  · exact ⟨none, 0, 0, [], by simpa using hcs, .inl ⟨rfl, rfl, rfl, rfl⟩⟩
  · exact ⟨some x, l, c, zs, by simpa using hcs, .inr ⟨x, rfl, hl, hm, by simpa using hz, hcell, hwz⟩⟩
end Go.Proofs.YtbcfplaalepnbaaGreatDoor
namespace Go.Proofs.YtbcfplaalepnbaaGreatDoor
open Go.RowKit Go.Lib
theorem wrap_near {x : Int} (h0 : -10000000 < x) (h1 : x < 10000000) : wrap64 x = x := by unfold wrap64; omega
theorem begin_range (l : List Nd) (s : Int) : ∀ (f : Nat) (i : Int), s - 1 ≤ beginF l s f i ∧ (beginF l s f i ≤ i ∨ beginF l s f i = s - 1) := by
  intro f
  induction f with
  | zero => intro i; exact ⟨Int.le_refl _, .inr rfl⟩
  | succ f ih =>
    intro i
    unfold beginF
    split
    · exact ⟨Int.le_refl _, .inr rfl⟩
    · rename_i his
      split
      · exact ⟨Int.le_refl _, .inr rfl⟩
      · rename_i n hn
        split
        · exact ⟨by omega, .inl (Int.le_refl _)⟩
        · split
          · split
            · exact ⟨Int.le_refl _, .inr rfl⟩
            · rename_i ha
              have := ih n.a
              omega
          · split
            · exact ⟨Int.le_refl _, .inr rfl⟩
            · rename_i hb
              split
              · exact ⟨Int.le_refl _, .inr rfl⟩
              · rename_i hc
                have h1 := ih n.b
                have h2 := ih n.a
                omega
set_option maxHeartbeats 16000000 in
theorem ref_tbegin {w : World} {a : Option Addr} {n c : Nat} {ms : List Mn} (h : IsN w a n ms) (hn : n ≤ 100000) (hV : ∀ m ∈ ms, (∃ x y z, m.2.1 = .slice x y z) ∧ ∃ x y z, m.2.2 = .slice x y z) (s : Nat) (hs : s ≤ 100000) :
    ∀ (f : Nat) (i : Int), i < n → i + 1 ≤ f → -1 ≤ i → ∀ v, Below w.heap.size w v → Calls Tryz.prog 40 #[.slice a n c, .int .i64 s, .int .i64 i] v fun e w' => e = .returned (.int .i64 (beginF (ms.map fun m => m.1.nd) s f i)) ∧ Below v.heap.size v w' := by
  have WS : Hid (wrap64 ((s : Int) - 1) = (s : Int) - 1) := wrap_near (by omega) (by omega)
  intro f
  induction f with
  | zero =>
    intro i hin hf hi v hb
    have k1 : i < (s : Int) := by omega
    clear h hn hV hs hin hf hi hb
    have wS := WS.out
    go_enter Tryz.func40, Tryz.ntmps40
    go_wp2
    go_ret
    exact ⟨by unfold beginF; first | rfl | (rw [wS]; rfl), Below.refl _ _⟩
  | succ f ih =>
    intro i hin hf hi v hb
    unfold beginF
    by_cases his : i < (s : Int)
    · rw [if_pos his]
      clear h hn hV hs hin hf hi hb ih
      have wS := WS.out
      go_enter Tryz.func40, Tryz.ntmps40
      go_wp2
      go_ret
      exact ⟨by first | rfl | (rw [wS]; rfl), Below.refl _ _⟩
    rw [if_neg his]
    obtain ⟨I, rfl⟩ : ∃ I : Nat, i = (I : Int) := ⟨i.toNat, by omega⟩
    have hl := h.1
    obtain ⟨m, hm⟩ : ∃ m, ms[I]? = some m := ⟨_, List.getElem?_eq_getElem (by omega)⟩
    have hmd : (ms.map fun m => m.1.nd)[I]? = some m.1.nd := by rw [List.getElem?_map, hm]; rfl
    rw [Int.toNat_natCast, hmd]
    show Calls _ _ _ _ fun e w' => e = .returned (.int .i64 (if m.1.kind = 0 ∨ m.1.kind = 1 then (I : Int) else if m.1.kind = 6 ∨ m.1.kind = 7 then (if m.1.a ≠ (I : Int) - 1 then (s : Int) - 1 else beginF (ms.map fun m => m.1.nd) s f m.1.a) else if m.1.b ≠ (I : Int) - 1 then (s : Int) - 1 else if beginF (ms.map fun m => m.1.nd) s f m.1.b < s ∨ m.1.a ≠ beginF (ms.map fun m => m.1.nd) s f m.1.b - 1 then (s : Int) - 1 else beginF (ms.map fun m => m.1.nd) s f m.1.a)) ∧ Below v.heap.size v w'
    obtain ⟨⟨ua, un, uc, hu⟩, ⟨va, vn, vc, hv⟩⟩ := hV m (List.mem_of_getElem? hm)
    obtain ⟨g, o, rfl, c0, c1, c2, c3, c4, c5, c6, c7⟩ := (h.below hb).node hm
    rw [hu] at c6
    rw [hv] at c7
    have br := begin_range (ms.map fun m => m.1.nd) s f
    generalize m.1.kind = k at *
    generalize m.1.a = A at *
    generalize m.1.b = C at *
    generalize m.1.exp = X at *
    generalize m.1.name = Y at *
    generalize m.1.neg = G at *
    have k1 : (I : Int) < n := by omega
    have NB := BoxC.new v #[.int .i64 k, .int .i64 A, .int .i64 C, .int .i64 X, .string Y, .bool G, .slice ua un uc, .slice va vn vc] 44
    have b0V : Below v.heap.size v (v.alloc (.cells #[.int .i64 k, .int .i64 A, .int .i64 C, .int .i64 X, .string Y, .bool G, .slice ua un uc, .slice va vn vc] 44)) := (Below.refl _ v).alloc (Nat.le_refl _) _
    have bV := below_more hb b0V
    have z0 := (NB.cell 0).1
    have z1 := (NB.cell 1).1
    have z2 := (NB.cell 2).1
    have WI : Hid (wrap64 ((I : Int) - 1) = (I : Int) - 1) := wrap_near (by omega) (by omega)
    have hIf : I ≤ f := by omega
    by_cases k0 : k = 0
    · subst k0
      rw [if_pos (.inl rfl)]
      clear ih h hV hm hmd hu hv hl br hs hn hin hf hi
      go_enter Tryz.func40, Tryz.ntmps40
      go_wp2
      go_ret
      exact ⟨rfl, b0V⟩
    by_cases k01 : k = 1
    · subst k01
      rw [if_pos (.inr rfl)]
      clear ih h hV hm hmd hu hv hl br hs hn hin hf hi
      go_enter Tryz.func40, Tryz.ntmps40
      go_wp2
      go_ret
      exact ⟨rfl, b0V⟩
    rw [if_neg (by omega)]
    have g0 : (k == 0) = false := by rw [beq_eq_false_iff_ne]; exact k0
    have g1 : (k == 1) = false := by rw [beq_eq_false_iff_ne]; exact k01
    by_cases k67 : k = 6 ∨ k = 7
    · rw [if_pos k67]
      by_cases hA : A ≠ (I : Int) - 1
      · rw [if_pos hA]
        have e1 : (A == (I : Int) - 1) = false := by rw [beq_eq_false_iff_ne]; exact hA
        clear ih h hV hm hmd hu hv hl br hs hn hin hf hi
        rcases k67 with rfl | rfl
        all_goals
          have wS := WS.out
          have wI := WI.out
          go_enter Tryz.func40, Tryz.ntmps40
          go_wp2
          go_ret
          exact ⟨by first | rfl | (rw [wS]; rfl), b0V⟩
      · rw [if_neg hA]
        obtain rfl : A = (I : Int) - 1 := Decidable.not_not.1 hA
        have CA := ih ((I : Int) - 1) (by omega) (by omega) (by omega)
        clear ih h hV hm hmd hu hv hl br hs hn hin hf hi hA
        rcases k67 with rfl | rfl
        all_goals
          have wI := WI.out
          go_enter Tryz.func40, Tryz.ntmps40
          go_wp2_with (go_at_call 40; (with_reducible refine Calls.mono (CA _ bV) ?_); rintro e w1 ⟨rfl, d1⟩)
          go_ret
          exact ⟨rfl, below_more b0V d1⟩
    rw [if_neg k67]
    have g6 : (k == 6) = false := by rw [beq_eq_false_iff_ne]; omega
    have g7 : (k == 7) = false := by rw [beq_eq_false_iff_ne]; omega
    by_cases hC : C ≠ (I : Int) - 1
    · rw [if_pos hC]
      have e1 : (C == (I : Int) - 1) = false := by rw [beq_eq_false_iff_ne]; exact hC
      clear ih h hV hm hmd hu hv hl br hs hn hin hf hi k0 k01 k67
      have wS := WS.out
      have wI := WI.out
      go_enter Tryz.func40, Tryz.ntmps40
      go_wp2
      go_ret
      exact ⟨by first | rfl | (rw [wS]; rfl), b0V⟩
    rw [if_neg hC]
    obtain rfl : C = (I : Int) - 1 := Decidable.not_not.1 hC
    have CB := ih ((I : Int) - 1) (by omega) (by omega) (by omega)
    have hBr := br ((I : Int) - 1)
    have CA := fun (D : Int) (h1 : (s : Int) ≤ D) (h2 : D ≤ (I : Int) - 1) => ih (D - 1) (by omega) (by omega) (by omega)
    generalize beginF (ms.map fun m => m.1.nd) s f ((I : Int) - 1) = D at *
    by_cases hD : D < (s : Int)
    · rw [if_pos (.inl hD)]
      clear ih h hV hm hmd hu hv hl br hs hn hin hf hi k0 k01 k67 CA hBr hC
      have wS := WS.out
      have wI := WI.out
      go_enter Tryz.func40, Tryz.ntmps40
      go_wp2_with (go_at_call 40; (with_reducible refine Calls.mono (CB _ bV) ?_); rintro e w1 ⟨rfl, d1⟩)
      go_ret
      exact ⟨by first | rfl | (rw [wS]; rfl), below_more b0V d1⟩
    have WD : Hid (wrap64 (D - 1) = D - 1) := wrap_near (by omega) (by omega)
    by_cases hA : A ≠ D - 1
    · rw [if_pos (.inr hA)]
      have e1 : (A == D - 1) = false := by rw [beq_eq_false_iff_ne]; exact hA
      have e2 : (A != D - 1) = true := by rw [bne, e1]; rfl
      clear ih h hV hm hmd hu hv hl br hs hn hin hf hi k0 k01 k67 CA hBr hC
      have wS := WS.out
      have wI := WI.out
      have wD := WD.out
      go_enter Tryz.func40, Tryz.ntmps40
      go_wp2_with (go_at_call 40; (with_reducible refine Calls.mono (CB _ bV) ?_); rintro e w1 ⟨rfl, d1⟩; have y1 := ((NB.more d1).cell 1).1)
      go_ret
      exact ⟨by first | rfl | (rw [wS]; rfl), below_more b0V d1⟩
    · rw [if_neg (by omega)]
      obtain rfl : A = D - 1 := Decidable.not_not.1 hA
      have CA := CA D (by omega) (by omega)
      clear ih h hV hm hmd hu hv hl br hs hn hin hf hi k0 k01 k67 hBr hC hA
      have wI := WI.out
      have wD := WD.out
      go_enter Tryz.func40, Tryz.ntmps40
      go_wp2_with (first
        | (go_at_call 40; (with_reducible refine Calls.mono (CB _ bV) ?_); rintro e w1 ⟨rfl, d1⟩; have y1 := ((NB.more d1).cell 1).1; have b1 := below_more bV d1)
        | (go_at_call 40; (with_reducible refine Calls.mono (CA _ b1) ?_); rintro e w2 ⟨rfl, d2⟩))
      go_ret
      exact ⟨rfl, below_more b0V (below_more d1 d2)⟩
end Go.Proofs.YtbcfplaalepnbaaGreatDoor
