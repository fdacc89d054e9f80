/-
  Texts of mine put together in build order, as far as TreeParses need them: RowC, Keep, SignMath, SignPlace, LexMath, TokW, SignRef, SignRefB, SignKind, SignRefC, SignRefD, LexRef, LexRefB, LexRefC, LexRefD, TreeMem, TreeRefA, TreeRefB, TreeRefC, TreeRefD, NatRefC, SplitMore, WholeRef, DeciRef. No conditions of their own.
-/
import Derived.WalkKit
import Derived.ProofKit
import Derived.Lib.AppendZerosOnto
import Derived.Laws.AppendOwn
import Derived.Laws.AppendOwnNone
import Derived.Lib.DecodeN
import Derived.Test.YtbcfplaalepnbaaGreatDoorRows
import Derived.WalkLawsBesides
import Derived.Deep.QuietTactic
import Derived.BigQuiet
import Derived.Outline
import Derived.Lib.BitFns
import Derived.OpenShut
import Derived.Laws.CopyOwn
import Derived.Deep.LoopGhost
import Derived.Deep.RegionLaw
import Derived.Deep.DrawnRows
import Derived.Deep.RegionWith
import Derived.Laws.IdiomStrings
import Derived.Test.YtbcfplaalepnbaaGreatDoorPack1
import Derived.Test.YtbcfplaalepnbaaGreatDoorPack2
import Derived.Test.YtbcfplaalepnbaaGreatDoorPack3
namespace Go.Proofs.YtbcfplaalepnbaaGreatDoor
open Go.RowKit
theorem BoxC.grownC {w w' : World} {g : Nat} {cs : Array Value} {T : TypeId} {row : Option Nat} (h : BoxC w g cs T) (hg : w.grownBy w' row) (hne : row ≠ some g) : BoxC w' g cs T := by
  have := hg.block g h.lt (Ne.symm hne)
  unfold BoxC at h ⊢
  rw [this]; exact h
end Go.Proofs.YtbcfplaalepnbaaGreatDoor
namespace Go.Proofs.YtbcfplaalepnbaaGreatDoor
open Go.RowKit
theorem Keep.drew {X : TypeId → Prop} {v w : World} (h : Keep X v w) : Keep X v w.drew := h.trans (Keep.of X (Below.refl _ _).drew)
end Go.Proofs.YtbcfplaalepnbaaGreatDoor
namespace Go.Proofs.YtbcfplaalepnbaaGreatDoor
open Go.Lib
set_option maxRecDepth 100000 in
set_option maxHeartbeats 4000000 in
theorem decodeN_two {n b0 b1 b2 b3 : Nat} (h : 194 ≤ b0 ∧ b0 ≤ 223) (h1 : 1 < n ∧ 128 ≤ b1 ∧ b1 ≤ 191) : decodeN n b0 b1 b2 b3 = ((b0 - 192) * 64 + b1 % 64, 2) := by
  unfold decodeN; repeat' split
  all_goals first | (exfalso; omega) | (apply Prod.ext <;> simp only <;> omega)
set_option maxRecDepth 100000 in
set_option maxHeartbeats 4000000 in
theorem decodeN_three {n b0 b1 b2 b3 : Nat} (h : 224 ≤ b0 ∧ b0 ≤ 239) (h1 : 1 < n ∧ (if b0 = 224 then 160 else 128) ≤ b1 ∧ b1 ≤ (if b0 = 237 then 159 else 191)) (h2 : 2 < n ∧ 128 ≤ b2 ∧ b2 ≤ 191) :
    decodeN n b0 b1 b2 b3 = ((b0 - 224) * 4096 + b1 % 64 * 64 + b2 % 64, 3) := by
  unfold decodeN; repeat' split
  all_goals first | (exfalso; split at h1 <;> split at h1 <;> omega) | (apply Prod.ext <;> simp only <;> split at h1 <;> split at h1 <;> omega)
set_option maxRecDepth 100000 in
set_option maxHeartbeats 4000000 in
theorem decodeN_four {n b0 b1 b2 b3 : Nat} (h : 240 ≤ b0 ∧ b0 ≤ 244) (h1 : 1 < n ∧ (if b0 = 240 then 144 else 128) ≤ b1 ∧ b1 ≤ (if b0 = 244 then 143 else 191)) (h2 : 2 < n ∧ 128 ≤ b2 ∧ b2 ≤ 191) (h3 : 3 < n ∧ 128 ≤ b3 ∧ b3 ≤ 191) :
    decodeN n b0 b1 b2 b3 = ((b0 - 240) * 262144 + b1 % 64 * 4096 + b2 % 64 * 64 + b3 % 64, 4) := by
  unfold decodeN; repeat' split
  all_goals first | (exfalso; split at h1 <;> split at h1 <;> omega) | (apply Prod.ext <;> simp only <;> split at h1 <;> split at h1 <;> omega)
set_option maxRecDepth 100000 in
set_option maxHeartbeats 4000000 in
theorem decodeN_none {n b0 b1 b2 b3 : Nat} (hb : b0 < 256) (h0 : ¬ b0 < 128) (h2 : ¬ ((194 ≤ b0 ∧ b0 ≤ 223) ∧ (1 < n ∧ 128 ≤ b1 ∧ b1 ≤ 191)))
    (h3 : ¬ ((224 ≤ b0 ∧ b0 ≤ 239) ∧ (1 < n ∧ (if b0 = 224 then 160 else 128) ≤ b1 ∧ b1 ≤ (if b0 = 237 then 159 else 191)) ∧ (2 < n ∧ 128 ≤ b2 ∧ b2 ≤ 191)))
    (h4 : ¬ ((240 ≤ b0 ∧ b0 ≤ 244) ∧ (1 < n ∧ (if b0 = 240 then 144 else 128) ≤ b1 ∧ b1 ≤ (if b0 = 244 then 143 else 191)) ∧ (2 < n ∧ 128 ≤ b2 ∧ b2 ≤ 191) ∧ (3 < n ∧ 128 ≤ b3 ∧ b3 ≤ 191))) :
    decodeN n b0 b1 b2 b3 = (65533, 1) := by
  have e3 : ¬ (b0 = 224) ∨ b0 = 224 := by omega
  unfold decodeN
  split
  · omega
  split
  · split
    · exfalso; omega
    · rfl
  split
  · split
    · exfalso
      apply h3
      refine ⟨by omega, ⟨by omega, ?_, ?_⟩, by omega⟩
      · split <;> omega
      · split <;> omega
    · rfl
  split
  · split
    · exfalso
      apply h4
      refine ⟨by omega, ⟨by omega, ?_, ?_⟩, by omega, by omega⟩
      · split <;> omega
      · split <;> omega
    · rfl
  · rfl
end Go.Proofs.YtbcfplaalepnbaaGreatDoor
namespace Go.Proofs.YtbcfplaalepnbaaGreatDoor
open Go.Lib
theorem bt_lt (s : ByteArray) (i : Nat) : bt s i < 256 := UInt8.toNat_lt _
end Go.Proofs.YtbcfplaalepnbaaGreatDoor
namespace Go.Proofs.YtbcfplaalepnbaaGreatDoor
open Go.Lib
theorem cutF_more (s : ByteArray) : ∀ f i, s.size < i + f → ∀ g, s.size < i + g → cutF s f i = cutF s g i := by
  intro f
  induction f with
  | zero =>
    intro i hf g hg
    cases g with
    | zero => rfl
    | succ g => unfold cutF; rw [if_neg (by omega)]
  | succ f ih =>
    intro i hf g hg
    cases g with
    | zero => unfold cutF; rw [if_neg (by omega)]
    | succ g => unfold cutF; rw [ih _ (by omega) g (by omega)]
end Go.Proofs.YtbcfplaalepnbaaGreatDoor
namespace Go.Proofs.YtbcfplaalepnbaaGreatDoor
open Go.RowKit
theorem OwnT.outer {W V w : World} {v : Value} {n : Nat} {l : List Tok} (h : OwnT V w v n l) (hb : Below W.heap.size W V) : OwnT W w v n l := by
  refine ⟨⟨h.1.1, ?_⟩, below_more hb h.2⟩
  rcases h.1.2 with h0 | ⟨g, cap, cur, e, h1, h2⟩
  · exact .inl h0
  · exact .inr ⟨g, cap, cur, e, Nat.le_trans hb.size h1, h2⟩
theorem OwnT.other {W w : World} {v : Value} {n : Nat} {l : List Tok} (h : OwnT W w v n l) {k : Nat} (hk : W.heap.size ≤ k) (hne : v.ownBlock ≠ some k) (i : Nat) (x : Value) : OwnT W (w.setCell ⟨k, i, none⟩ x) v n l := by
  refine ⟨⟨h.1.1, ?_⟩, h.2.setCell (p := ⟨k, i, none⟩) hk _⟩
  rcases h.1.2 with h0 | ⟨g, cap, cur, e, h3, hg, h4⟩
  · exact .inl h0
  · refine .inr ⟨g, cap, cur, e, h3, ?_, h4⟩
    subst e
    have hgk : g ≠ k := fun e1 => hne (by rw [← e1]; rfl)
    rw [Below.heap_setCell w ⟨k, i, none⟩ x g (by simpa using hgk)]; exact hg
set_option maxHeartbeats 1000000 in
/-- append(v, t), v the call's own, t in a new block. -/
theorem wpl_append_tok {ops : Array Oper} {rest : List Oper} {o : Oper} {a : Act} {Q : Exit → Act → World → Prop} (s x : Operand)
    (ho : o.op = .call { callee := .builtin .append, args := #[s, x], argTypes := #[53, 53] }) (hgd : Region.wanted o (yielded ops a.tmps) = true)
    (W w : World) (v : Value) (n : Nat) (l : List Tok) (t : Tok) (g : Nat) (hs : a.eval s = v) (hx : a.eval x = .slice (some ⟨g, 0, none⟩) 1 1) (hown : OwnT W w v n l) (hsrc : BoxC w g (tcA t) 66) (hle : n ≤ 1000000)
    (h : ∀ a' c' w', OwnT W w' (.slice a' (n + 1) c') (n + 1) (l ++ [t]) → w.grownBy w' v.ownBlock → wpList Tryz.prog ops Q rest (a.put o.dst (.slice a' (n + 1) c')) w') : wpList Tryz.prog ops Q (o :: rest) a w := by
  obtain ⟨i, hi, hz, hs1, hby⟩ := info_parts infoTok
  have hmax : n + 1 ≤ maxLen := by unfold maxLen; omega
  refine wpList_step fun K hK => ?_
  rw [if_pos hgd]
  refine wp_append_own (P := Tryz.prog) w s x 53 ho W.heap.size 66 i _ 4 40 Tryz.underlying53 hi hz hs1 hby rfl (by decide) v n _ hs hown.1 ⟨g, 0, none⟩ 1 1 (tcA t).toList hx rfl ?_ ?_ hmax (by omega) hown.2.size ?_
  · intro j u hj
    rw [Go.WideShapes.add_plain, Nat.zero_add, (hsrc.cell j).1]
    simpa using hj
  · intro u hu
    simp [tcA] at hu
    rcases hu with rfl | rfl | rfl | rfl <;> rfl
  · intro v' w' h1 h2 _
    have hnew : OwnT W w' v' (n + 1) (l ++ [t]) := ⟨by rw [tcs_append]; simpa [tcs] using h1, hown.2.grown h2 hown.2.size (fun k hk => (hown.1.lt k hk).1)⟩
    obtain ⟨a', c', rfl⟩ := hnew.lit
    exact hK _ _ (h a' c' w' hnew h2)
end Go.Proofs.YtbcfplaalepnbaaGreatDoor
namespace Go.Proofs.YtbcfplaalepnbaaGreatDoor
open Go.RowKit Go.Lib
theorem wrap_byte (b : UInt8) : wrap64 (b.toNat : Int) = b.toNat := by
  have := b.toNat_lt
  unfold wrap64; omega
set_option maxHeartbeats 2000000 in
theorem ref_sin {s : ByteArray} (i : Nat) (j : Int) (hj : (i : Int) = j) (lo hi : Int) (r : Bool) (hr : decide (i < s.size ∧ lo ≤ (bt s i : Int) ∧ (bt s i : Int) ≤ hi) = r) (w : World) :
    Calls Tryz.prog 93 #[.string s, .int .i64 j, .int .i64 lo, .int .i64 hi] w fun e w' => e = .returned (.bool r) ∧ w = w' := by
  subst hj
  rcases (by by_cases h : i < s.size <;> by_cases h2 : lo ≤ (bt s i : Int) <;> simp [h, h2] : (i < s.size ∧ lo ≤ (bt s i : Int)) ∨ (i < s.size ∧ ¬ lo ≤ (bt s i : Int)) ∨ ¬ i < s.size) with ⟨h, h2⟩ | ⟨h, h2⟩ | h
  case' inl =>
    rw [bt_get h] at hr h2
    have h1 : (i : Int) < s.size := by omega
    have hd : decide ((s[i].toNat : Int) ≤ hi) = r := by rw [← hr]; simp [h, h2]
  case' inr.inl =>
    rw [bt_get h] at hr h2
    have h1 : (i : Int) < s.size := by omega
    obtain rfl : r = false := by rw [← hr]; simp [h2]
  case' inr.inr =>
    have h1 : ¬ (i : Int) < s.size := by omega
    obtain rfl : r = false := by rw [← hr]; simp [h]
  all_goals
    clear hr
    (try have hw := wrap_byte s[i])
    go_enter Tryz.func93, Tryz.ntmps93
    go_wp2
    go_ret
    exact ⟨rfl, rfl⟩
set_option maxHeartbeats 2000000 in
theorem ref_slow {s : ByteArray} (i : Nat) (h : i < s.size) (j : Int) (hj : (i : Int) = j) (w : World) :
    Calls Tryz.prog 94 #[.string s, .int .i64 j] w fun e w' => e = .returned (.int .i64 ((bt s i % 64 : Nat) : Int)) ∧ w = w' := by
  subst hj
  have h1 : (i : Int) < s.size := by omega
  rw [bt_get h]
  have HM : Hid ((s[i].toNat : Int).tmod 64 = ((s[i].toNat % 64 : Nat) : Int)) := by
    show _ = _
    rw [Int.tmod_eq_emod_of_nonneg (by omega)]; omega
  have hw := wrap_byte s[i]
  go_enter Tryz.func94, Tryz.ntmps94
  go_wp2
  go_ret
  exact ⟨by first | rfl | rw [← HM.out], rfl⟩
def threeI (n b0 b1 b2 : Nat) : Int := if (224 ≤ b0 ∧ b0 ≤ 239) ∧ (1 < n ∧ (if b0 = 224 then 160 else 128) ≤ b1 ∧ b1 ≤ (if b0 = 237 then 159 else 191)) ∧ (2 < n ∧ 128 ≤ b2 ∧ b2 ≤ 191) then (((b0 - 224) * 4096 + b1 % 64 * 64 + b2 % 64 : Nat) : Int) else -1
set_option maxHeartbeats 4000000 in
theorem ref_three {s : ByteArray} (hs : s.size ≤ 1000000) (i : Nat) (h : i < s.size) (z : Int) (hz : threeI (s.size - i) (bt s i) (bt s (i + 1)) (bt s (i + 2)) = z) (w : World) :
    Calls Tryz.prog 95 #[.string s, .int .i64 i] w fun e w' => e = .returned (.int .i64 z) ∧ w = w' := by
  unfold threeI at hz
  have h1 : (i : Int) < s.size := by omega
  have hw := wrap_byte s[i]
  have hb := s[i].toNat_lt
  have w1 : wrap64 ((i : Int) + 1) = (i : Int) + 1 := by unfold wrap64; omega
  have w2 : wrap64 ((i : Int) + 2) = (i : Int) + 2 := by unfold wrap64; omega
  obtain ⟨r2, hr2⟩ : ∃ r, decide (i + 2 < s.size ∧ (128 : Int) ≤ (bt s (i + 2) : Int) ∧ (bt s (i + 2) : Int) ≤ 191) = r := ⟨_, rfl⟩
  have I2 := fun v => ref_sin (i + 2) ((i : Int) + 2) (by omega) 128 191 r2 hr2 v
  rw [bt_get h] at hz
  rcases (by omega : (s[i].toNat : Int) < 224 ∨ 239 < (s[i].toNat : Int) ∨ s[i].toNat = 224 ∨ s[i].toNat = 237 ∨ (224 ≤ s[i].toNat ∧ s[i].toNat ≤ 239 ∧ s[i].toNat ≠ 224 ∧ s[i].toNat ≠ 237)) with h3 | h3 | h3 | h3 | h3
  case' inl =>
    have e1 : ((s[i].toNat : Int) == 224) = false := by rw [beq_eq_false_iff_ne]; omega
    have e2 : ((s[i].toNat : Int) == 237) = false := by rw [beq_eq_false_iff_ne]; omega
    skip
    obtain rfl : z = -1 := by rw [← hz, if_neg (by omega)]
    clear hz hs hb
  case' inr.inl =>
    have e1 : ((s[i].toNat : Int) == 224) = false := by rw [beq_eq_false_iff_ne]; omega
    have e2 : ((s[i].toNat : Int) == 237) = false := by rw [beq_eq_false_iff_ne]; omega
    have h4 : ¬ (s[i].toNat : Int) < 224 := by omega
    obtain rfl : z = -1 := by rw [← hz, if_neg (by omega)]
    clear hz hs hb
  case' inr.inr.inl =>
    have h4 : ¬ (s[i].toNat : Int) < 224 := by omega
    have h5 : ¬ 239 < (s[i].toNat : Int) := by omega
    have e1 : ((s[i].toNat : Int) == 224) = true := by rw [beq_iff_eq]; omega
    have e2 : ((s[i].toNat : Int) == 237) = false := by rw [beq_eq_false_iff_ne]; omega
    obtain ⟨r1, hr1⟩ : ∃ r, decide (i + 1 < s.size ∧ (160 : Int) ≤ (bt s (i + 1) : Int) ∧ (bt s (i + 1) : Int) ≤ 191) = r := ⟨_, rfl⟩
    have I1 := fun v => ref_sin (i + 1) ((i : Int) + 1) (by omega) 160 191 r1 hr1 v
    have HZ : Hid (((r1 = true ∧ r2 = true) → z = ((((s[i].toNat - 224) * 4096 + bt s (i + 1) % 64 * 64 + bt s (i + 2) % 64 : Nat)) : Int)) ∧ (¬ (r1 = true ∧ r2 = true) → z = -1)) := by
      rw [← hr1, ← hr2]
      simp only [decide_eq_true_eq]
      simp only [h3, if_true, if_false, show ((224 : Nat) = 237) = False from eq_false (by decide)] at hz ⊢
      refine ⟨fun q => ?_, fun q => ?_⟩
      · rw [← hz, if_pos (by omega)]
      · rw [← hz, if_neg (by omega)]
    have HL1 : Hid (r1 = true → i + 1 < s.size) := fun e => (of_decide_eq_true (hr1.trans e)).1
    have HL2 : Hid (r2 = true → i + 2 < s.size) := fun e => (of_decide_eq_true (hr2.trans e)).1
    have HB : Hid (224 ≤ s[i].toNat ∧ s[i].toNat < 256) := ⟨by omega, by omega⟩
    clear hz hs hb h3 hr1 hr2
  case' inr.inr.inr.inl =>
    have h4 : ¬ (s[i].toNat : Int) < 224 := by omega
    have h5 : ¬ 239 < (s[i].toNat : Int) := by omega
    have e1 : ((s[i].toNat : Int) == 224) = false := by rw [beq_eq_false_iff_ne]; omega
    have e2 : ((s[i].toNat : Int) == 237) = true := by rw [beq_iff_eq]; omega
    obtain ⟨r1, hr1⟩ : ∃ r, decide (i + 1 < s.size ∧ (128 : Int) ≤ (bt s (i + 1) : Int) ∧ (bt s (i + 1) : Int) ≤ 159) = r := ⟨_, rfl⟩
    have I1 := fun v => ref_sin (i + 1) ((i : Int) + 1) (by omega) 128 159 r1 hr1 v
    have HZ : Hid (((r1 = true ∧ r2 = true) → z = ((((s[i].toNat - 224) * 4096 + bt s (i + 1) % 64 * 64 + bt s (i + 2) % 64 : Nat)) : Int)) ∧ (¬ (r1 = true ∧ r2 = true) → z = -1)) := by
      rw [← hr1, ← hr2]
      simp only [decide_eq_true_eq]
      simp only [h3, if_true, if_false, show ((237 : Nat) = 224) = False from eq_false (by decide)] at hz ⊢
      refine ⟨fun q => ?_, fun q => ?_⟩
      · rw [← hz, if_pos (by omega)]
      · rw [← hz, if_neg (by omega)]
    have HL1 : Hid (r1 = true → i + 1 < s.size) := fun e => (of_decide_eq_true (hr1.trans e)).1
    have HL2 : Hid (r2 = true → i + 2 < s.size) := fun e => (of_decide_eq_true (hr2.trans e)).1
    have HB : Hid (224 ≤ s[i].toNat ∧ s[i].toNat < 256) := ⟨by omega, by omega⟩
    clear hz hs hb h3 hr1 hr2
  case' inr.inr.inr.inr =>
    have h4 : ¬ (s[i].toNat : Int) < 224 := by omega
    have h5 : ¬ 239 < (s[i].toNat : Int) := by omega
    have e1 : ((s[i].toNat : Int) == 224) = false := by rw [beq_eq_false_iff_ne]; omega
    have e2 : ((s[i].toNat : Int) == 237) = false := by rw [beq_eq_false_iff_ne]; omega
    obtain ⟨r1, hr1⟩ : ∃ r, decide (i + 1 < s.size ∧ (128 : Int) ≤ (bt s (i + 1) : Int) ∧ (bt s (i + 1) : Int) ≤ 191) = r := ⟨_, rfl⟩
    have I1 := fun v => ref_sin (i + 1) ((i : Int) + 1) (by omega) 128 191 r1 hr1 v
    have HZ : Hid (((r1 = true ∧ r2 = true) → z = ((((s[i].toNat - 224) * 4096 + bt s (i + 1) % 64 * 64 + bt s (i + 2) % 64 : Nat)) : Int)) ∧ (¬ (r1 = true ∧ r2 = true) → z = -1)) := by
      rw [← hr1, ← hr2]
      simp only [decide_eq_true_eq]
      simp only [h3.2.2.1, h3.2.2.2, if_false] at hz
      refine ⟨fun q => ?_, fun q => ?_⟩
      · rw [← hz, if_pos (by omega)]
      · rw [← hz, if_neg (by omega)]
    have HL1 : Hid (r1 = true → i + 1 < s.size) := fun e => (of_decide_eq_true (hr1.trans e)).1
    have HL2 : Hid (r2 = true → i + 2 < s.size) := fun e => (of_decide_eq_true (hr2.trans e)).1
    have HB : Hid (224 ≤ s[i].toNat ∧ s[i].toNat < 256) := ⟨by omega, by omega⟩
    clear hz hs hb h3 hr1 hr2
  case' inl | inr.inl =>
    go_enter Tryz.func95, Tryz.ntmps95
    go_wp2
    go_ret
    exact ⟨rfl, rfl⟩
  all_goals
    cases r1
    case' false => obtain rfl := HZ.out.2 (by simp)
    case' true => cases r2
    case' true.false => obtain rfl := HZ.out.2 (by simp)
    case' true.true =>
      obtain rfl := HZ.out.1 (by simp)
      have L1 := fun v => ref_slow (i + 1) (HL1.out rfl) ((i : Int) + 1) (by omega) v
      have L2 := fun v => ref_slow (i + 2) (HL2.out rfl) ((i : Int) + 2) (by omega) v
    all_goals
      go_enter Tryz.func95, Tryz.ntmps95
      go_wp2_with (first
        | (go_at_call 93; (with_reducible refine Calls.mono (I1 _) ?_); rintro e v1 ⟨rfl, rfl⟩)
        | (go_at_call 93; (with_reducible refine Calls.mono (I2 _) ?_); rintro e v2 ⟨rfl, rfl⟩)
        | (go_at_call 94; (with_reducible refine Calls.mono (L1 _) ?_); rintro e u1 ⟨rfl, rfl⟩)
        | (go_at_call 94; (with_reducible refine Calls.mono (L2 _) ?_); rintro e u2 ⟨rfl, rfl⟩))
      go_ret
      first
        | exact ⟨rfl, rfl⟩
        | (refine ⟨?_, rfl⟩
           have hB := HB.out
           have l1 : bt s (i + 1) % 64 < 64 := Nat.mod_lt _ (by omega)
           have l2 : bt s (i + 2) % 64 < 64 := Nat.mod_lt _ (by omega)
           show Ending.returned (.int .i64 _) = .returned (.int .i64 _)
           congr 2
           (try unfold wrap64)
           omega)
def fourI (n b0 b1 b2 b3 : Nat) : Int := if (240 ≤ b0 ∧ b0 ≤ 244) ∧ (1 < n ∧ (if b0 = 240 then 144 else 128) ≤ b1 ∧ b1 ≤ (if b0 = 244 then 143 else 191)) ∧ (2 < n ∧ 128 ≤ b2 ∧ b2 ≤ 191) ∧ (3 < n ∧ 128 ≤ b3 ∧ b3 ≤ 191) then (((b0 - 240) * 262144 + b1 % 64 * 4096 + b2 % 64 * 64 + b3 % 64 : Nat) : Int) else -1
set_option maxHeartbeats 4000000 in
theorem ref_four {s : ByteArray} (hs : s.size ≤ 1000000) (i : Nat) (h : i < s.size) (z : Int) (hz : fourI (s.size - i) (bt s i) (bt s (i + 1)) (bt s (i + 2)) (bt s (i + 3)) = z) (w : World) :
    Calls Tryz.prog 96 #[.string s, .int .i64 i] w fun e w' => e = .returned (.int .i64 z) ∧ w = w' := by
  unfold fourI at hz
  have h1 : (i : Int) < s.size := by omega
  have hw := wrap_byte s[i]
  have hb := s[i].toNat_lt
  have w1 : wrap64 ((i : Int) + 1) = (i : Int) + 1 := by unfold wrap64; omega
  have w2 : wrap64 ((i : Int) + 2) = (i : Int) + 2 := by unfold wrap64; omega
  have w3 : wrap64 ((i : Int) + 3) = (i : Int) + 3 := by unfold wrap64; omega
  obtain ⟨r2, hr2⟩ : ∃ r, decide (i + 2 < s.size ∧ (128 : Int) ≤ (bt s (i + 2) : Int) ∧ (bt s (i + 2) : Int) ≤ 191) = r := ⟨_, rfl⟩
  have I2 := fun v => ref_sin (i + 2) ((i : Int) + 2) (by omega) 128 191 r2 hr2 v
  obtain ⟨r3, hr3⟩ : ∃ r, decide (i + 3 < s.size ∧ (128 : Int) ≤ (bt s (i + 3) : Int) ∧ (bt s (i + 3) : Int) ≤ 191) = r := ⟨_, rfl⟩
  have I3 := fun v => ref_sin (i + 3) ((i : Int) + 3) (by omega) 128 191 r3 hr3 v
  rw [bt_get h] at hz
  rcases (by omega : (s[i].toNat : Int) < 240 ∨ 244 < (s[i].toNat : Int) ∨ s[i].toNat = 240 ∨ s[i].toNat = 244 ∨ (240 ≤ s[i].toNat ∧ s[i].toNat ≤ 244 ∧ s[i].toNat ≠ 240 ∧ s[i].toNat ≠ 244)) with h3 | h3 | h3 | h3 | h3
  case' inl =>
    have e1 : ((s[i].toNat : Int) == 240) = false := by rw [beq_eq_false_iff_ne]; omega
    have e2 : ((s[i].toNat : Int) == 244) = false := by rw [beq_eq_false_iff_ne]; omega
    skip
    obtain rfl : z = -1 := by rw [← hz, if_neg (by omega)]
    clear hz hs hb
  case' inr.inl =>
    have e1 : ((s[i].toNat : Int) == 240) = false := by rw [beq_eq_false_iff_ne]; omega
    have e2 : ((s[i].toNat : Int) == 244) = false := by rw [beq_eq_false_iff_ne]; omega
    have h4 : ¬ (s[i].toNat : Int) < 240 := by omega
    obtain rfl : z = -1 := by rw [← hz, if_neg (by omega)]
    clear hz hs hb
  case' inr.inr.inl =>
    have h4 : ¬ (s[i].toNat : Int) < 240 := by omega
    have h5 : ¬ 244 < (s[i].toNat : Int) := by omega
    have e1 : ((s[i].toNat : Int) == 240) = true := by rw [beq_iff_eq]; omega
    have e2 : ((s[i].toNat : Int) == 244) = false := by rw [beq_eq_false_iff_ne]; omega
    obtain ⟨r1, hr1⟩ : ∃ r, decide (i + 1 < s.size ∧ (144 : Int) ≤ (bt s (i + 1) : Int) ∧ (bt s (i + 1) : Int) ≤ 191) = r := ⟨_, rfl⟩
    have I1 := fun v => ref_sin (i + 1) ((i : Int) + 1) (by omega) 144 191 r1 hr1 v
    have HZ : Hid (((r1 = true ∧ r2 = true ∧ r3 = true) → z = ((((s[i].toNat - 240) * 262144 + bt s (i + 1) % 64 * 4096 + bt s (i + 2) % 64 * 64 + bt s (i + 3) % 64 : Nat)) : Int)) ∧ (¬ (r1 = true ∧ r2 = true ∧ r3 = true) → z = -1)) := by
      rw [← hr1, ← hr2, ← hr3]
      simp only [decide_eq_true_eq]
      simp only [h3, if_true, if_false, show ((240 : Nat) = 244) = False from eq_false (by decide)] at hz ⊢
      refine ⟨fun q => ?_, fun q => ?_⟩
      · rw [← hz, if_pos (by omega)]
      · rw [← hz, if_neg (by omega)]
    have HL1 : Hid (r1 = true → i + 1 < s.size) := fun e => (of_decide_eq_true (hr1.trans e)).1
    have HL2 : Hid (r2 = true → i + 2 < s.size) := fun e => (of_decide_eq_true (hr2.trans e)).1
    have HL3 : Hid (r3 = true → i + 3 < s.size) := fun e => (of_decide_eq_true (hr3.trans e)).1
    have HB : Hid (240 ≤ s[i].toNat ∧ s[i].toNat < 256) := ⟨by omega, by omega⟩
    clear hz hs hb h3 hr1 hr2 hr3
  case' inr.inr.inr.inl =>
    have h4 : ¬ (s[i].toNat : Int) < 240 := by omega
    have h5 : ¬ 244 < (s[i].toNat : Int) := by omega
    have e1 : ((s[i].toNat : Int) == 240) = false := by rw [beq_eq_false_iff_ne]; omega
    have e2 : ((s[i].toNat : Int) == 244) = true := by rw [beq_iff_eq]; omega
    obtain ⟨r1, hr1⟩ : ∃ r, decide (i + 1 < s.size ∧ (128 : Int) ≤ (bt s (i + 1) : Int) ∧ (bt s (i + 1) : Int) ≤ 143) = r := ⟨_, rfl⟩
    have I1 := fun v => ref_sin (i + 1) ((i : Int) + 1) (by omega) 128 143 r1 hr1 v
    have HZ : Hid (((r1 = true ∧ r2 = true ∧ r3 = true) → z = ((((s[i].toNat - 240) * 262144 + bt s (i + 1) % 64 * 4096 + bt s (i + 2) % 64 * 64 + bt s (i + 3) % 64 : Nat)) : Int)) ∧ (¬ (r1 = true ∧ r2 = true ∧ r3 = true) → z = -1)) := by
      rw [← hr1, ← hr2, ← hr3]
      simp only [decide_eq_true_eq]
      simp only [h3, if_true, if_false, show ((244 : Nat) = 240) = False from eq_false (by decide)] at hz ⊢
      refine ⟨fun q => ?_, fun q => ?_⟩
      · rw [← hz, if_pos (by omega)]
      · rw [← hz, if_neg (by omega)]
    have HL1 : Hid (r1 = true → i + 1 < s.size) := fun e => (of_decide_eq_true (hr1.trans e)).1
    have HL2 : Hid (r2 = true → i + 2 < s.size) := fun e => (of_decide_eq_true (hr2.trans e)).1
    have HL3 : Hid (r3 = true → i + 3 < s.size) := fun e => (of_decide_eq_true (hr3.trans e)).1
    have HB : Hid (240 ≤ s[i].toNat ∧ s[i].toNat < 256) := ⟨by omega, by omega⟩
    clear hz hs hb h3 hr1 hr2 hr3
  case' inr.inr.inr.inr =>
    have h4 : ¬ (s[i].toNat : Int) < 240 := by omega
    have h5 : ¬ 244 < (s[i].toNat : Int) := by omega
    have e1 : ((s[i].toNat : Int) == 240) = false := by rw [beq_eq_false_iff_ne]; omega
    have e2 : ((s[i].toNat : Int) == 244) = false := by rw [beq_eq_false_iff_ne]; omega
    obtain ⟨r1, hr1⟩ : ∃ r, decide (i + 1 < s.size ∧ (128 : Int) ≤ (bt s (i + 1) : Int) ∧ (bt s (i + 1) : Int) ≤ 191) = r := ⟨_, rfl⟩
    have I1 := fun v => ref_sin (i + 1) ((i : Int) + 1) (by omega) 128 191 r1 hr1 v
    have HZ : Hid (((r1 = true ∧ r2 = true ∧ r3 = true) → z = ((((s[i].toNat - 240) * 262144 + bt s (i + 1) % 64 * 4096 + bt s (i + 2) % 64 * 64 + bt s (i + 3) % 64 : Nat)) : Int)) ∧ (¬ (r1 = true ∧ r2 = true ∧ r3 = true) → z = -1)) := by
      rw [← hr1, ← hr2, ← hr3]
      simp only [decide_eq_true_eq]
      simp only [h3.2.2.1, h3.2.2.2, if_false] at hz
      refine ⟨fun q => ?_, fun q => ?_⟩
      · rw [← hz, if_pos (by omega)]
      · rw [← hz, if_neg (by omega)]
    have HL1 : Hid (r1 = true → i + 1 < s.size) := fun e => (of_decide_eq_true (hr1.trans e)).1
    have HL2 : Hid (r2 = true → i + 2 < s.size) := fun e => (of_decide_eq_true (hr2.trans e)).1
    have HL3 : Hid (r3 = true → i + 3 < s.size) := fun e => (of_decide_eq_true (hr3.trans e)).1
    have HB : Hid (240 ≤ s[i].toNat ∧ s[i].toNat < 256) := ⟨by omega, by omega⟩
    clear hz hs hb h3 hr1 hr2 hr3
  case' inl | inr.inl =>
    go_enter Tryz.func96, Tryz.ntmps96
    go_wp2
    go_ret
    exact ⟨rfl, rfl⟩
  all_goals
    cases r1
    case' false => obtain rfl := HZ.out.2 (by simp)
    case' true => cases r2
    case' true.false => obtain rfl := HZ.out.2 (by simp)
    case' true.true => cases r3
    case' true.true.false => obtain rfl := HZ.out.2 (by simp)
    case' true.true.true =>
      obtain rfl := HZ.out.1 (by simp)
      have L1 := fun v => ref_slow (i + 1) (HL1.out rfl) ((i : Int) + 1) (by omega) v
      have L2 := fun v => ref_slow (i + 2) (HL2.out rfl) ((i : Int) + 2) (by omega) v
      have L3 := fun v => ref_slow (i + 3) (HL3.out rfl) ((i : Int) + 3) (by omega) v
    all_goals
      go_enter Tryz.func96, Tryz.ntmps96
      go_wp2_with (first
        | (go_at_call 93; (with_reducible refine Calls.mono (I1 _) ?_); rintro e v1 ⟨rfl, rfl⟩)
        | (go_at_call 93; (with_reducible refine Calls.mono (I2 _) ?_); rintro e v2 ⟨rfl, rfl⟩)
        | (go_at_call 93; (with_reducible refine Calls.mono (I3 _) ?_); rintro e v3 ⟨rfl, rfl⟩)
        | (go_at_call 94; (with_reducible refine Calls.mono (L1 _) ?_); rintro e u1 ⟨rfl, rfl⟩)
        | (go_at_call 94; (with_reducible refine Calls.mono (L2 _) ?_); rintro e u2 ⟨rfl, rfl⟩)
        | (go_at_call 94; (with_reducible refine Calls.mono (L3 _) ?_); rintro e u3 ⟨rfl, rfl⟩))
      go_ret
      first
        | exact ⟨rfl, rfl⟩
        | (refine ⟨?_, rfl⟩
           have hB := HB.out
           have l1 : bt s (i + 1) % 64 < 64 := Nat.mod_lt _ (by omega)
           have l2 : bt s (i + 2) % 64 < 64 := Nat.mod_lt _ (by omega)
           have l3 : bt s (i + 3) % 64 < 64 := Nat.mod_lt _ (by omega)
           show Ending.returned (.int .i64 _) = .returned (.int .i64 _)
           congr 2
           (try unfold wrap64)
           omega)
end Go.Proofs.YtbcfplaalepnbaaGreatDoor
namespace Go.Proofs.YtbcfplaalepnbaaGreatDoor
open Go.RowKit Go.Lib
theorem next_ways {s : ByteArray} {i : Nat} (h : i < s.size) :
    (bt s i < 128 ∧ nextR s i = bt s i ∧ nextN s i = 1) ∨
    (¬ bt s i < 128 ∧ ((194 ≤ bt s i ∧ bt s i ≤ 223) ∧ (i + 1 < s.size ∧ 128 ≤ bt s (i + 1) ∧ bt s (i + 1) ≤ 191)) ∧ nextR s i = (((bt s i - 192) * 64 + bt s (i + 1) % 64 : Nat) : Int) ∧ nextN s i = 2) ∨
    (¬ bt s i < 128 ∧ ¬ (194 ≤ bt s i ∧ bt s i ≤ 223) ∧ nextR s i = threeI (s.size - i) (bt s i) (bt s (i + 1)) (bt s (i + 2)) ∧ 0 ≤ threeI (s.size - i) (bt s i) (bt s (i + 1)) (bt s (i + 2)) ∧ nextN s i = 3) ∨
    (¬ bt s i < 128 ∧ ¬ (194 ≤ bt s i ∧ bt s i ≤ 223) ∧ threeI (s.size - i) (bt s i) (bt s (i + 1)) (bt s (i + 2)) = -1 ∧ nextR s i = fourI (s.size - i) (bt s i) (bt s (i + 1)) (bt s (i + 2)) (bt s (i + 3)) ∧ 0 ≤ fourI (s.size - i) (bt s i) (bt s (i + 1)) (bt s (i + 2)) (bt s (i + 3)) ∧ nextN s i = 4) ∨
    (¬ bt s i < 128 ∧ ¬ ((194 ≤ bt s i ∧ bt s i ≤ 223) ∧ (i + 1 < s.size ∧ 128 ≤ bt s (i + 1) ∧ bt s (i + 1) ≤ 191)) ∧ threeI (s.size - i) (bt s i) (bt s (i + 1)) (bt s (i + 2)) = -1 ∧ fourI (s.size - i) (bt s i) (bt s (i + 1)) (bt s (i + 2)) (bt s (i + 3)) = -1 ∧ nextR s i = 65533 ∧ nextN s i = 1) := by
  unfold nextR nextN
  rw [decode_bt]
  have hb := bt_lt s i
  generalize hn : s.size - i = n
  have e1 : (i + 1 < s.size) = (1 < n) := propext ⟨fun _ => by omega, fun _ => by omega⟩
  rw [e1]
  generalize bt s i = b0 at *
  generalize bt s (i + 1) = b1 at *
  generalize bt s (i + 2) = b2 at *
  generalize bt s (i + 3) = b3 at *
  by_cases c1 : b0 < 128
  · left; rw [decodeN_one c1]; exact ⟨c1, rfl, rfl⟩
  right
  by_cases c2 : (194 ≤ b0 ∧ b0 ≤ 223) ∧ (1 < n ∧ 128 ≤ b1 ∧ b1 ≤ 191)
  · left; rw [decodeN_two c2.1 c2.2]; exact ⟨c1, c2, rfl, rfl⟩
  right
  by_cases c3 : (224 ≤ b0 ∧ b0 ≤ 239) ∧ (1 < n ∧ (if b0 = 224 then 160 else 128) ≤ b1 ∧ b1 ≤ (if b0 = 237 then 159 else 191)) ∧ (2 < n ∧ 128 ≤ b2 ∧ b2 ≤ 191)
  · left
    rw [decodeN_three c3.1 c3.2.1 c3.2.2]
    unfold threeI
    rw [if_pos c3]
    exact ⟨c1, by omega, rfl, by omega, rfl⟩
  right
  have t3 : threeI n b0 b1 b2 = -1 := if_neg c3
  by_cases c4 : (240 ≤ b0 ∧ b0 ≤ 244) ∧ (1 < n ∧ (if b0 = 240 then 144 else 128) ≤ b1 ∧ b1 ≤ (if b0 = 244 then 143 else 191)) ∧ (2 < n ∧ 128 ≤ b2 ∧ b2 ≤ 191) ∧ (3 < n ∧ 128 ≤ b3 ∧ b3 ≤ 191)
  · left
    rw [decodeN_four c4.1 c4.2.1 c4.2.2.1 c4.2.2.2]
    unfold fourI
    rw [if_pos c4]
    exact ⟨c1, by omega, t3, rfl, by omega, rfl⟩
  right
  have t4 : fourI n b0 b1 b2 b3 = -1 := if_neg c4
  rw [decodeN_none hb c1 c2 c3 c4]
  exact ⟨c1, c2, t3, t4, rfl, rfl⟩
set_option maxHeartbeats 8000000 in
theorem ref_snext {s : ByteArray} (hs : s.size ≤ 1000000) (i : Nat) (h : i < s.size) (w : World) :
    Calls Tryz.prog 63 #[.string s, .int .i64 i] w fun e w' => e = .returned (.tuple #[.int .i64 (nextR s i), .int .i64 (nextN s i)]) ∧ w = w' := by
  have W := next_ways h
  have g1 : (i : Int) < s.size := by omega
  have g2 : ¬ (s.size : Int) ≤ i := by omega
  have g3 : ¬ (i : Int) < 0 := by omega
  have hw := wrap_byte s[i]
  have w1 : wrap64 ((i : Int) + 1) = (i : Int) + 1 := by unfold wrap64; omega
  obtain ⟨r0, hr0⟩ : ∃ r, decide (i < s.size ∧ (194 : Int) ≤ (bt s i : Int) ∧ (bt s i : Int) ≤ 223) = r := ⟨_, rfl⟩
  obtain ⟨r1, hr1⟩ : ∃ r, decide (i + 1 < s.size ∧ (128 : Int) ≤ (bt s (i + 1) : Int) ∧ (bt s (i + 1) : Int) ≤ 191) = r := ⟨_, rfl⟩
  have J0 := fun v => ref_sin i (i : Int) rfl 194 223 r0 hr0 v
  have J1 := fun v => ref_sin (i + 1) ((i : Int) + 1) (by omega) 128 191 r1 hr1 v
  have T := fun v => ref_three hs i h _ rfl v
  have Fo := fun v => ref_four hs i h _ rfl v
  have hl := fun (q : i + 1 < s.size) v => ref_slow (i + 1) q ((i : Int) + 1) (by omega) v
  have hbt := bt_get h
  generalize threeI (s.size - i) (bt s i) (bt s (i + 1)) (bt s (i + 2)) = t at *
  generalize fourI (s.size - i) (bt s i) (bt s (i + 1)) (bt s (i + 2)) (bt s (i + 3)) = f at *
  generalize nextR s i = R at *
  generalize nextN s i = M at *
  rcases W with ⟨a0, rfl, rfl⟩ | ⟨a0, a1, rfl, rfl⟩ | ⟨a0, a1, rfl, a2, rfl⟩ | ⟨a0, a1, rfl, rfl, a2, rfl⟩ | ⟨a0, a1, rfl, rfl, rfl, rfl⟩
  case' inl => have k0 : (s[i].toNat : Int) < 128 := by omega
  case' inr.inl =>
    have k0 : ¬ (s[i].toNat : Int) < 128 := by omega
    obtain rfl : r0 = true := by rw [← hr0]; exact decide_eq_true (by omega)
    obtain rfl : r1 = true := by rw [← hr1]; exact decide_eq_true (by omega)
    replace hl := hl a1.2.1
  case' inr.inr.inl =>
    have k0 : ¬ (s[i].toNat : Int) < 128 := by omega
    obtain rfl : r0 = false := by rw [← hr0]; exact decide_eq_false (by omega)
  case' inr.inr.inr.inl =>
    have k0 : ¬ (s[i].toNat : Int) < 128 := by omega
    obtain rfl : r0 = false := by rw [← hr0]; exact decide_eq_false (by omega)
  case' inr.inr.inr.inr =>
    have k0 : ¬ (s[i].toNat : Int) < 128 := by omega
    have a2 : r0 = false ∨ (r0 = true ∧ r1 = false) := by
      rw [← hr0, ← hr1]
      simp only [decide_eq_false_iff_not, decide_eq_true_eq]
      omega
    rcases a2 with rfl | ⟨rfl, rfl⟩
  all_goals
    have HK : Hid (bt s i = s[i].toNat) := hbt
    have hb8 : Hid (s[i].toNat < 256) := s[i].toNat_lt
    (try have HA : Hid (194 ≤ bt s i) := a1.1.1)
    clear hr0 hr1 a0 hs hbt
    (try clear a1)
    go_enter Tryz.func63, Tryz.ntmps63
    go_wp2_with (first
      | (go_at_call 93; (with_reducible refine Calls.mono (J0 _) ?_); rintro e v0 ⟨rfl, rfl⟩)
      | (go_at_call 93; (with_reducible refine Calls.mono (J1 _) ?_); rintro e v1 ⟨rfl, rfl⟩)
      | (go_at_call 94; (with_reducible refine Calls.mono (hl _) ?_); rintro e v2 ⟨rfl, rfl⟩)
      | (go_at_call 95; (with_reducible refine Calls.mono (T _) ?_); rintro e v3 ⟨rfl, rfl⟩)
      | (go_at_call 96; (with_reducible refine Calls.mono (Fo _) ?_); rintro e v4 ⟨rfl, rfl⟩))
    go_ret2
    first
      | exact ⟨rfl, rfl⟩
      | (rw [HK.out]; exact ⟨rfl, rfl⟩)
      | (refine ⟨?_, rfl⟩
         have hB := HK.out
         have hA := HA.out
         have h8 := hb8.out
         have l1 : bt s (i + 1) % 64 < 64 := Nat.mod_lt _ (by omega)
         show Ending.returned (.tuple #[.int .i64 _, .int .i64 _]) = .returned (.tuple #[.int .i64 _, .int .i64 _])
         congr 5
         (try unfold wrap64)
         omega)
set_option maxHeartbeats 2000000 in
theorem ref_skey (s : ByteArray) (r : Bool) (hr : keyB s = r) (w : World) :
    Calls Tryz.prog 67 #[.string s] w fun e w' => e = .returned (.bool r) ∧ w = w' := by
  unfold keyB at hr
  generalize h1 : (s.toList == [105, 110]) = q1 at hr
  generalize h2 : (s.toList == [108, 101, 116]) = q2 at hr
  generalize h3 : (s.toList == [111, 117, 116]) = q3 at hr
  cases q1 <;> cases q2
  all_goals
    simp at hr
    subst hr
    go_enter Tryz.func67, Tryz.ntmps67
    go_wp2
    go_ret
    exact ⟨rfl, rfl⟩
end Go.Proofs.YtbcfplaalepnbaaGreatDoor
namespace Go.Proofs.YtbcfplaalepnbaaGreatDoor
open Go.RowKit Go.Lib
theorem kind_iv0 (r : Int) (h1 : r ≤ 8) (w : World) : Calls Tryz.prog 68 #[.int .i64 r] w fun e w' => e = .returned (.int .i64 0) ∧ w = w' := by
  have g97 : ¬ 97 ≤ r := by omega
  have g65 : ¬ 65 ≤ r := by omega
  have e95 : (r == 95) = false := by rw [beq_eq_false_iff_ne]; omega
  have g128 : ¬ 128 ≤ r := by omega
  have g48 : ¬ 48 ≤ r := by omega
  have e9 : (r == 9) = false := by rw [beq_eq_false_iff_ne]; omega
  have e10 : (r == 10) = false := by rw [beq_eq_false_iff_ne]; omega
  have e13 : (r == 13) = false := by rw [beq_eq_false_iff_ne]; omega
  have e32 : (r == 32) = false := by rw [beq_eq_false_iff_ne]; omega
  have e43 : (r == 43) = false := by rw [beq_eq_false_iff_ne]; omega
  have e45 : (r == 45) = false := by rw [beq_eq_false_iff_ne]; omega
  have e42 : (r == 42) = false := by rw [beq_eq_false_iff_ne]; omega
  have e47 : (r == 47) = false := by rw [beq_eq_false_iff_ne]; omega
  have e94 : (r == 94) = false := by rw [beq_eq_false_iff_ne]; omega
  have e40 : (r == 40) = false := by rw [beq_eq_false_iff_ne]; omega
  have e41 : (r == 41) = false := by rw [beq_eq_false_iff_ne]; omega
  have e61 : (r == 61) = false := by rw [beq_eq_false_iff_ne]; omega
  have e59 : (r == 59) = false := by rw [beq_eq_false_iff_ne]; omega
  have e44 : (r == 44) = false := by rw [beq_eq_false_iff_ne]; omega
  go_enter Tryz.func68, Tryz.ntmps68
  go_wp2
  go_ret
  exact ⟨rfl, rfl⟩
theorem kind_iv1 (r : Int) (h0 : 11 ≤ r) (h1 : r ≤ 12) (w : World) : Calls Tryz.prog 68 #[.int .i64 r] w fun e w' => e = .returned (.int .i64 0) ∧ w = w' := by
  have g97 : ¬ 97 ≤ r := by omega
  have g65 : ¬ 65 ≤ r := by omega
  have e95 : (r == 95) = false := by rw [beq_eq_false_iff_ne]; omega
  have g128 : ¬ 128 ≤ r := by omega
  have g48 : ¬ 48 ≤ r := by omega
  have e9 : (r == 9) = false := by rw [beq_eq_false_iff_ne]; omega
  have e10 : (r == 10) = false := by rw [beq_eq_false_iff_ne]; omega
  have e13 : (r == 13) = false := by rw [beq_eq_false_iff_ne]; omega
  have e32 : (r == 32) = false := by rw [beq_eq_false_iff_ne]; omega
  have e43 : (r == 43) = false := by rw [beq_eq_false_iff_ne]; omega
  have e45 : (r == 45) = false := by rw [beq_eq_false_iff_ne]; omega
  have e42 : (r == 42) = false := by rw [beq_eq_false_iff_ne]; omega
  have e47 : (r == 47) = false := by rw [beq_eq_false_iff_ne]; omega
  have e94 : (r == 94) = false := by rw [beq_eq_false_iff_ne]; omega
  have e40 : (r == 40) = false := by rw [beq_eq_false_iff_ne]; omega
  have e41 : (r == 41) = false := by rw [beq_eq_false_iff_ne]; omega
  have e61 : (r == 61) = false := by rw [beq_eq_false_iff_ne]; omega
  have e59 : (r == 59) = false := by rw [beq_eq_false_iff_ne]; omega
  have e44 : (r == 44) = false := by rw [beq_eq_false_iff_ne]; omega
  go_enter Tryz.func68, Tryz.ntmps68
  go_wp2
  go_ret
  exact ⟨rfl, rfl⟩
theorem kind_iv2 (r : Int) (h0 : 14 ≤ r) (h1 : r ≤ 31) (w : World) : Calls Tryz.prog 68 #[.int .i64 r] w fun e w' => e = .returned (.int .i64 0) ∧ w = w' := by
  have g97 : ¬ 97 ≤ r := by omega
  have g65 : ¬ 65 ≤ r := by omega
  have e95 : (r == 95) = false := by rw [beq_eq_false_iff_ne]; omega
  have g128 : ¬ 128 ≤ r := by omega
  have g48 : ¬ 48 ≤ r := by omega
  have e9 : (r == 9) = false := by rw [beq_eq_false_iff_ne]; omega
  have e10 : (r == 10) = false := by rw [beq_eq_false_iff_ne]; omega
  have e13 : (r == 13) = false := by rw [beq_eq_false_iff_ne]; omega
  have e32 : (r == 32) = false := by rw [beq_eq_false_iff_ne]; omega
  have e43 : (r == 43) = false := by rw [beq_eq_false_iff_ne]; omega
  have e45 : (r == 45) = false := by rw [beq_eq_false_iff_ne]; omega
  have e42 : (r == 42) = false := by rw [beq_eq_false_iff_ne]; omega
  have e47 : (r == 47) = false := by rw [beq_eq_false_iff_ne]; omega
  have e94 : (r == 94) = false := by rw [beq_eq_false_iff_ne]; omega
  have e40 : (r == 40) = false := by rw [beq_eq_false_iff_ne]; omega
  have e41 : (r == 41) = false := by rw [beq_eq_false_iff_ne]; omega
  have e61 : (r == 61) = false := by rw [beq_eq_false_iff_ne]; omega
  have e59 : (r == 59) = false := by rw [beq_eq_false_iff_ne]; omega
  have e44 : (r == 44) = false := by rw [beq_eq_false_iff_ne]; omega
  go_enter Tryz.func68, Tryz.ntmps68
  go_wp2
  go_ret
  exact ⟨rfl, rfl⟩
theorem kind_iv3 (r : Int) (h0 : 33 ≤ r) (h1 : r ≤ 39) (w : World) : Calls Tryz.prog 68 #[.int .i64 r] w fun e w' => e = .returned (.int .i64 0) ∧ w = w' := by
  have g97 : ¬ 97 ≤ r := by omega
  have g65 : ¬ 65 ≤ r := by omega
  have e95 : (r == 95) = false := by rw [beq_eq_false_iff_ne]; omega
  have g128 : ¬ 128 ≤ r := by omega
  have g48 : ¬ 48 ≤ r := by omega
  have e9 : (r == 9) = false := by rw [beq_eq_false_iff_ne]; omega
  have e10 : (r == 10) = false := by rw [beq_eq_false_iff_ne]; omega
  have e13 : (r == 13) = false := by rw [beq_eq_false_iff_ne]; omega
  have e32 : (r == 32) = false := by rw [beq_eq_false_iff_ne]; omega
  have e43 : (r == 43) = false := by rw [beq_eq_false_iff_ne]; omega
  have e45 : (r == 45) = false := by rw [beq_eq_false_iff_ne]; omega
  have e42 : (r == 42) = false := by rw [beq_eq_false_iff_ne]; omega
  have e47 : (r == 47) = false := by rw [beq_eq_false_iff_ne]; omega
  have e94 : (r == 94) = false := by rw [beq_eq_false_iff_ne]; omega
  have e40 : (r == 40) = false := by rw [beq_eq_false_iff_ne]; omega
  have e41 : (r == 41) = false := by rw [beq_eq_false_iff_ne]; omega
  have e61 : (r == 61) = false := by rw [beq_eq_false_iff_ne]; omega
  have e59 : (r == 59) = false := by rw [beq_eq_false_iff_ne]; omega
  have e44 : (r == 44) = false := by rw [beq_eq_false_iff_ne]; omega
  go_enter Tryz.func68, Tryz.ntmps68
  go_wp2
  go_ret
  exact ⟨rfl, rfl⟩
theorem kind_iv4 (r : Int) (h0 : 46 ≤ r) (h1 : r ≤ 46) (w : World) : Calls Tryz.prog 68 #[.int .i64 r] w fun e w' => e = .returned (.int .i64 0) ∧ w = w' := by
  have g97 : ¬ 97 ≤ r := by omega
  have g65 : ¬ 65 ≤ r := by omega
  have e95 : (r == 95) = false := by rw [beq_eq_false_iff_ne]; omega
  have g128 : ¬ 128 ≤ r := by omega
  have g48 : ¬ 48 ≤ r := by omega
  have e9 : (r == 9) = false := by rw [beq_eq_false_iff_ne]; omega
  have e10 : (r == 10) = false := by rw [beq_eq_false_iff_ne]; omega
  have e13 : (r == 13) = false := by rw [beq_eq_false_iff_ne]; omega
  have e32 : (r == 32) = false := by rw [beq_eq_false_iff_ne]; omega
  have e43 : (r == 43) = false := by rw [beq_eq_false_iff_ne]; omega
  have e45 : (r == 45) = false := by rw [beq_eq_false_iff_ne]; omega
  have e42 : (r == 42) = false := by rw [beq_eq_false_iff_ne]; omega
  have e47 : (r == 47) = false := by rw [beq_eq_false_iff_ne]; omega
  have e94 : (r == 94) = false := by rw [beq_eq_false_iff_ne]; omega
  have e40 : (r == 40) = false := by rw [beq_eq_false_iff_ne]; omega
  have e41 : (r == 41) = false := by rw [beq_eq_false_iff_ne]; omega
  have e61 : (r == 61) = false := by rw [beq_eq_false_iff_ne]; omega
  have e59 : (r == 59) = false := by rw [beq_eq_false_iff_ne]; omega
  have e44 : (r == 44) = false := by rw [beq_eq_false_iff_ne]; omega
  go_enter Tryz.func68, Tryz.ntmps68
  go_wp2
  go_ret
  exact ⟨rfl, rfl⟩
theorem kind_iv5 (r : Int) (h0 : 48 ≤ r) (h1 : r ≤ 57) (w : World) : Calls Tryz.prog 68 #[.int .i64 r] w fun e w' => e = .returned (.int .i64 2) ∧ w = w' := by
  have g97 : ¬ 97 ≤ r := by omega
  have g65 : ¬ 65 ≤ r := by omega
  have e95 : (r == 95) = false := by rw [beq_eq_false_iff_ne]; omega
  have g128 : ¬ 128 ≤ r := by omega
  have g48 : 48 ≤ r := by omega
  have l57 : r ≤ 57 := by omega
  go_enter Tryz.func68, Tryz.ntmps68
  go_wp2
  go_ret
  exact ⟨rfl, rfl⟩
theorem kind_iv6 (r : Int) (h0 : 58 ≤ r) (h1 : r ≤ 58) (w : World) : Calls Tryz.prog 68 #[.int .i64 r] w fun e w' => e = .returned (.int .i64 0) ∧ w = w' := by
  have g97 : ¬ 97 ≤ r := by omega
  have g65 : ¬ 65 ≤ r := by omega
  have e95 : (r == 95) = false := by rw [beq_eq_false_iff_ne]; omega
  have g128 : ¬ 128 ≤ r := by omega
  have g48 : 48 ≤ r := by omega
  have l57 : ¬ r ≤ 57 := by omega
  have e9 : (r == 9) = false := by rw [beq_eq_false_iff_ne]; omega
  have e10 : (r == 10) = false := by rw [beq_eq_false_iff_ne]; omega
  have e13 : (r == 13) = false := by rw [beq_eq_false_iff_ne]; omega
  have e32 : (r == 32) = false := by rw [beq_eq_false_iff_ne]; omega
  have e43 : (r == 43) = false := by rw [beq_eq_false_iff_ne]; omega
  have e45 : (r == 45) = false := by rw [beq_eq_false_iff_ne]; omega
  have e42 : (r == 42) = false := by rw [beq_eq_false_iff_ne]; omega
  have e47 : (r == 47) = false := by rw [beq_eq_false_iff_ne]; omega
  have e94 : (r == 94) = false := by rw [beq_eq_false_iff_ne]; omega
  have e40 : (r == 40) = false := by rw [beq_eq_false_iff_ne]; omega
  have e41 : (r == 41) = false := by rw [beq_eq_false_iff_ne]; omega
  have e61 : (r == 61) = false := by rw [beq_eq_false_iff_ne]; omega
  have e59 : (r == 59) = false := by rw [beq_eq_false_iff_ne]; omega
  have e44 : (r == 44) = false := by rw [beq_eq_false_iff_ne]; omega
  go_enter Tryz.func68, Tryz.ntmps68
  go_wp2
  go_ret
  exact ⟨rfl, rfl⟩
theorem kind_iv7 (r : Int) (h0 : 60 ≤ r) (h1 : r ≤ 60) (w : World) : Calls Tryz.prog 68 #[.int .i64 r] w fun e w' => e = .returned (.int .i64 0) ∧ w = w' := by
  have g97 : ¬ 97 ≤ r := by omega
  have g65 : ¬ 65 ≤ r := by omega
  have e95 : (r == 95) = false := by rw [beq_eq_false_iff_ne]; omega
  have g128 : ¬ 128 ≤ r := by omega
  have g48 : 48 ≤ r := by omega
  have l57 : ¬ r ≤ 57 := by omega
  have e9 : (r == 9) = false := by rw [beq_eq_false_iff_ne]; omega
  have e10 : (r == 10) = false := by rw [beq_eq_false_iff_ne]; omega
  have e13 : (r == 13) = false := by rw [beq_eq_false_iff_ne]; omega
  have e32 : (r == 32) = false := by rw [beq_eq_false_iff_ne]; omega
  have e43 : (r == 43) = false := by rw [beq_eq_false_iff_ne]; omega
  have e45 : (r == 45) = false := by rw [beq_eq_false_iff_ne]; omega
  have e42 : (r == 42) = false := by rw [beq_eq_false_iff_ne]; omega
  have e47 : (r == 47) = false := by rw [beq_eq_false_iff_ne]; omega
  have e94 : (r == 94) = false := by rw [beq_eq_false_iff_ne]; omega
  have e40 : (r == 40) = false := by rw [beq_eq_false_iff_ne]; omega
  have e41 : (r == 41) = false := by rw [beq_eq_false_iff_ne]; omega
  have e61 : (r == 61) = false := by rw [beq_eq_false_iff_ne]; omega
  have e59 : (r == 59) = false := by rw [beq_eq_false_iff_ne]; omega
  have e44 : (r == 44) = false := by rw [beq_eq_false_iff_ne]; omega
  go_enter Tryz.func68, Tryz.ntmps68
  go_wp2
  go_ret
  exact ⟨rfl, rfl⟩
theorem kind_iv8 (r : Int) (h0 : 62 ≤ r) (h1 : r ≤ 64) (w : World) : Calls Tryz.prog 68 #[.int .i64 r] w fun e w' => e = .returned (.int .i64 0) ∧ w = w' := by
  have g97 : ¬ 97 ≤ r := by omega
  have g65 : ¬ 65 ≤ r := by omega
  have e95 : (r == 95) = false := by rw [beq_eq_false_iff_ne]; omega
  have g128 : ¬ 128 ≤ r := by omega
  have g48 : 48 ≤ r := by omega
  have l57 : ¬ r ≤ 57 := by omega
  have e9 : (r == 9) = false := by rw [beq_eq_false_iff_ne]; omega
  have e10 : (r == 10) = false := by rw [beq_eq_false_iff_ne]; omega
  have e13 : (r == 13) = false := by rw [beq_eq_false_iff_ne]; omega
  have e32 : (r == 32) = false := by rw [beq_eq_false_iff_ne]; omega
  have e43 : (r == 43) = false := by rw [beq_eq_false_iff_ne]; omega
  have e45 : (r == 45) = false := by rw [beq_eq_false_iff_ne]; omega
  have e42 : (r == 42) = false := by rw [beq_eq_false_iff_ne]; omega
  have e47 : (r == 47) = false := by rw [beq_eq_false_iff_ne]; omega
  have e94 : (r == 94) = false := by rw [beq_eq_false_iff_ne]; omega
  have e40 : (r == 40) = false := by rw [beq_eq_false_iff_ne]; omega
  have e41 : (r == 41) = false := by rw [beq_eq_false_iff_ne]; omega
  have e61 : (r == 61) = false := by rw [beq_eq_false_iff_ne]; omega
  have e59 : (r == 59) = false := by rw [beq_eq_false_iff_ne]; omega
  have e44 : (r == 44) = false := by rw [beq_eq_false_iff_ne]; omega
  go_enter Tryz.func68, Tryz.ntmps68
  go_wp2
  go_ret
  exact ⟨rfl, rfl⟩
theorem kind_iv9 (r : Int) (h0 : 65 ≤ r) (h1 : r ≤ 90) (w : World) : Calls Tryz.prog 68 #[.int .i64 r] w fun e w' => e = .returned (.int .i64 1) ∧ w = w' := by
  have g97 : ¬ 97 ≤ r := by omega
  have g65 : 65 ≤ r := by omega
  have l90 : r ≤ 90 := by omega
  go_enter Tryz.func68, Tryz.ntmps68
  go_wp2
  go_ret
  exact ⟨rfl, rfl⟩
theorem kind_iv10 (r : Int) (h0 : 91 ≤ r) (h1 : r ≤ 93) (w : World) : Calls Tryz.prog 68 #[.int .i64 r] w fun e w' => e = .returned (.int .i64 0) ∧ w = w' := by
  have g97 : ¬ 97 ≤ r := by omega
  have g65 : 65 ≤ r := by omega
  have l90 : ¬ r ≤ 90 := by omega
  have e95 : (r == 95) = false := by rw [beq_eq_false_iff_ne]; omega
  have g128 : ¬ 128 ≤ r := by omega
  have g48 : 48 ≤ r := by omega
  have l57 : ¬ r ≤ 57 := by omega
  have e9 : (r == 9) = false := by rw [beq_eq_false_iff_ne]; omega
  have e10 : (r == 10) = false := by rw [beq_eq_false_iff_ne]; omega
  have e13 : (r == 13) = false := by rw [beq_eq_false_iff_ne]; omega
  have e32 : (r == 32) = false := by rw [beq_eq_false_iff_ne]; omega
  have e43 : (r == 43) = false := by rw [beq_eq_false_iff_ne]; omega
  have e45 : (r == 45) = false := by rw [beq_eq_false_iff_ne]; omega
  have e42 : (r == 42) = false := by rw [beq_eq_false_iff_ne]; omega
  have e47 : (r == 47) = false := by rw [beq_eq_false_iff_ne]; omega
  have e94 : (r == 94) = false := by rw [beq_eq_false_iff_ne]; omega
  have e40 : (r == 40) = false := by rw [beq_eq_false_iff_ne]; omega
  have e41 : (r == 41) = false := by rw [beq_eq_false_iff_ne]; omega
  have e61 : (r == 61) = false := by rw [beq_eq_false_iff_ne]; omega
  have e59 : (r == 59) = false := by rw [beq_eq_false_iff_ne]; omega
  have e44 : (r == 44) = false := by rw [beq_eq_false_iff_ne]; omega
  go_enter Tryz.func68, Tryz.ntmps68
  go_wp2
  go_ret
  exact ⟨rfl, rfl⟩
theorem kind_iv11 (r : Int) (h0 : 96 ≤ r) (h1 : r ≤ 96) (w : World) : Calls Tryz.prog 68 #[.int .i64 r] w fun e w' => e = .returned (.int .i64 0) ∧ w = w' := by
  have g97 : ¬ 97 ≤ r := by omega
  have g65 : 65 ≤ r := by omega
  have l90 : ¬ r ≤ 90 := by omega
  have e95 : (r == 95) = false := by rw [beq_eq_false_iff_ne]; omega
  have g128 : ¬ 128 ≤ r := by omega
  have g48 : 48 ≤ r := by omega
  have l57 : ¬ r ≤ 57 := by omega
  have e9 : (r == 9) = false := by rw [beq_eq_false_iff_ne]; omega
  have e10 : (r == 10) = false := by rw [beq_eq_false_iff_ne]; omega
  have e13 : (r == 13) = false := by rw [beq_eq_false_iff_ne]; omega
  have e32 : (r == 32) = false := by rw [beq_eq_false_iff_ne]; omega
  have e43 : (r == 43) = false := by rw [beq_eq_false_iff_ne]; omega
  have e45 : (r == 45) = false := by rw [beq_eq_false_iff_ne]; omega
  have e42 : (r == 42) = false := by rw [beq_eq_false_iff_ne]; omega
  have e47 : (r == 47) = false := by rw [beq_eq_false_iff_ne]; omega
  have e94 : (r == 94) = false := by rw [beq_eq_false_iff_ne]; omega
  have e40 : (r == 40) = false := by rw [beq_eq_false_iff_ne]; omega
  have e41 : (r == 41) = false := by rw [beq_eq_false_iff_ne]; omega
  have e61 : (r == 61) = false := by rw [beq_eq_false_iff_ne]; omega
  have e59 : (r == 59) = false := by rw [beq_eq_false_iff_ne]; omega
  have e44 : (r == 44) = false := by rw [beq_eq_false_iff_ne]; omega
  go_enter Tryz.func68, Tryz.ntmps68
  go_wp2
  go_ret
  exact ⟨rfl, rfl⟩
theorem kind_iv12 (r : Int) (h0 : 97 ≤ r) (h1 : r ≤ 122) (w : World) : Calls Tryz.prog 68 #[.int .i64 r] w fun e w' => e = .returned (.int .i64 1) ∧ w = w' := by
  have g97 : 97 ≤ r := by omega
  have l122 : r ≤ 122 := by omega
  go_enter Tryz.func68, Tryz.ntmps68
  go_wp2
  go_ret
  exact ⟨rfl, rfl⟩
theorem kind_iv13 (r : Int) (h0 : 123 ≤ r) (h1 : r ≤ 127) (w : World) : Calls Tryz.prog 68 #[.int .i64 r] w fun e w' => e = .returned (.int .i64 0) ∧ w = w' := by
  have g97 : 97 ≤ r := by omega
  have l122 : ¬ r ≤ 122 := by omega
  have g65 : 65 ≤ r := by omega
  have l90 : ¬ r ≤ 90 := by omega
  have e95 : (r == 95) = false := by rw [beq_eq_false_iff_ne]; omega
  have g128 : ¬ 128 ≤ r := by omega
  have g48 : 48 ≤ r := by omega
  have l57 : ¬ r ≤ 57 := by omega
  have e9 : (r == 9) = false := by rw [beq_eq_false_iff_ne]; omega
  have e10 : (r == 10) = false := by rw [beq_eq_false_iff_ne]; omega
  have e13 : (r == 13) = false := by rw [beq_eq_false_iff_ne]; omega
  have e32 : (r == 32) = false := by rw [beq_eq_false_iff_ne]; omega
  have e43 : (r == 43) = false := by rw [beq_eq_false_iff_ne]; omega
  have e45 : (r == 45) = false := by rw [beq_eq_false_iff_ne]; omega
  have e42 : (r == 42) = false := by rw [beq_eq_false_iff_ne]; omega
  have e47 : (r == 47) = false := by rw [beq_eq_false_iff_ne]; omega
  have e94 : (r == 94) = false := by rw [beq_eq_false_iff_ne]; omega
  have e40 : (r == 40) = false := by rw [beq_eq_false_iff_ne]; omega
  have e41 : (r == 41) = false := by rw [beq_eq_false_iff_ne]; omega
  have e61 : (r == 61) = false := by rw [beq_eq_false_iff_ne]; omega
  have e59 : (r == 59) = false := by rw [beq_eq_false_iff_ne]; omega
  have e44 : (r == 44) = false := by rw [beq_eq_false_iff_ne]; omega
  go_enter Tryz.func68, Tryz.ntmps68
  go_wp2
  go_ret
  exact ⟨rfl, rfl⟩
theorem kind_iv14 (r : Int) (h0 : 128 ≤ r) (h1 : r ≤ 65532) (w : World) : Calls Tryz.prog 68 #[.int .i64 r] w fun e w' => e = .returned (.int .i64 1) ∧ w = w' := by
  have g97 : 97 ≤ r := by omega
  have l122 : ¬ r ≤ 122 := by omega
  have g65 : 65 ≤ r := by omega
  have l90 : ¬ r ≤ 90 := by omega
  have e95 : (r == 95) = false := by rw [beq_eq_false_iff_ne]; omega
  have g128 : 128 ≤ r := by omega
  have l1114111 : r ≤ 1114111 := by omega
  have n1 : (r != 65533) = true := by rw [bne_iff_ne]; omega
  go_enter Tryz.func68, Tryz.ntmps68
  go_wp2
  go_ret
  exact ⟨rfl, rfl⟩
theorem kind_iv15 (r : Int) (h0 : 65534 ≤ r) (h1 : r ≤ 1114111) (w : World) : Calls Tryz.prog 68 #[.int .i64 r] w fun e w' => e = .returned (.int .i64 1) ∧ w = w' := by
  have g97 : 97 ≤ r := by omega
  have l122 : ¬ r ≤ 122 := by omega
  have g65 : 65 ≤ r := by omega
  have l90 : ¬ r ≤ 90 := by omega
  have e95 : (r == 95) = false := by rw [beq_eq_false_iff_ne]; omega
  have g128 : 128 ≤ r := by omega
  have l1114111 : r ≤ 1114111 := by omega
  have n1 : (r != 65533) = true := by rw [bne_iff_ne]; omega
  go_enter Tryz.func68, Tryz.ntmps68
  go_wp2
  go_ret
  exact ⟨rfl, rfl⟩
theorem kind_iv16 (r : Int) (h0 : 1114112 ≤ r) (w : World) : Calls Tryz.prog 68 #[.int .i64 r] w fun e w' => e = .returned (.int .i64 0) ∧ w = w' := by
  have g97 : 97 ≤ r := by omega
  have l122 : ¬ r ≤ 122 := by omega
  have g65 : 65 ≤ r := by omega
  have l90 : ¬ r ≤ 90 := by omega
  have e95 : (r == 95) = false := by rw [beq_eq_false_iff_ne]; omega
  have g128 : 128 ≤ r := by omega
  have l1114111 : ¬ r ≤ 1114111 := by omega
  have g48 : 48 ≤ r := by omega
  have l57 : ¬ r ≤ 57 := by omega
  have e9 : (r == 9) = false := by rw [beq_eq_false_iff_ne]; omega
  have e10 : (r == 10) = false := by rw [beq_eq_false_iff_ne]; omega
  have e13 : (r == 13) = false := by rw [beq_eq_false_iff_ne]; omega
  have e32 : (r == 32) = false := by rw [beq_eq_false_iff_ne]; omega
  have e43 : (r == 43) = false := by rw [beq_eq_false_iff_ne]; omega
  have e45 : (r == 45) = false := by rw [beq_eq_false_iff_ne]; omega
  have e42 : (r == 42) = false := by rw [beq_eq_false_iff_ne]; omega
  have e47 : (r == 47) = false := by rw [beq_eq_false_iff_ne]; omega
  have e94 : (r == 94) = false := by rw [beq_eq_false_iff_ne]; omega
  have e40 : (r == 40) = false := by rw [beq_eq_false_iff_ne]; omega
  have e41 : (r == 41) = false := by rw [beq_eq_false_iff_ne]; omega
  have e61 : (r == 61) = false := by rw [beq_eq_false_iff_ne]; omega
  have e59 : (r == 59) = false := by rw [beq_eq_false_iff_ne]; omega
  have e44 : (r == 44) = false := by rw [beq_eq_false_iff_ne]; omega
  go_enter Tryz.func68, Tryz.ntmps68
  go_wp2
  go_ret
  exact ⟨rfl, rfl⟩
theorem kind_one9 (w : World) : Calls Tryz.prog 68 #[.int .i64 9] w fun e w' => e = .returned (.int .i64 3) ∧ w = w' := by
  go_enter Tryz.func68, Tryz.ntmps68
  go_wp2
  go_ret
  exact ⟨rfl, rfl⟩
theorem kind_one10 (w : World) : Calls Tryz.prog 68 #[.int .i64 10] w fun e w' => e = .returned (.int .i64 3) ∧ w = w' := by
  go_enter Tryz.func68, Tryz.ntmps68
  go_wp2
  go_ret
  exact ⟨rfl, rfl⟩
theorem kind_one13 (w : World) : Calls Tryz.prog 68 #[.int .i64 13] w fun e w' => e = .returned (.int .i64 3) ∧ w = w' := by
  go_enter Tryz.func68, Tryz.ntmps68
  go_wp2
  go_ret
  exact ⟨rfl, rfl⟩
theorem kind_one32 (w : World) : Calls Tryz.prog 68 #[.int .i64 32] w fun e w' => e = .returned (.int .i64 3) ∧ w = w' := by
  go_enter Tryz.func68, Tryz.ntmps68
  go_wp2
  go_ret
  exact ⟨rfl, rfl⟩
theorem kind_one40 (w : World) : Calls Tryz.prog 68 #[.int .i64 40] w fun e w' => e = .returned (.int .i64 4) ∧ w = w' := by
  go_enter Tryz.func68, Tryz.ntmps68
  go_wp2
  go_ret
  exact ⟨rfl, rfl⟩
theorem kind_one41 (w : World) : Calls Tryz.prog 68 #[.int .i64 41] w fun e w' => e = .returned (.int .i64 4) ∧ w = w' := by
  go_enter Tryz.func68, Tryz.ntmps68
  go_wp2
  go_ret
  exact ⟨rfl, rfl⟩
theorem kind_one42 (w : World) : Calls Tryz.prog 68 #[.int .i64 42] w fun e w' => e = .returned (.int .i64 4) ∧ w = w' := by
  go_enter Tryz.func68, Tryz.ntmps68
  go_wp2
  go_ret
  exact ⟨rfl, rfl⟩
theorem kind_one43 (w : World) : Calls Tryz.prog 68 #[.int .i64 43] w fun e w' => e = .returned (.int .i64 4) ∧ w = w' := by
  go_enter Tryz.func68, Tryz.ntmps68
  go_wp2
  go_ret
  exact ⟨rfl, rfl⟩
theorem kind_one44 (w : World) : Calls Tryz.prog 68 #[.int .i64 44] w fun e w' => e = .returned (.int .i64 4) ∧ w = w' := by
  go_enter Tryz.func68, Tryz.ntmps68
  go_wp2
  go_ret
  exact ⟨rfl, rfl⟩
theorem kind_one45 (w : World) : Calls Tryz.prog 68 #[.int .i64 45] w fun e w' => e = .returned (.int .i64 4) ∧ w = w' := by
  go_enter Tryz.func68, Tryz.ntmps68
  go_wp2
  go_ret
  exact ⟨rfl, rfl⟩
theorem kind_one47 (w : World) : Calls Tryz.prog 68 #[.int .i64 47] w fun e w' => e = .returned (.int .i64 4) ∧ w = w' := by
  go_enter Tryz.func68, Tryz.ntmps68
  go_wp2
  go_ret
  exact ⟨rfl, rfl⟩
theorem kind_one59 (w : World) : Calls Tryz.prog 68 #[.int .i64 59] w fun e w' => e = .returned (.int .i64 4) ∧ w = w' := by
  go_enter Tryz.func68, Tryz.ntmps68
  go_wp2
  go_ret
  exact ⟨rfl, rfl⟩
theorem kind_one61 (w : World) : Calls Tryz.prog 68 #[.int .i64 61] w fun e w' => e = .returned (.int .i64 4) ∧ w = w' := by
  go_enter Tryz.func68, Tryz.ntmps68
  go_wp2
  go_ret
  exact ⟨rfl, rfl⟩
theorem kind_one94 (w : World) : Calls Tryz.prog 68 #[.int .i64 94] w fun e w' => e = .returned (.int .i64 4) ∧ w = w' := by
  go_enter Tryz.func68, Tryz.ntmps68
  go_wp2
  go_ret
  exact ⟨rfl, rfl⟩
theorem kind_one95 (w : World) : Calls Tryz.prog 68 #[.int .i64 95] w fun e w' => e = .returned (.int .i64 1) ∧ w = w' := by
  go_enter Tryz.func68, Tryz.ntmps68
  go_wp2
  go_ret
  exact ⟨rfl, rfl⟩
theorem kind_one65533 (w : World) : Calls Tryz.prog 68 #[.int .i64 65533] w fun e w' => e = .returned (.int .i64 0) ∧ w = w' := by
  go_enter Tryz.func68, Tryz.ntmps68
  go_wp2
  go_ret
  exact ⟨rfl, rfl⟩
theorem kind_ways (r : Int) : (r ≤ 8) ∨ (r = 9) ∨ (r = 10) ∨ (11 ≤ r ∧ r ≤ 12) ∨ (r = 13) ∨ (14 ≤ r ∧ r ≤ 31) ∨ (r = 32) ∨ (33 ≤ r ∧ r ≤ 39) ∨ (r = 40) ∨ (r = 41) ∨ (r = 42) ∨ (r = 43) ∨ (r = 44) ∨ (r = 45) ∨ (46 ≤ r ∧ r ≤ 46) ∨ (r = 47) ∨ (48 ≤ r ∧ r ≤ 57) ∨ (58 ≤ r ∧ r ≤ 58) ∨ (r = 59) ∨ (60 ≤ r ∧ r ≤ 60) ∨ (r = 61) ∨ (62 ≤ r ∧ r ≤ 64) ∨ (65 ≤ r ∧ r ≤ 90) ∨ (91 ≤ r ∧ r ≤ 93) ∨ (r = 94) ∨ (r = 95) ∨ (96 ≤ r ∧ r ≤ 96) ∨ (97 ≤ r ∧ r ≤ 122) ∨ (123 ≤ r ∧ r ≤ 127) ∨ (128 ≤ r ∧ r ≤ 65532) ∨ (r = 65533) ∨ (65534 ≤ r ∧ r ≤ 1114111) ∨ (1114112 ≤ r) := by omega
set_option maxHeartbeats 1000000 in
theorem ref_skind (r : Int) (k : Int) (hk : kindI r = k) (w : World) : Calls Tryz.prog 68 #[.int .i64 r] w fun e w' => e = .returned (.int .i64 k) ∧ w = w' := by
  subst hk
  rcases kind_ways r with h0 | rfl | rfl | ⟨h0, h1⟩ | rfl | ⟨h0, h1⟩ | rfl | ⟨h0, h1⟩ | rfl | rfl | rfl | rfl | rfl | rfl | ⟨h0, h1⟩ | rfl | ⟨h0, h1⟩ | ⟨h0, h1⟩ | rfl | ⟨h0, h1⟩ | rfl | ⟨h0, h1⟩ | ⟨h0, h1⟩ | ⟨h0, h1⟩ | rfl | rfl | ⟨h0, h1⟩ | ⟨h0, h1⟩ | ⟨h0, h1⟩ | ⟨h0, h1⟩ | rfl | ⟨h0, h1⟩ | h0
  · rw [show kindI r = 0 from by unfold kindI; (repeat' split) <;> omega]; exact kind_iv0 r h0 w
  · rw [show kindI 9 = 3 from by decide]; exact kind_one9 w
  · rw [show kindI 10 = 3 from by decide]; exact kind_one10 w
  · rw [show kindI r = 0 from by unfold kindI; (repeat' split) <;> omega]; exact kind_iv1 r h0 h1 w
  · rw [show kindI 13 = 3 from by decide]; exact kind_one13 w
  · rw [show kindI r = 0 from by unfold kindI; (repeat' split) <;> omega]; exact kind_iv2 r h0 h1 w
  · rw [show kindI 32 = 3 from by decide]; exact kind_one32 w
  · rw [show kindI r = 0 from by unfold kindI; (repeat' split) <;> omega]; exact kind_iv3 r h0 h1 w
  · rw [show kindI 40 = 4 from by decide]; exact kind_one40 w
  · rw [show kindI 41 = 4 from by decide]; exact kind_one41 w
  · rw [show kindI 42 = 4 from by decide]; exact kind_one42 w
  · rw [show kindI 43 = 4 from by decide]; exact kind_one43 w
  · rw [show kindI 44 = 4 from by decide]; exact kind_one44 w
  · rw [show kindI 45 = 4 from by decide]; exact kind_one45 w
  · rw [show kindI r = 0 from by unfold kindI; (repeat' split) <;> omega]; exact kind_iv4 r h0 h1 w
  · rw [show kindI 47 = 4 from by decide]; exact kind_one47 w
  · rw [show kindI r = 2 from by unfold kindI; (repeat' split) <;> omega]; exact kind_iv5 r h0 h1 w
  · rw [show kindI r = 0 from by unfold kindI; (repeat' split) <;> omega]; exact kind_iv6 r h0 h1 w
  · rw [show kindI 59 = 4 from by decide]; exact kind_one59 w
  · rw [show kindI r = 0 from by unfold kindI; (repeat' split) <;> omega]; exact kind_iv7 r h0 h1 w
  · rw [show kindI 61 = 4 from by decide]; exact kind_one61 w
  · rw [show kindI r = 0 from by unfold kindI; (repeat' split) <;> omega]; exact kind_iv8 r h0 h1 w
  · rw [show kindI r = 1 from by unfold kindI; (repeat' split) <;> omega]; exact kind_iv9 r h0 h1 w
  · rw [show kindI r = 0 from by unfold kindI; (repeat' split) <;> omega]; exact kind_iv10 r h0 h1 w
  · rw [show kindI 94 = 4 from by decide]; exact kind_one94 w
  · rw [show kindI 95 = 1 from by decide]; exact kind_one95 w
  · rw [show kindI r = 0 from by unfold kindI; (repeat' split) <;> omega]; exact kind_iv11 r h0 h1 w
  · rw [show kindI r = 1 from by unfold kindI; (repeat' split) <;> omega]; exact kind_iv12 r h0 h1 w
  · rw [show kindI r = 0 from by unfold kindI; (repeat' split) <;> omega]; exact kind_iv13 r h0 h1 w
  · rw [show kindI r = 1 from by unfold kindI; (repeat' split) <;> omega]; exact kind_iv14 r h0 h1 w
  · rw [show kindI 65533 = 0 from by decide]; exact kind_one65533 w
  · rw [show kindI r = 1 from by unfold kindI; (repeat' split) <;> omega]; exact kind_iv15 r h0 h1 w
  · rw [show kindI r = 0 from by unfold kindI; (repeat' split) <;> omega]; exact kind_iv16 r h0 w
end Go.Proofs.YtbcfplaalepnbaaGreatDoor
namespace Go.Proofs.YtbcfplaalepnbaaGreatDoor
open Go.RowKit Go.Lib
set_option maxHeartbeats 4000000 in
theorem ref_sname {s : ByteArray} (hs : s.size ≤ 1000000) (r : Bool) (hr : nameB s = r) (w : World) :
    Calls Tryz.prog 39 #[.string s] w fun e w' => e = .returned (.bool r) ∧ w = w' := by
  have KY := fun v => ref_skey s _ rfl v
  have NX := fun i (h : i < s.size) v => ref_snext hs i h v
  unfold nameB at hr
  rcases (by by_cases h1 : s.size < 1 <;> by_cases h2 : 40 < s.size <;> by_cases h3 : keyB s = true <;> simp [h1, h2, h3] : s.size < 1 ∨ (¬ s.size < 1 ∧ 40 < s.size) ∨ (¬ s.size < 1 ∧ ¬ 40 < s.size ∧ keyB s = true) ∨ (¬ s.size < 1 ∧ ¬ 40 < s.size ∧ keyB s = false)) with h | ⟨h, h2⟩ | ⟨h, h2, h3⟩ | ⟨h, h2, h3⟩
  · obtain rfl : r = false := by rw [← hr, decide_eq_false (by omega)]; rfl
    have k1 : (s.size : Int) < 1 := by omega
    clear hr hs NX
    go_enter Tryz.func39, Tryz.ntmps39
    go_wp2
    go_ret
    exact ⟨rfl, rfl⟩
  · obtain rfl : r = false := by rw [← hr, decide_eq_false (by omega)]; rfl
    have k1 : ¬ (s.size : Int) < 1 := by omega
    have k2 : 40 < (s.size : Int) := by omega
    clear hr hs NX
    go_enter Tryz.func39, Tryz.ntmps39
    go_wp2
    go_ret
    exact ⟨rfl, rfl⟩
  · obtain rfl : r = false := by rw [← hr, h3]; simp
    have k1 : ¬ (s.size : Int) < 1 := by omega
    have k2 : ¬ 40 < (s.size : Int) := by omega
    rw [h3] at KY
    clear hr hs NX h3
    go_enter Tryz.func39, Tryz.ntmps39
    go_wp2_with (go_at_call 67; (with_reducible refine Calls.mono (KY _) ?_); rintro e v1 ⟨rfl, rfl⟩)
    go_ret
    exact ⟨rfl, rfl⟩
  · have k1 : ¬ (s.size : Int) < 1 := by omega
    have k2 : ¬ 40 < (s.size : Int) := by omega
    have hF : nameF s (s.size + 1) 0 = r := by rw [← hr, h3, decide_eq_true (by omega : 1 ≤ s.size ∧ s.size ≤ 40)]; rfl
    have HF : Hid (nameF s (s.size + 1) 0 = r) := hF
    rw [h3] at KY
    clear hr h3 hF hs h h2
    go_enter Tryz.func39, Tryz.ntmps39
    go_wp2_with (go_at_call 67; (with_reducible refine Calls.mono (KY _) ?_); rintro e v1 ⟨rfl, rfl⟩)
    go_loopg [3] s.size (fun g s3 v => ∃ i : Nat, s3 = .int .i64 i ∧ i + g = s.size ∧ nameF s (s.size + 1) i = r ∧ w = v)
    case atStart => exact ⟨0, rfl, by omega, HF.out, rfl⟩
    case round =>
      obtain ⟨i, rfl, hg, hF, rfl⟩ := hrel
      clear HF KY
      have HF : Hid (nameF s (s.size + 1) i = r) := hF
      clear hF
      rcases Nat.lt_or_ge i s.size with hi | hi
      · have hi' : (i : Int) < s.size := by omega
        have N1 := fun v => NX i hi v
        have hz := next_size hi
        have HS : Hid (nameF s (s.size + 1) i = if (kindI (nextR s i) ≠ 1 ∧ kindI (nextR s i) ≠ 2) ∨ (kindI (nextR s i) = 2 ∧ i = 0) then false else nameF s (s.size + 1) (i + nextN s i)) := nameF_step hi
        have K1 := fun v => ref_skind (nextR s i) _ rfl v
        have hk := kindI_range (nextR s i)
        have hw : wrap64 ((i : Int) + nextN s i) = (i : Int) + nextN s i := by unfold wrap64; omega
        have HZ : Hid (1 ≤ nextN s i ∧ i + nextN s i ≤ s.size) := ⟨hz.1, hz.2.2⟩
        generalize kindI (nextR s i) = k at *
        generalize nextR s i = R at *
        generalize nextN s i = M at *
        clear hz NX
        rcases (by omega : ((k = 0 ∨ k = 3 ∨ k = 4) ∨ (k = 2 ∧ i = 0)) ∨ (k = 1 ∨ (k = 2 ∧ i ≠ 0))) with hA | hB
        · obtain rfl : r = false := by rw [← HF.out, HS.out, if_pos (by omega)]
          clear hk HS HF
          rcases hA with (rfl | rfl | rfl) | ⟨rfl, h0⟩
          all_goals
            (try (have e0 : ((i : Int) == 0) = true := by (rw [beq_iff_eq]; omega)); clear h0)
            go_wp2_with (first
              | (go_at_call 63; (with_reducible refine Calls.mono (N1 _) ?_); rintro e v1 ⟨rfl, rfl⟩)
              | (go_at_call 68; (with_reducible refine Calls.mono (K1 _) ?_); rintro e v2 ⟨rfl, rfl⟩))
            go_ret
            exact ⟨rfl, rfl⟩
        · have HR : Hid (nameF s (s.size + 1) (i + M) = r) := by show _ = _; rw [← HF.out, HS.out, if_neg (by omega)]
          clear hk HS HF
          rcases hB with rfl | ⟨rfl, h0⟩
          all_goals
            (try (have e0 : ((i : Int) == 0) = false := by (rw [beq_eq_false_iff_ne]; omega)); clear h0)
            go_wp2_with (first
              | (go_at_call 63; (with_reducible refine Calls.mono (N1 _) ?_); rintro e v1 ⟨rfl, rfl⟩)
              | (go_at_call 68; (with_reducible refine Calls.mono (K1 _) ?_); rintro e v2 ⟨rfl, rfl⟩))
            have hZ := HZ.out
            go_roundg (s.size - (i + M))
            case measure => omega
            case rel => exact ⟨i + M, by go_num, by omega, HR.out, rfl⟩
      · have hi' : ¬ (i : Int) < s.size := by omega
        obtain rfl : r = true := by rw [← HF.out, nameF_end (by omega)]
        clear NX HF
        go_wp2
        go_ret
        exact ⟨rfl, rfl⟩
end Go.Proofs.YtbcfplaalepnbaaGreatDoor
namespace Go.Proofs.YtbcfplaalepnbaaGreatDoor
open Go.RowKit Go.Lib
theorem placeF_step {s : ByteArray} {at_ : Int} {i : Nat} {l c : Int} (h : i < s.size) : placeF s at_ (s.size + 1) i l c = if at_ < i + nextN s i then (l, c) else placeF s at_ (s.size + 1) (i + nextN s i) (if nextR s i = 10 then l + 1 else l) (if nextR s i = 10 then 1 else c + 1) := by
  have hn := next_size h
  show (if i < s.size then _ else _) = _
  rw [if_pos h, placeF_more s at_ s.size (i + nextN s i) _ _ (by omega) (s.size + 1) (by omega)]
theorem placeF_end {s : ByteArray} {at_ : Int} {i : Nat} {l c : Int} (h : ¬ i < s.size) : placeF s at_ (s.size + 1) i l c = (l, c) := by
  show (if i < s.size then _ else _) = _
  rw [if_neg h]
set_option maxHeartbeats 8000000 in
theorem ref_splace {s : ByteArray} (hs : s.size ≤ 1000000) (j : Int) (w : World) :
    Calls Tryz.prog 32 #[.string s, .int .i64 j] w (AnsL w (placeI s j)) := by
  have NX := fun i (h : i < s.size) v => ref_snext hs i h v
  obtain ⟨B4, B5, bV, hb⟩ := boxes2 w #[.int .i64 0, .int .i64 0] #[.int .i64 1, .int .i64 1] 29 29
  have HS : Hid (s.size ≤ 1000000) := hs
  clear hs
  generalize hp : placeI s j = P
  have HP : Hid (placeF s j (s.size + 1) 0 1 1 = P) := hp
  clear hp
  go_enter Tryz.func32, Tryz.ntmps32
  go_wp2
  generalize (w.alloc (.cells #[.int .i64 0, .int .i64 0] 29)).alloc (.cells #[.int .i64 1, .int .i64 1] 29) = V at *
  go_loopg [6] s.size (fun g s6 v => ∃ (i : Nat) (l c : Int), s6 = .int .i64 i ∧ i + g = s.size ∧ 1 ≤ l ∧ l ≤ i + 1 ∧ 1 ≤ c ∧ c ≤ i + 1 ∧ placeF s j (s.size + 1) i l c = P ∧ BoxC v (w.heap.size + 1) #[.int .i64 l, .int .i64 c] 29 ∧ BoxC v w.heap.size #[.int .i64 0, .int .i64 0] 29 ∧ Below w.heap.size w v)
  case atStart => exact ⟨0, 1, 1, rfl, by omega, by omega, by omega, by omega, by omega, HP.out, B5, B4, bV⟩
  case round =>
    obtain ⟨i, l, c, rfl, hg, hl1, hl2, hc1, hc2, hF, B5, B4, bv⟩ := hrel
    clear HP
    have HF : Hid (placeF s j (s.size + 1) i l c = P) := hF
    clear hF
    obtain ⟨x0, x1, x2, x3⟩ := B5.cells2
    obtain ⟨y0, y1, y2, y3⟩ := B4.cells2
    rcases Nat.lt_or_ge i s.size with hi | hi
    · have hi' : (i : Int) < s.size := by omega
      have N1 := fun v => NX i hi v
      have hz := next_size hi
      have hS := HS.out
      have hT := placeF_step (at_ := j) (l := l) (c := c) hi
      rw [HF.out] at hT
      have hw : wrap64 ((i : Int) + nextN s i) = (i : Int) + nextN s i := by unfold wrap64; omega
      have wl : wrap64 (l + 1) = l + 1 := by unfold wrap64; omega
      have wc : wrap64 (c + 1) = c + 1 := by unfold wrap64; omega
      have HZ : Hid (1 ≤ nextN s i ∧ i + nextN s i ≤ s.size) := ⟨hz.1, hz.2.2⟩
      have HG : Hid (i + gk = s.size ∧ 1 ≤ l ∧ l ≤ i + 1 ∧ 1 ≤ c ∧ c ≤ i + 1) := ⟨hg, hl1, hl2, hc1, hc2⟩
      have HB : Hid (BoxC wr (w.heap.size + 1) #[.int .i64 l, .int .i64 c] 29 ∧ BoxC wr w.heap.size #[.int .i64 0, .int .i64 0] 29) := ⟨B5, B4⟩
      clear hg hl1 hl2 hc1 hc2 hS hz NX HF B5 B4
      generalize nextR s i = R at *
      generalize nextN s i = M at *
      by_cases hj : j < (i : Int) + M
      · rw [if_pos hj] at hT
        subst hT
        go_wp2_with (go_at_call 63; (with_reducible refine Calls.mono (N1 _) ?_); rintro e v1 ⟨rfl, rfl⟩)
        exact bodyPost_ret (v := .agg #[.int .i64 l, .int .i64 c]) (by simp [results, Tryz.results32, go_sem, y0, y1]) rfl ⟨rfl, (bv.setCell (p := ⟨w.heap.size, 0, none⟩) (Nat.le_refl _) _).setCell (p := ⟨w.heap.size, 1, none⟩) (Nat.le_refl _) _⟩
      · rw [if_neg hj] at hT
        have HT : Hid (P = placeF s j (s.size + 1) (i + M) (if R = 10 then l + 1 else l) (if R = 10 then 1 else c + 1)) := hT
        clear hT
        by_cases h10 : R = 10
        · have e10 : (R == 10) = true := by rw [beq_iff_eq]; exact h10
          have HT2 : Hid (placeF s j (s.size + 1) (i + M) (l + 1) 1 = P) := by show _ = _; rw [HT.out, if_pos h10, if_pos h10]
          clear HT h10
          go_wp2_with (go_at_call 63; (with_reducible refine Calls.mono (N1 _) ?_); rintro e v1 ⟨rfl, rfl⟩)
          have hZ := HZ.out
          have hG := HG.out
          go_roundg (s.size - (i + M))
          case measure => omega
          case rel => exact ⟨i + M, l + 1, 1, by go_num, by omega, by omega, by omega, by omega, by omega, HT2.out, ((HB.out.1.set 1 (.int .i64 (c + 1))).set 0 (.int .i64 (l + 1))).set 1 (.int .i64 1), ((HB.out.2.other (by omega) _).other (by omega) _).other (by omega) _, ((bv.setCell (p := ⟨w.heap.size + 1, 1, none⟩) (show w.heap.size ≤ w.heap.size + 1 by omega) _).setCell (p := ⟨w.heap.size + 1, 0, none⟩) (show w.heap.size ≤ w.heap.size + 1 by omega) _).setCell (p := ⟨w.heap.size + 1, 1, none⟩) (show w.heap.size ≤ w.heap.size + 1 by omega) _⟩
        · have e10 : (R == 10) = false := by rw [beq_eq_false_iff_ne]; exact h10
          have HT2 : Hid (placeF s j (s.size + 1) (i + M) l (c + 1) = P) := by show _ = _; rw [HT.out, if_neg h10, if_neg h10]
          clear HT h10
          go_wp2_with (go_at_call 63; (with_reducible refine Calls.mono (N1 _) ?_); rintro e v1 ⟨rfl, rfl⟩)
          have hZ := HZ.out
          have hG := HG.out
          go_roundg (s.size - (i + M))
          case measure => omega
          case rel => exact ⟨i + M, l, c + 1, by go_num, by omega, by omega, by omega, by omega, by omega, HT2.out, HB.out.1.set 1 (.int .i64 (c + 1)), HB.out.2.other (by omega) _, bv.setCell (p := ⟨w.heap.size + 1, 1, none⟩) (show w.heap.size ≤ w.heap.size + 1 by omega) _⟩
    · have hi' : ¬ (i : Int) < s.size := by omega
      have hT := placeF_end (s := s) (at_ := j) (l := l) (c := c) (Nat.not_lt.2 hi)
      rw [HF.out] at hT
      subst hT
      clear HF NX B5 B4
      go_wp2
      exact bodyPost_ret (v := .agg #[.int .i64 l, .int .i64 c]) (by simp [results, Tryz.results32, go_sem, y0, y1]) rfl ⟨rfl, (bv.setCell (p := ⟨w.heap.size, 0, none⟩) (Nat.le_refl _) _).setCell (p := ⟨w.heap.size, 1, none⟩) (Nat.le_refl _) _⟩
end Go.Proofs.YtbcfplaalepnbaaGreatDoor
namespace Go.Proofs.YtbcfplaalepnbaaGreatDoor
open Go.RowKit Go.Lib
set_option maxHeartbeats 4000000 in
theorem ref_lkind {s : ByteArray} (hs : s.size ≤ 1000000) (i : Nat) (j : Int) (hj : (i : Int) = j) (w : World) :
    Calls Tryz.prog 56 #[.string s, .int .i64 j] w fun e w' => e = .returned (.tuple #[.int .i64 (kindAt s i), .int .i64 (stepAt s i)]) ∧ w = w' := by
  subst hj
  unfold kindAt stepAt
  by_cases h : i < s.size
  · have N1 := fun v => ref_snext hs i h v
    have K1 := fun v => ref_skind (nextR s i) _ rfl v
    rw [if_pos h, if_pos h]
    have h1 : ¬ (s.size : Int) ≤ i := by omega
    generalize kindI (nextR s i) = k at *
    generalize nextR s i = R at *
    generalize nextN s i = M at *
    clear hs h
    go_enter Tryz.func56, Tryz.ntmps56
    go_wp2_with (first
      | (go_at_call 63; (with_reducible refine Calls.mono (N1 _) ?_); rintro e v1 ⟨rfl, rfl⟩)
      | (go_at_call 68; (with_reducible refine Calls.mono (K1 _) ?_); rintro e v2 ⟨rfl, rfl⟩))
    go_ret2
    exact ⟨rfl, rfl⟩
  · rw [if_neg h, if_neg h]
    have h1 : (s.size : Int) ≤ i := by omega
    clear hs h
    go_enter Tryz.func56, Tryz.ntmps56
    go_wp2
    go_ret2
    exact ⟨rfl, rfl⟩
set_option maxHeartbeats 4000000 in
theorem ref_ldigits {s : ByteArray} (hs : s.size ≤ 1000000) (i : Nat) (hi : i ≤ s.size) (j : Int) (hj : (i : Int) = j) (w : World) :
    Calls Tryz.prog 116 #[.string s, .int .i64 j] w fun e w' => e = .returned (.int .i64 (digEnd s i)) ∧ w = w' := by
  subst hj
  have KD := fun i j hj v => ref_lkind hs i j hj v
  have K0 := fun v => KD i i rfl v
  have HS : Hid (s.size ≤ 1000000) := hs
  generalize hE : digEnd s i = E
  have HE : Hid (digEnd s i = E) := hE
  clear hE
  have HI : Hid (i ≤ s.size) := hi
  clear hi hs
  go_enter Tryz.func116, Tryz.ntmps116
  go_wp2_with (go_at_call 56; (with_reducible refine Calls.mono (K0 _) ?_); rintro e v1 ⟨rfl, rfl⟩)
  go_loopg [1, 5] (s.size - i) (fun g s1 s5 v => ∃ (t : Nat) (k : Int), s1 = .int .i64 t ∧ s5 = .int .i64 k ∧ kindAt s t = k ∧ t ≤ s.size ∧ t + g = s.size ∧ digEnd s t = E ∧ w = v)
  case atStart => exact ⟨i, _, rfl, rfl, rfl, HI.out, by have := HI.out; omega, HE.out, rfl⟩
  case round =>
    obtain ⟨t, k, rfl, rfl, hk, ht, hg, hT, rfl⟩ := hrel
    clear K0 HE HI
    by_cases h2 : k = 2
    · subst h2
      have hd := (kindAt_digit.1 hk).1
      rw [digEnd_step hk] at hT
      have K1 := fun v => KD (t + 1) ((t : Int) + 1) (by omega) v
      have hS := HS.out
      have q1 : 0 ≤ (t : Int) + 1 := by omega
      have q2 : (t : Int) + 1 < 10000000 := by omega
      have HT : Hid (digEnd s (t + 1) = E) := hT
      have HG : Hid (t + gk = s.size ∧ t < s.size) := ⟨hg, hd⟩
      clear hT hk hS KD hg hd ht
      generalize hk1 : kindAt s (t + 1) = k1 at *
      have HK : Hid (kindAt s (t + 1) = k1) := hk1
      clear hk1
      have w1 : wrap64 ((t : Int) + 1) = (t : Int) + 1 := wrap_smalls q1 q2
      go_wp2_with (go_at_call 56; (with_reducible refine Calls.mono (K1 _) ?_); rintro e v1 ⟨rfl, rfl⟩)
      clear w1
      have hG := HG.out
      go_roundg (s.size - (t + 1))
      case measure => omega
      case rel => exact ⟨t + 1, k1, by go_num, rfl, HK.out, by omega, by omega, HT.out, rfl⟩
    · have e2 : (k == 2) = false := by rw [beq_eq_false_iff_ne]; exact h2
      rw [digEnd_here (by rw [hk]; exact h2)] at hT
      subst hT
      clear hk KD hg ht h2
      go_wp2
      go_ret
      exact ⟨rfl, rfl⟩
set_option maxHeartbeats 4000000 in
theorem ref_lword {s : ByteArray} (hs : s.size ≤ 1000000) (i : Nat) (hi : i ≤ s.size) (j : Int) (hj : (i : Int) = j) (w : World) :
    Calls Tryz.prog 87 #[.string s, .int .i64 j] w fun e w' => e = .returned (.int .i64 (wordEnd s i)) ∧ w = w' := by
  subst hj
  have KD := fun i j hj v => ref_lkind hs i j hj v
  have K0 := fun v => KD i i rfl v
  have HS : Hid (s.size ≤ 1000000) := hs
  generalize hE : wordEnd s i = E
  have HE : Hid (wordEnd s i = E) := hE
  clear hE
  have HI : Hid (i ≤ s.size) := hi
  clear hi hs
  go_enter Tryz.func87, Tryz.ntmps87
  go_wp2_with (go_at_call 56; (with_reducible refine Calls.mono (K0 _) ?_); rintro e v1 ⟨rfl, rfl⟩)
  go_loopg [1, 5, 6] (s.size - i) (fun g s1 s5 s6 v => ∃ (t : Nat) (k : Int) (m : Nat), s1 = .int .i64 t ∧ s5 = .int .i64 k ∧ s6 = .int .i64 m ∧ kindAt s t = k ∧ stepAt s t = m ∧ t ≤ s.size ∧ t + g = s.size ∧ wordEnd s t = E ∧ w = v)
  case atStart => exact ⟨i, _, _, rfl, rfl, rfl, rfl, rfl, HI.out, by have := HI.out; omega, HE.out, rfl⟩
  case round =>
    obtain ⟨t, k, m, rfl, rfl, rfl, hk, hm, ht, hg, hT, rfl⟩ := hrel
    clear K0 HE HI
    by_cases h2 : k = 1 ∨ k = 2
    · have hz := stepAt_size (kindAt_in (s := s) (i := t) (by omega))
      rw [wordEnd_step (by rw [hk]; exact h2), hm] at hT
      rw [hm] at hz
      have K1 := fun v => KD (t + m) ((t : Int) + m) (by omega) v
      have hS := HS.out
      have q1 : 0 ≤ (t : Int) + m := by omega
      have q2 : (t : Int) + m < 10000000 := by omega
      have HT : Hid (wordEnd s (t + m) = E) := hT
      have HG : Hid (t + gk = s.size ∧ 1 ≤ m ∧ t + m ≤ s.size) := ⟨hg, hz.1, hz.2.1⟩
      clear hT hk hm hS KD hg ht hz
      generalize hk1 : kindAt s (t + m) = k1 at *
      generalize hm1 : stepAt s (t + m) = m1 at *
      have HK : Hid (kindAt s (t + m) = k1 ∧ stepAt s (t + m) = m1) := ⟨hk1, hm1⟩
      clear hk1 hm1
      have w1 : wrap64 ((t : Int) + m) = (t : Int) + m := wrap_smalls q1 q2
      clear q1 q2
      rcases h2 with rfl | rfl
      all_goals
        go_wp2_with (go_at_call 56; (with_reducible refine Calls.mono (K1 _) ?_); rintro e v1 ⟨rfl, rfl⟩)
        clear w1
        have hG := HG.out
        go_roundg (s.size - (t + m))
        case measure => omega
        case rel => exact ⟨t + m, k1, m1, by go_num, rfl, rfl, HK.out.1, HK.out.2, by omega, by omega, HT.out, rfl⟩
    · have e1 : (k == 1) = false := by rw [beq_eq_false_iff_ne]; exact fun e => h2 (.inl e)
      have e2 : (k == 2) = false := by rw [beq_eq_false_iff_ne]; exact fun e => h2 (.inr e)
      rw [wordEnd_here (by rw [hk]; exact h2)] at hT
      subst hT
      clear hk hm KD hg ht h2
      go_wp2
      go_ret
      exact ⟨rfl, rfl⟩
set_option maxHeartbeats 4000000 in
theorem ref_lcut {s : ByteArray} (hs : s.size ≤ 1000000) (w : World) :
    Calls Tryz.prog 89 #[.string s] w fun e w' => e = .returned (.int .i64 (cutI s)) ∧ w = w' := by
  have HS : Hid (s.size ≤ 1000000) := hs
  generalize hE : cutI s = E
  have HE : Hid (cutF s (s.size + 1) 0 = E) := hE
  clear hE hs
  go_enter Tryz.func89, Tryz.ntmps89
  go_wp2
  go_loopg [3] s.size (fun g s3 v => ∃ t : Nat, s3 = .int .i64 t ∧ t + g = s.size ∧ cutF s (s.size + 1) t = E ∧ w = v)
  case atStart => exact ⟨0, rfl, by omega, HE.out, rfl⟩
  case round =>
    obtain ⟨t, rfl, hg, hT, rfl⟩ := hrel
    clear HE
    have hT' : (if t < s.size then (if bt s t = 124 then t else cutF s s.size (t + 1)) else t) = E := hT
    clear hT
    rcases Nat.lt_or_ge t s.size with h | h
    · have h1 : (t : Int) < s.size := by omega
      rw [if_pos h, bt_get h] at hT'
      by_cases h2 : s[t].toNat = 124
      · have e2 : ((s[t].toNat : Int) == 124) = true := by rw [beq_iff_eq]; omega
        rw [if_pos h2] at hT'
        subst hT'
        clear h2 hg
        go_wp2
        go_ret
        exact ⟨rfl, rfl⟩
      · have e2 : ((s[t].toNat : Int) == 124) = false := by rw [beq_eq_false_iff_ne]; omega
        rw [if_neg h2, cutF_more s s.size (t + 1) (by omega) (s.size + 1) (by omega)] at hT'
        have HT : Hid (cutF s (s.size + 1) (t + 1) = E) := hT'
        have hS := HS.out
        have q1 : 0 ≤ (t : Int) + 1 := by omega
        have q2 : (t : Int) + 1 < 10000000 := by omega
        have HG : Hid (t + gk = s.size ∧ t < s.size) := ⟨hg, h⟩
        clear hT' h2 hS hg
        have w1 : wrap64 ((t : Int) + 1) = (t : Int) + 1 := wrap_smalls q1 q2
        go_wp2
        clear w1
        have hG := HG.out
        go_roundg (s.size - (t + 1))
        case measure => omega
        case rel => exact ⟨t + 1, by go_num, by omega, HT.out, rfl⟩
    · have h1 : ¬ (t : Int) < s.size := by omega
      rw [if_neg (Nat.not_lt.2 h)] at hT'
      obtain rfl : t = s.size := by omega
      subst hT'
      clear hg
      go_wp2
      go_ret
      exact ⟨rfl, rfl⟩
end Go.Proofs.YtbcfplaalepnbaaGreatDoor
namespace Go.Proofs.YtbcfplaalepnbaaGreatDoor
open Go.RowKit Go.Lib
set_option maxHeartbeats 4000000 in
theorem ref_lpart {s : ByteArray} (hs : s.size ≤ 1000000) (r : Bool) (hr : partB s = r) (w : World) :
    Calls Tryz.prog 117 #[.string s] w fun e w' => e = .returned (.bool r) ∧ w = w' := by
  have D0 := fun v => ref_ldigits hs 0 (Nat.zero_le _) 0 rfl v
  unfold partB at hr
  rcases (by omega : s.size < 1 ∨ 40 < s.size ∨ (1 ≤ s.size ∧ s.size ≤ 40)) with h | h | ⟨h, h2⟩
  · have k1 : ¬ (1 : Int) ≤ s.size := by omega
    obtain rfl : r = false := by rw [← hr, decide_eq_false (by omega)]; rfl
    clear hr hs D0
    go_enter Tryz.func117, Tryz.ntmps117
    go_wp2
    go_ret
    exact ⟨rfl, rfl⟩
  · have k1 : (1 : Int) ≤ s.size := by omega
    have k2 : ¬ (s.size : Int) ≤ 40 := by omega
    obtain rfl : r = false := by rw [← hr, decide_eq_false (by omega)]; rfl
    clear hr hs D0
    go_enter Tryz.func117, Tryz.ntmps117
    go_wp2
    go_ret
    exact ⟨rfl, rfl⟩
  · have k1 : (1 : Int) ≤ s.size := by omega
    have k2 : (s.size : Int) ≤ 40 := by omega
    rw [decide_eq_true ⟨h, h2⟩, Bool.true_and] at hr
    by_cases hd : digEnd s 0 = s.size
    · rw [decide_eq_true hd, Bool.true_and] at hr
      rw [hd] at D0
      by_cases h1 : s.size = 1
      · have e1 : ((s.size : Int) == 1) = true := by rw [beq_iff_eq]; omega
        obtain rfl : r = true := by rw [← hr, decide_eq_true h1]; rfl
        clear hr hs hd h1
        go_enter Tryz.func117, Tryz.ntmps117
        go_wp2_with (go_at_call 116; (with_reducible refine Calls.mono (D0 _) ?_); rintro e v1 ⟨rfl, rfl⟩)
        go_ret
        exact ⟨by simp, rfl⟩
      · have e1 : ((s.size : Int) == 1) = false := by rw [beq_eq_false_iff_ne]; omega
        have h0 : 0 < s.size := by omega
        have h0' : (0 : Int) < s.size := by omega
        have e2 : ((s[0].toNat : Int) != 48) = r := by
          rw [← hr, decide_eq_false h1, Bool.false_or, bt_get h0, Bool.eq_iff_iff, bne_iff_ne, decide_eq_true_eq]
          omega
        clear hr hs hd h1
        go_enter Tryz.func117, Tryz.ntmps117
        go_wp2_with (go_at_call 116; (with_reducible refine Calls.mono (D0 _) ?_); rintro e v1 ⟨rfl, rfl⟩)
        go_ret
        exact ⟨by simp, rfl⟩
    · obtain rfl : r = false := by rw [← hr, decide_eq_false hd]; rfl
      have e1 : ((digEnd s 0 : Int) == s.size) = false := by rw [beq_eq_false_iff_ne]; omega
      clear hr hs
      generalize digEnd s 0 = E at *
      clear hd
      go_enter Tryz.func117, Tryz.ntmps117
      go_wp2_with (go_at_call 116; (with_reducible refine Calls.mono (D0 _) ?_); rintro e v1 ⟨rfl, rfl⟩)
      go_ret
      exact ⟨rfl, rfl⟩
set_option maxHeartbeats 4000000 in
theorem ref_lNumber {s : ByteArray} (hs : s.size ≤ 1000000) (r : Bool) (hr : numB s = r) (w : World) :
    Calls Tryz.prog 90 #[.string s] w fun e w' => e = .returned (.bool r) ∧ w = w' := by
  have C0 := fun v => ref_lcut hs v
  have hc := cutI_le s
  unfold numB at hr
  by_cases h : cutI s = s.size
  · rw [if_pos h] at hr
    rw [h] at C0
    have P0 := fun v => ref_lpart hs r hr v
    clear hr hs hc h
    go_enter Tryz.func90, Tryz.ntmps90
    go_wp2_with (first
      | (go_at_call 89; (with_reducible refine Calls.mono (C0 _) ?_); rintro e v1 ⟨rfl, rfl⟩)
      | (go_at_call 117; (with_reducible refine Calls.mono (P0 _) ?_); rintro e v2 ⟨rfl, rfl⟩))
    go_ret
    exact ⟨rfl, rfl⟩
  · rw [if_neg h] at hr
    generalize cutI s = A at *
    have P1 := fun v => ref_lpart (s := s.extract 0 A) (by rw [ByteArray.size_extract]; omega) _ rfl v
    have P2 := fun v => ref_lpart (s := s.extract (A + 1) s.size) (by rw [ByteArray.size_extract]; omega) _ rfl v
    have q1 : 0 ≤ (A : Int) + 1 := by omega
    have q2 : (A : Int) + 1 < 10000000 := by omega
    have e1 : ((A : Int) == s.size) = false := by rw [beq_eq_false_iff_ne]; omega
    have a1 : (A : Int) ≤ s.size := by omega
    have a2 : (A : Int) + 1 ≤ s.size := by omega
    generalize partB (s.extract 0 A) = p1 at *
    generalize partB (s.extract (A + 1) s.size) = p2 at *
    generalize hq : ((s.extract (A + 1) s.size).toList == [48]) = p3 at *
    clear hs hc h
    have w1 : wrap64 ((A : Int) + 1) = (A : Int) + 1 := wrap_smalls q1 q2
    clear q1 q2
    cases p1 <;> cases p2
    all_goals
      simp only [Bool.true_and, Bool.false_and] at hr
      subst hr
      go_enter Tryz.func90, Tryz.ntmps90
      go_wp2_with (first
        | (go_at_call 89; (with_reducible refine Calls.mono (C0 _) ?_); rintro e v1 ⟨rfl, rfl⟩)
        | (go_at_call 117; (with_reducible refine Calls.mono (P1 _) ?_); rintro e v2 ⟨rfl, rfl⟩)
        | (go_at_call 117; (with_reducible refine Calls.mono (P2 _) ?_); rintro e v3 ⟨rfl, rfl⟩))
      go_ret
      exact ⟨rfl, rfl⟩
set_option maxHeartbeats 4000000 in
theorem ref_lnumber {s : ByteArray} (hs : s.size ≤ 1000000) (i : Nat) (hi : i ≤ s.size) (j : Int) (hj : (i : Int) = j) (w : World) :
    Calls Tryz.prog 88 #[.string s, .int .i64 j] w fun e w' => e = .returned (.int .i64 (numEnd s i)) ∧ w = w' := by
  subst hj
  have D0 := fun v => ref_ldigits hs i hi i rfl v
  have hE := (digEnd_range s i).2 hi
  unfold numEnd
  generalize digEnd s i = E at *
  by_cases h : E < s.size ∧ bt s E = 124
  · obtain ⟨h1, h2⟩ := h
    rw [bt_get h1] at h2 ⊢
    have D1 := fun v => ref_ldigits hs (E + 1) (by omega) ((E : Int) + 1) (by omega) v
    have k1 : (E : Int) < s.size := by omega
    have e2 : ((s[E].toNat : Int) == 124) = true := by rw [beq_iff_eq]; omega
    have q1 : 0 ≤ (E : Int) + 1 := by omega
    have q2 : (E : Int) + 1 < 10000000 := by omega
    generalize digEnd s (E + 1) = G at *
    by_cases h3 : E + 1 < G
    · rw [if_pos ⟨h1, h2, h3⟩]
      have k3 : (E : Int) + 1 < G := by omega
      clear hs hi hE h2 h3
      have w1 : wrap64 ((E : Int) + 1) = (E : Int) + 1 := wrap_smalls q1 q2
      clear q1 q2
      go_enter Tryz.func88, Tryz.ntmps88
      go_wp2_with (first
        | (go_at_call 116; (with_reducible refine Calls.mono (D0 _) ?_); rintro e v1 ⟨rfl, rfl⟩)
        | (go_at_call 116; (with_reducible refine Calls.mono (D1 _) ?_); rintro e v2 ⟨rfl, rfl⟩))
      go_ret
      exact ⟨rfl, rfl⟩
    · rw [if_neg (fun e => h3 e.2.2)]
      have k3 : ¬ (E : Int) + 1 < G := by omega
      clear hs hi hE h2 h3
      have w1 : wrap64 ((E : Int) + 1) = (E : Int) + 1 := wrap_smalls q1 q2
      clear q1 q2
      go_enter Tryz.func88, Tryz.ntmps88
      go_wp2_with (first
        | (go_at_call 116; (with_reducible refine Calls.mono (D0 _) ?_); rintro e v1 ⟨rfl, rfl⟩)
        | (go_at_call 116; (with_reducible refine Calls.mono (D1 _) ?_); rintro e v2 ⟨rfl, rfl⟩))
      go_ret
      exact ⟨rfl, rfl⟩
  · rw [if_neg (fun e => h ⟨e.1, e.2.1⟩)]
    by_cases h1 : E < s.size
    · have k1 : (E : Int) < s.size := by omega
      rw [bt_get h1] at h
      have e2 : ((s[E].toNat : Int) == 124) = false := by rw [beq_eq_false_iff_ne]; omega
      clear hs hi hE h
      go_enter Tryz.func88, Tryz.ntmps88
      go_wp2_with (go_at_call 116; (with_reducible refine Calls.mono (D0 _) ?_); rintro e v1 ⟨rfl, rfl⟩)
      go_ret
      exact ⟨rfl, rfl⟩
    · have k1 : ¬ (E : Int) < s.size := by omega
      clear hs hi hE h h1
      go_enter Tryz.func88, Tryz.ntmps88
      go_wp2_with (go_at_call 116; (with_reducible refine Calls.mono (D0 _) ?_); rintro e v1 ⟨rfl, rfl⟩)
      go_ret
      exact ⟨rfl, rfl⟩
end Go.Proofs.YtbcfplaalepnbaaGreatDoor
namespace Go.Proofs.YtbcfplaalepnbaaGreatDoor
open Go.RowKit Go.Lib
def AnsK (W : World) (p : Int × ByteArray × Nat × Int) (e : Ending) (w' : World) : Prop :=
  e = .returned (.tuple #[.agg #[.int .i64 p.1, .string p.2.1, .int .i64 0, .int .i64 0], .int .i64 (p.2.2.1 : Int), .int .i64 p.2.2.2]) ∧ Below W.heap.size W w'
set_option maxHeartbeats 8000000 in
theorem ref_ltoken {s : ByteArray} (hs : s.size ≤ 1000000) (i : Nat) (hi : i ≤ s.size) (w : World) :
    Calls Tryz.prog 57 #[.string s, .int .i64 i] w (AnsK w (tokenI s i)) := by
  have K0 := fun v => ref_lkind hs i i rfl v
  have W0 := fun v => ref_lword hs i hi i rfl v
  have N0 := fun v => ref_lnumber hs i hi i rfl v
  have hw := wordEnd_range s i
  have hn := numEnd_range hi
  have hw2 := hw.2 hi
  have hz : kindAt s i = 4 → 1 ≤ stepAt s i ∧ i + stepAt s i ≤ s.size := fun h => by have := stepAt_size (kindAt_in (s := s) (i := i) (by omega)); omega
  have hk := kindAt_range s i
  have i0 : ¬ (i : Int) < 0 := by omega
  have bA := fun o => (Below.refl _ w).alloc (Nat.le_refl _) o
  unfold tokenI
  generalize kindAt s i = k at *
  generalize stepAt s i = M at *
  generalize wordEnd s i = E at *
  generalize numEnd s i = G at *
  rcases (by omega : k = 1 ∨ k = 2 ∨ k = 4 ∨ (k = -1 ∨ k = 0 ∨ k = 3)) with rfl | rfl | rfl | hk4
  · rw [if_pos rfl]
    have q1 : (i : Int) ≤ E := by omega
    have q2 : (E : Int) ≤ s.size := by omega
    have q3 : 0 ≤ (E : Int) - i := by omega
    have q4 : (E : Int) - i < 10000000 := by omega
    by_cases h : i + 40 < E
    · rw [if_pos h]
      have k1 : 40 < (E : Int) - i := by omega
      clear hs hi hw hn hw2 hz hk h N0
      have w1 : wrap64 ((E : Int) - i) = (E : Int) - i := wrap_smalls q3 q4
      clear q3 q4
      go_enter Tryz.func57, Tryz.ntmps57
      go_wp2_with (first
        | (go_at_call 56; (with_reducible refine Calls.mono (K0 _) ?_); rintro e v1 ⟨rfl, rfl⟩)
        | (go_at_call 87; (with_reducible refine Calls.mono (W0 _) ?_); rintro e v2 ⟨rfl, rfl⟩))
      exact bodyPost_ret (v := .tuple #[.agg #[.int .i64 0, .string ⟨#[]⟩, .int .i64 0, .int .i64 0], .int .i64 E, .int .i64 4]) (by simp [results, Tryz.results57, go_sem]) rfl ⟨rfl, bA _⟩
    · rw [if_neg h]
      have k1 : ¬ 40 < (E : Int) - i := by omega
      clear hs hi hw hn hw2 hz hk h N0
      have w1 : wrap64 ((E : Int) - i) = (E : Int) - i := wrap_smalls q3 q4
      clear q3 q4
      go_enter Tryz.func57, Tryz.ntmps57
      go_wp2_with (first
        | (go_at_call 56; (with_reducible refine Calls.mono (K0 _) ?_); rintro e v1 ⟨rfl, rfl⟩)
        | (go_at_call 87; (with_reducible refine Calls.mono (W0 _) ?_); rintro e v2 ⟨rfl, rfl⟩))
      exact bodyPost_ret (v := .tuple #[.agg #[.int .i64 0, .string (s.extract i E), .int .i64 0, .int .i64 0], .int .i64 E, .int .i64 0]) (by simp [results, Tryz.results57, go_sem]) rfl ⟨rfl, bA _⟩
  · rw [if_neg (by omega), if_pos rfl]
    have hsz : (s.extract i G).size = G - i := by rw [ByteArray.size_extract]; omega
    have C0 := fun v => ref_lcut (s := s.extract i G) (by omega) v
    have Q0 := fun v => ref_lNumber (s := s.extract i G) (by omega) _ rfl v
    have hc := cutI_le (s.extract i G)
    have q1 : (i : Int) ≤ G := by omega
    have q2 : (G : Int) ≤ s.size := by omega
    generalize hx : s.extract i G = t at *
    generalize cutI t = A at *
    generalize hnb : numB t = nb at *
    have q3 : 0 ≤ (t.size : Int) - A := by omega
    have q4 : (t.size : Int) - A < 10000000 := by omega
    rcases (by omega : 40 < A ∨ (¬ 40 < A ∧ A + 41 < t.size) ∨ (¬ 40 < A ∧ ¬ A + 41 < t.size)) with h | ⟨h, h2⟩ | ⟨h, h2⟩
    · rw [if_pos (.inl h)]
      have k1 : 40 < (A : Int) := by omega
      clear hs hi hw hn hw2 hz hk h W0 hsz hc q3 q4 hnb
      go_enter Tryz.func57, Tryz.ntmps57
      go_wp2_with (first
        | (go_at_call 56; (with_reducible refine Calls.mono (K0 _) ?_); rintro e v1 ⟨rfl, rfl⟩)
        | (go_at_call 88; (with_reducible refine Calls.mono (N0 _) ?_); rintro e v2 ⟨rfl, rfl⟩)
        | (go_at_call 89; (with_reducible refine Calls.mono (C0 _) ?_); rintro e v3 ⟨rfl, rfl⟩)
        | (go_at_call 90; (with_reducible refine Calls.mono (Q0 _) ?_); rintro e v4 ⟨rfl, rfl⟩))
      exact bodyPost_ret (v := .tuple #[.agg #[.int .i64 0, .string ⟨#[]⟩, .int .i64 0, .int .i64 0], .int .i64 G, .int .i64 4]) (by simp [results, Tryz.results57, go_sem]) rfl ⟨rfl, bA _⟩
    · rw [if_pos (.inr h2)]
      have k1 : ¬ 40 < (A : Int) := by omega
      have k2 : 41 < (t.size : Int) - A := by omega
      clear hs hi hw hn hw2 hz hk h h2 W0 hsz hc hnb
      have w1 : wrap64 ((t.size : Int) - A) = (t.size : Int) - A := wrap_smalls q3 q4
      clear q3 q4
      go_enter Tryz.func57, Tryz.ntmps57
      go_wp2_with (first
        | (go_at_call 56; (with_reducible refine Calls.mono (K0 _) ?_); rintro e v1 ⟨rfl, rfl⟩)
        | (go_at_call 88; (with_reducible refine Calls.mono (N0 _) ?_); rintro e v2 ⟨rfl, rfl⟩)
        | (go_at_call 89; (with_reducible refine Calls.mono (C0 _) ?_); rintro e v3 ⟨rfl, rfl⟩)
        | (go_at_call 90; (with_reducible refine Calls.mono (Q0 _) ?_); rintro e v4 ⟨rfl, rfl⟩))
      exact bodyPost_ret (v := .tuple #[.agg #[.int .i64 0, .string ⟨#[]⟩, .int .i64 0, .int .i64 0], .int .i64 G, .int .i64 4]) (by simp [results, Tryz.results57, go_sem]) rfl ⟨rfl, bA _⟩
    · rw [if_neg (by omega)]
      have k1 : ¬ 40 < (A : Int) := by omega
      have k2 : ¬ 41 < (t.size : Int) - A := by omega
      clear hs hi hw hn hw2 hz hk h h2 W0 hsz hc hnb
      have w1 : wrap64 ((t.size : Int) - A) = (t.size : Int) - A := wrap_smalls q3 q4
      clear q3 q4
      cases nb
      · rw [if_neg (by simp)]
        go_enter Tryz.func57, Tryz.ntmps57
        go_wp2_with (first
          | (go_at_call 56; (with_reducible refine Calls.mono (K0 _) ?_); rintro e v1 ⟨rfl, rfl⟩)
          | (go_at_call 88; (with_reducible refine Calls.mono (N0 _) ?_); rintro e v2 ⟨rfl, rfl⟩)
          | (go_at_call 89; (with_reducible refine Calls.mono (C0 _) ?_); rintro e v3 ⟨rfl, rfl⟩)
          | (go_at_call 90; (with_reducible refine Calls.mono (Q0 _) ?_); rintro e v4 ⟨rfl, rfl⟩))
        exact bodyPost_ret (v := .tuple #[.agg #[.int .i64 0, .string ⟨#[]⟩, .int .i64 0, .int .i64 0], .int .i64 G, .int .i64 5]) (by simp [results, Tryz.results57, go_sem]) rfl ⟨rfl, bA _⟩
      · rw [if_pos rfl]
        go_enter Tryz.func57, Tryz.ntmps57
        go_wp2_with (first
          | (go_at_call 56; (with_reducible refine Calls.mono (K0 _) ?_); rintro e v1 ⟨rfl, rfl⟩)
          | (go_at_call 88; (with_reducible refine Calls.mono (N0 _) ?_); rintro e v2 ⟨rfl, rfl⟩)
          | (go_at_call 89; (with_reducible refine Calls.mono (C0 _) ?_); rintro e v3 ⟨rfl, rfl⟩)
          | (go_at_call 90; (with_reducible refine Calls.mono (Q0 _) ?_); rintro e v4 ⟨rfl, rfl⟩))
        exact bodyPost_ret (v := .tuple #[.agg #[.int .i64 1, .string t, .int .i64 0, .int .i64 0], .int .i64 G, .int .i64 0]) (by simp [results, Tryz.results57, go_sem]) rfl ⟨rfl, bA _⟩
  · rw [if_neg (by omega), if_neg (by omega), if_pos rfl]
    obtain ⟨z1, z2⟩ := hz rfl
    have q1 : (i : Int) ≤ (i : Int) + M := by omega
    have q2 : (i : Int) + M ≤ s.size := by omega
    have q3 : 0 ≤ (i : Int) + M := by omega
    have q4 : (i : Int) + M < 10000000 := by omega
    clear hs hi hw hn hw2 hz hk W0 N0 z1 z2
    have w1 : wrap64 ((i : Int) + M) = (i : Int) + M := wrap_smalls q3 q4
    clear q4
    go_enter Tryz.func57, Tryz.ntmps57
    go_wp2_with (go_at_call 56; (with_reducible refine Calls.mono (K0 _) ?_); rintro e v1 ⟨rfl, rfl⟩)
    exact bodyPost_ret (v := .tuple #[.agg #[.int .i64 2, .string (s.extract i (i + M)), .int .i64 0, .int .i64 0], .int .i64 ((i : Int) + M), .int .i64 0]) (by simp [results, Tryz.results57, go_sem, w1]) rfl ⟨rfl, bA _⟩
  · rw [if_neg (by omega), if_neg (by omega), if_neg (by omega)]
    clear hs hi hw hn hw2 hz hk W0 N0
    rcases hk4 with rfl | rfl | rfl
    all_goals
      go_enter Tryz.func57, Tryz.ntmps57
      go_wp2_with (go_at_call 56; (with_reducible refine Calls.mono (K0 _) ?_); rintro e v1 ⟨rfl, rfl⟩)
      exact bodyPost_ret (v := .tuple #[.agg #[.int .i64 0, .string ⟨#[]⟩, .int .i64 0, .int .i64 0], .int .i64 i, .int .i64 5]) (by simp [results, Tryz.results57, go_sem]) rfl ⟨rfl, bA _⟩
end Go.Proofs.YtbcfplaalepnbaaGreatDoor
namespace Go.Proofs.YtbcfplaalepnbaaGreatDoor
open Go.RowKit Go.Lib
theorem tok_new (w : World) (k : Nat) (x y : Value) (cs : Array Value) (T : TypeId) : BoxC (((w.setCell ⟨k, 2, none⟩ x).setCell ⟨k, 3, none⟩ y).alloc (.cells cs T)) w.heap.size cs T := by
  have := BoxC.new ((w.setCell ⟨k, 2, none⟩ x).setCell ⟨k, 3, none⟩ y) cs T
  have e : ((w.setCell ⟨k, 2, none⟩ x).setCell ⟨k, 3, none⟩ y).heap.size = w.heap.size := by simp
  rwa [e] at this
theorem BoxC.cells4 {v : World} {k : Nat} {a b c d : Value} {T : TypeId} (h : BoxC v k #[a, b, c, d] T) : v.cell? ⟨k, 0, none⟩ = some a ∧ v.cell? ⟨k, 1, none⟩ = some b ∧ v.cell? ⟨k, 2, none⟩ = some c ∧ v.cell? ⟨k, 3, none⟩ = some d ∧ v.frozen? ⟨k, 2, none⟩ = false ∧ v.frozen? ⟨k, 3, none⟩ = false :=
  ⟨(h.cell 0).1, (h.cell 1).1, (h.cell 2).1, (h.cell 3).1, (h.cell 2).2, (h.cell 3).2⟩
set_option maxRecDepth 100000 in
set_option maxHeartbeats 20000000 in
theorem ref_llex {s : ByteArray} (hs : s.size ≤ 1000000) (w : World) : Calls Tryz.prog 30 #[.string s] w (AnsX w (lexI s)) := by
  obtain ⟨B3, bV, hb⟩ := boxes1 w #[.int .i64 0, .int .i64 0] 29
  unfold lexI
  by_cases h6 : 60000 < s.size
  · rw [if_pos h6]
    have k6 : 60000 < (s.size : Int) := by omega
    clear hs h6
    go_enter Tryz.func30, Tryz.ntmps30
    go_wp2
    exact bodyPost_ret (v := .tuple #[.slice none 0 0, .agg #[.int .i64 1, .int .i64 1], .int .i64 4]) (by simp [results, Tryz.results30, go_sem]) rfl (ansX_no ((Below.refl _ w).alloc (Nat.le_refl _) _))
  rw [if_neg h6]
  have k6 : ¬ 60000 < (s.size : Int) := by omega
  have KD := fun i j hj v => ref_lkind hs i j hj v
  have TK := fun i hi v => ref_ltoken hs i hi v
  have PL := fun j v => ref_splace hs j v
  have HS : Hid (s.size ≤ 60000) := Nat.not_lt.1 h6
  unfold AnsL at PL
  unfold AnsK at TK
  generalize hp : lexF s (s.size + 1) 0 [] = P
  have HP : Hid (lexF s (s.size + 1) 0 [] = P) := hp
  clear hp hs h6
  go_enter Tryz.func30, Tryz.ntmps30
  go_wp2
  generalize w.alloc (.cells #[.int .i64 0, .int .i64 0] 29) = V at *
  go_loopg [5, 6] s.size (fun g s5 s6 v => ∃ (i : Nat) (a : Option Addr) (c n : Nat) (l : List Tok), s5 = .slice a n c ∧ s6 = .int .i64 i ∧ i + g = s.size ∧ n = l.length ∧ l.length ≤ 4000 ∧ OwnT w v (.slice a n c) n l ∧ BoxC v w.heap.size #[.int .i64 0, .int .i64 0] 29 ∧ lexF s (s.size + 1) i l = P)
  case atStart => exact ⟨0, none, 0, 0, [], rfl, rfl, by omega, rfl, by simp, OwnT.nil bV, B3, HP.out⟩
  case round =>
    obtain ⟨i, a, c, n, l, rfl, rfl, hg, hn, hl, oT, B3, hF⟩ := hrel
    clear HP bV hb
    have HF : Hid (lexF s (s.size + 1) i l = P) := hF
    clear hF
    rcases Nat.lt_or_ge i s.size with hi | hi
    · have hi' : (i : Int) < s.size := by omega
      have K0 := fun v => KD i i rfl v
      have hS := HS.out
      have hT := lexF_step (out := l) hi
      rw [HF.out] at hT
      have HT : Hid (P = _) := hT
      clear hT HF
      by_cases h3 : kindAt s i = 3
      · rw [h3] at K0
        have HT2 : Hid (lexF s (s.size + 1) (i + 1) l = P) := by show _ = _; rw [HT.out, if_pos h3]
        have q1 : 0 ≤ (i : Int) + 1 := by omega
        have q2 : (i : Int) + 1 < 10000000 := by omega
        have HO : Hid (i + gk = s.size ∧ i < s.size ∧ n = l.length ∧ l.length ≤ 4000 ∧ OwnT w wr (.slice a n c) n l ∧ BoxC wr w.heap.size #[.int .i64 0, .int .i64 0] 29) := ⟨hg, hi, hn, hl, oT, B3⟩
        clear HT h3 KD TK PL hS hg hn hl oT B3
        have w1 : wrap64 ((i : Int) + 1) = (i : Int) + 1 := wrap_smalls q1 q2
        clear q1 q2
        go_wp2_with (go_at_call 56; (with_reducible refine Calls.mono (K0 _) ?_); rintro e v1 ⟨rfl, rfl⟩)
        clear w1
        obtain ⟨o1, o2, o3, o4, o5, o6⟩ := HO.out
        go_roundg (s.size - (i + 1))
        case measure => omega
        case rel => exact ⟨i + 1, a, c, n, l, rfl, by go_num, by omega, o3, o4, o5, o6, HT2.out⟩
      · have e3 : (kindAt s i == 3) = false := by rw [beq_eq_false_iff_ne]; exact h3
        have HT2 : Hid (P = _) := HT.out.trans (if_neg h3)
        clear HT h3
        generalize kindAt s i = k at *
        have P0 := fun v => PL i v
        by_cases h4 : 4000 ≤ l.length
        · have HT3 : Hid (P = _) := HT2.out.trans (if_pos h4)
          have k4 : 4000 ≤ (n : Int) := by omega
          have HO : Hid (P = ([], placeI s i, 4) ∧ Below w.heap.size w wr) := ⟨HT3.out, oT.below⟩
          clear HT2 HT3 KD TK PL hS hg hn hl oT h4
          generalize placeI s i = Q at *
          obtain ⟨L, C⟩ := Q
          dsimp only at P0
          go_wp2_with (first
            | (go_at_call 56; (with_reducible refine Calls.mono (K0 _) ?_); rintro e v1 ⟨rfl, rfl⟩)
            | (go_at_call 32; (with_reducible refine Calls.mono (P0 _) ?_); rintro e w1 ⟨rfl, b1⟩; obtain ⟨y0, y1, y2, y3⟩ := (B3.more b1).cells2))
          obtain ⟨o1, o2⟩ := HO.out
          subst o1
          exact bodyPost_ret (v := .tuple #[.slice none 0 0, .agg #[.int .i64 L, .int .i64 C], .int .i64 4]) (by simp [results, Tryz.results30, go_sem, y0, y1]) rfl (ansX_no (((below_more o2 b1).setCell (p := ⟨w.heap.size, 0, none⟩) (Nat.le_refl _) _).setCell (p := ⟨w.heap.size, 1, none⟩) (Nat.le_refl _) _))
        · have HT3 : Hid (P = _) := HT2.out.trans (if_neg h4)
          have k4 : ¬ 4000 ≤ (n : Int) := by omega
          have T0 := fun v => TK i (Nat.le_of_lt hi) v
          have hE : (tokenI s i).2.2.2 = 0 → i < (tokenI s i).2.2.1 ∧ (tokenI s i).2.2.1 ≤ s.size := fun h => tokenI_end hi h
          clear HT2 KD TK PL hS
          generalize tokenI s i = tk at *
          generalize placeI s i = Q at *
          obtain ⟨tk1, tt, E, er⟩ := tk
          obtain ⟨L, C⟩ := Q
          dsimp only at T0 P0 HT3 hE
          have hB3 := B3.lt
          have HO : Hid (OwnT w wr (.slice a n c) n l ∧ BoxC wr w.heap.size #[.int .i64 0, .int .i64 0] 29 ∧ i + gk = s.size ∧ n = l.length ∧ l.length < 4000) := ⟨oT, B3, hg, hn, Nat.not_le.1 h4⟩
          have HR : Hid ((Value.slice a n c).ownBlock ≠ some w.heap.size) := oT.apart B3 place_ne_tok
          have HL : Hid (∀ k, (Value.slice a n c).ownBlock = some k → k < wr.heap.size) := fun k e => (oT.1.lt k e).2
          clear oT hg hn hl h4
          by_cases h5 : er = 0
          · subst h5
            have HE : Hid (i < E ∧ E ≤ s.size) := hE rfl
            have HT4 : Hid (lexF s (s.size + 1) E (l ++ [(tk1, tt, L, C)]) = P) := by show _ = _; rw [HT3.out, if_neg (by simp)]
            clear HT3 hE
            go_wp2_with (first
              | (go_at_call 56; (with_reducible refine Calls.mono (K0 _) ?_); rintro e v1 ⟨rfl, rfl⟩)
              | (go_at_call 57; (with_reducible refine Calls.mono (T0 _) ?_); rintro e w1 ⟨rfl, b1⟩; have BT := BoxC.new w1 #[.int .i64 tk1, .string tt, .int .i64 0, .int .i64 0] 66; have b1' := fun o => b1.alloc b1.size o)
              | (go_at_call 32; (with_reducible refine Calls.mono (P0 _) ?_); rintro e w2 ⟨rfl, b2⟩; have b3 := below_more (b1' _) b2; have BT2 := BT.more b2; obtain ⟨x0, x1, x2, x3, x4, x5⟩ := BT2.cells4; have hkt : w.heap.size < w1.heap.size := Nat.lt_of_lt_of_le hB3 b1.size; have hkt2 := BT2.lt; have hnt : (Value.slice a n c).ownBlock ≠ some w1.heap.size := (fun e => Nat.lt_irrefl _ (Nat.lt_of_lt_of_le (HL.out _ e) b1.size)); have OW := fun o => (((HO.out.1.more b3).other (k := w1.heap.size) (Nat.le_of_lt hkt) hnt 2 (.int .i64 L)).other (k := w1.heap.size) (Nat.le_of_lt hkt) hnt 3 (.int .i64 C)).alloc o; have SRC := tok_new w2 w1.heap.size (.int .i64 L) (.int .i64 C) (tcA (tk1, tt, L, C)) 66)
              | (at_builtin; refine wpl_append_tok (.tmp 52) (.tmp 54) rfl rfl w _ _ n l (tk1, tt, L, C) w2.heap.size rfl rfl (OW _) SRC (by omega) ?_; intro a6 c6 w6 o6 g6))
            obtain ⟨p1, p2, p3, p4, p5⟩ := HO.out
            have hEE := HE.out
            go_roundg (s.size - E)
            case measure => omega
            case rel => exact ⟨E, a6, c6, n + 1, l ++ [(tk1, tt, L, C)], rfl, rfl, by omega, by simp [p4], by simp; omega, o6, ((((p2.more b3).other (by omega) _).other (by omega) _).alloc _).grown g6 HR.out, HT4.out⟩
          · have e5 : (er != 0) = true := by rw [bne_iff_ne]; exact h5
            have HT4 : Hid (P = ([], (L, C), er)) := by show _ = _; rw [HT3.out, if_pos h5]
            clear HT3 hE h5
            go_wp2_with (first
              | (go_at_call 56; (with_reducible refine Calls.mono (K0 _) ?_); rintro e v1 ⟨rfl, rfl⟩)
              | (go_at_call 57; (with_reducible refine Calls.mono (T0 _) ?_); rintro e w1 ⟨rfl, b1⟩; have BT := BoxC.new w1 #[.int .i64 tk1, .string tt, .int .i64 0, .int .i64 0] 66; have b1' := fun o => b1.alloc b1.size o)
              | (go_at_call 32; (with_reducible refine Calls.mono (P0 _) ?_); rintro e w2 ⟨rfl, b2⟩; have b3 := below_more (b1' _) b2; have BT2 := BT.more b2; obtain ⟨x0, x1, x2, x3, x4, x5⟩ := BT2.cells4; have hkt : w.heap.size < w1.heap.size := Nat.lt_of_lt_of_le hB3 b1.size; have hkt2 := BT2.lt; obtain ⟨y0, y1, y2, y3⟩ := (HO.out.2.1.more b3).cells2))
            obtain ⟨z0, z1⟩ : ((w2.setCell ⟨w1.heap.size, 2, none⟩ (.int .i64 L)).setCell ⟨w1.heap.size, 3, none⟩ (.int .i64 C)).cell? ⟨w.heap.size, 0, none⟩ = some (.int .i64 0) ∧ ((w2.setCell ⟨w1.heap.size, 2, none⟩ (.int .i64 L)).setCell ⟨w1.heap.size, 3, none⟩ (.int .i64 C)).cell? ⟨w.heap.size, 1, none⟩ = some (.int .i64 0) := by
              have := (((HO.out.2.1.more b3).other (g := w1.heap.size) (i := 2) (by omega) (.int .i64 L)).other (g := w1.heap.size) (i := 3) (by omega) (.int .i64 C)).cells2
              exact ⟨this.1, this.2.1⟩
            go_region
            go_wp2
            have hPP := HT4.out
            subst hPP
            exact bodyPost_ret (v := .tuple #[.slice none 0 0, .agg #[.int .i64 L, .int .i64 C], .int .i64 er]) (by simp [results, Tryz.results30, go_sem, z0, z1]) rfl (ansX_no (((((below_more HO.out.1.below b3).setCell (p := ⟨w1.heap.size, 2, none⟩) (Nat.le_of_lt hkt) _).setCell (p := ⟨w1.heap.size, 3, none⟩) (Nat.le_of_lt hkt) _).setCell (p := ⟨w.heap.size, 0, none⟩) (Nat.le_refl _) _).setCell (p := ⟨w.heap.size, 1, none⟩) (Nat.le_refl _) _).drew)
    · have hi' : ¬ (i : Int) < s.size := by omega
      have hT := lexF_end (out := l) (Nat.not_lt.2 hi)
      rw [HF.out] at hT
      subst hT
      obtain ⟨y0, y1, y2, y3⟩ := B3.cells2
      have HO : Hid (OwnT w wr (.slice a n c) n l ∧ BoxC wr w.heap.size #[.int .i64 0, .int .i64 0] 29 ∧ n = l.length) := ⟨oT, B3, hn⟩
      clear HF KD TK PL oT B3 hg hl hn
      go_wp2
      obtain ⟨o1, o2, o3⟩ := HO.out
      subst o3
      exact bodyPost_ret (v := .tuple #[.slice a l.length c, .agg #[.int .i64 0, .int .i64 0], .int .i64 0]) (by simp [results, Tryz.results30, go_sem, y0, y1]) rfl ⟨a, c, rfl, (o1.box o2 place_ne_tok (Nat.le_refl _) 0 _).box (o2.set 0 _) place_ne_tok (Nat.le_refl _) 1 _⟩
end Go.Proofs.YtbcfplaalepnbaaGreatDoor
namespace Go.Proofs.YtbcfplaalepnbaaGreatDoor
open Go.RowKit Go.Lib
def TX (T : TypeId) : Prop := T = 44 ∨ T = 64
theorem tx_tok : ¬ TX 66 := by unfold TX; decide
theorem tx_u32 : ¬ TX 84 := by unfold TX; decide
theorem tx_str : ¬ TX 9 := by unfold TX; decide
theorem tx_let : ¬ TX 46 := by unfold TX; decide
theorem tx_node : TX 44 := .inl rfl
theorem tx_reader : TX 64 := .inr rfl
theorem NumW.keep {W w w' : World} {m : Mn} (h : NumW W w m) (k : Keep TX w w') (hb : Below W.heap.size W w') : NumW W w' m := ⟨OwnC.keep h.1 k tx_u32 hb, OwnC.keep h.2 k tx_u32 hb⟩
def Tr (W w : World) (R : Nat) (la : Option Addr) (lc : Nat) (i l o : Value) (L : List Tok) (r : Rd) : Prop :=
  ∃ (a : Option Addr) (c : Nat) (ms : List Mn), W.heap.size ≤ R ∧ BoxC w R #[.slice la L.length lc, .int .i64 r.pos, i, l, o, .slice a r.all.length c, .bool r.bad] 64 ∧
    OwnC 44 8 W w (.slice a r.all.length c) r.all.length (flat encM ms) ∧ ms.map (·.1) = r.all.map rawOf ∧ (∀ m ∈ ms, NumW W w m) ∧ OwnT W w (.slice la L.length lc) L.length L
section
variable {W w w' : World} {R : Nat} {la : Option Addr} {lc : Nat} {i l o : Value} {L : List Tok} {r : Rd}
theorem Tr.below (h : Tr W w R la lc i l o L r) : Below W.heap.size W w := by
  obtain ⟨a, c, ms, h1, h2, h3, h4, h5, h6⟩ := h; exact h3.below
theorem Tr.more (h : Tr W w R la lc i l o L r) (hb : Below w.heap.size w w') : Tr W w' R la lc i l o L r := by
  obtain ⟨a, c, ms, h1, h2, h3, h4, h5, h6⟩ := h
  exact ⟨a, c, ms, h1, h2.more hb, h3.more hb, h4, fun m hm => (h5 m hm).keep (Keep.of TX hb) (below_more h3.below hb), h6.more hb⟩
theorem Tr.box (h : Tr W w R la lc i l o L r) : ∃ a c, W.heap.size ≤ R ∧ BoxC w R #[.slice la L.length lc, .int .i64 r.pos, i, l, o, .slice a r.all.length c, .bool r.bad] 64 := by
  obtain ⟨a, c, ms, h1, h2, -⟩ := h; exact ⟨a, c, h1, h2⟩
theorem Tr.toks (h : Tr W w R la lc i l o L r) : IsToks w la L.length L := by
  obtain ⟨a, c, ms, h1, h2, h3, h4, h5, h6⟩ := h; exact h6.toks
theorem Tr.set (h : Tr W w R la lc i l o L r) (j : Nat) (x : Value) {p : Nat} {b : Bool} (hx : ∀ a c, (#[.slice la L.length lc, .int .i64 r.pos, i, l, o, .slice a r.all.length c, .bool r.bad] : Array Value).setIfInBounds j x = #[.slice la L.length lc, .int .i64 p, i, l, o, .slice a r.all.length c, .bool b]) :
    Tr W (w.setCell ⟨R, j, none⟩ x) R la lc i l o L ⟨p, b, r.all⟩ ∧ Keep TX w (w.setCell ⟨R, j, none⟩ x) := by
  obtain ⟨a, c, ms, h1, h2, h3, h4, h5, h6⟩ := h
  have hk := (Keep.refl TX w).set h2 tx_reader j x
  have hb := h3.below.setCell (p := ⟨R, j, none⟩) h1 x
  refine ⟨⟨a, c, ms, h1, ?_, h3.box h2 (by decide) h1 _ _, h4, fun m hm => (h5 m hm).keep hk hb, h6.box h2 (by decide) h1 _ _⟩, hk⟩
  have := h2.set j x
  rw [hx a c] at this
  exact this
theorem Tr.at (h : Tr W w R la lc i l o L r) (p : Nat) : Tr W (w.setCell ⟨R, 1, none⟩ (.int .i64 p)) R la lc i l o L ⟨p, r.bad, r.all⟩ ∧ Keep TX w (w.setCell ⟨R, 1, none⟩ (.int .i64 p)) := h.set 1 (.int .i64 p) (fun _ _ => rfl)
theorem Tr.bad (h : Tr W w R la lc i l o L r) : Tr W (w.setCell ⟨R, 6, none⟩ (.bool true)) R la lc i l o L r.wrong ∧ Keep TX w (w.setCell ⟨R, 6, none⟩ (.bool true)) := h.set 6 (.bool true) (fun _ _ => rfl)
theorem Tr.tok (h : Tr W w R la lc i l o L r) {t : Tok} (ht : L[r.pos]? = some t) : ∃ g, la = some ⟨g, 0, none⟩ ∧ w.cell? ⟨g, r.pos * 4, none⟩ = some (.int .i64 t.1) ∧ w.cell? ⟨g, r.pos * 4 + 1, none⟩ = some (.string t.2.1) ∧ w.cell? ⟨g, r.pos * 4 + 2, none⟩ = some (.int .i64 t.2.2.1) ∧ w.cell? ⟨g, r.pos * 4 + 3, none⟩ = some (.int .i64 t.2.2.2) := by
  obtain ⟨hp, he⟩ := List.getElem?_eq_some_iff.1 ht
  have h1 := tok_cells (h.toks.2.resolve_left (fun e => by rw [e] at hp; exact absurd hp (by simp))) r.pos hp
  rw [he] at h1
  exact h1
end
end Go.Proofs.YtbcfplaalepnbaaGreatDoor
namespace Go.Proofs.YtbcfplaalepnbaaGreatDoor
open Go.RowKit Go.Lib
section
variable {W w : World} {R : Nat} {la : Option Addr} {lc : Nat} {i l o : Value} {L : List Tok} {r : Rd}
theorem Tr.fields (h : Tr W w R la lc i l o L r) : w.cell? ⟨R, 0, none⟩ = some (.slice la L.length lc) ∧ w.cell? ⟨R, 1, none⟩ = some (.int .i64 r.pos) ∧ w.cell? ⟨R, 6, none⟩ = some (.bool r.bad) ∧ w.frozen? ⟨R, 1, none⟩ = false ∧ w.frozen? ⟨R, 6, none⟩ = false := by
  obtain ⟨a, c, -, B⟩ := h.box
  exact ⟨(B.cell 0).1, (B.cell 1).1, (B.cell 6).1, (B.cell 1).2, (B.cell 6).2⟩
set_option maxHeartbeats 4000000 in
theorem ref_tis (h : Tr W w R la lc i l o L r) (k : Int) (x : ByteArray) (b : Bool) (hb : r.is L k x.toList = b) :
    Calls Tryz.prog 60 #[.pointer (some ⟨R, 0, none⟩), .int .i64 k, .string x] w fun e w' => e = .returned (.bool b) ∧ Below w.heap.size w w' := by
  obtain ⟨x0, x1, x6, -, -⟩ := h.fields
  unfold Rd.is at hb
  by_cases h1 : r.bad = true
  · rw [h1] at hb x6
    obtain rfl : b = false := by rw [← hb]; rfl
    clear hb h h1
    go_enter Tryz.func60, Tryz.ntmps60
    go_wp2
    go_quiet (fail)
    go_wp2
    go_ret
    exact ⟨rfl, below_drewN (Below.refl _ _) _⟩
  have h1' : r.bad = false := by simpa using h1
  rw [h1'] at hb x6
  rw [Bool.not_false, Bool.true_and] at hb
  cases ht : L[r.pos]? with
  | none =>
    rw [ht] at hb
    have hp := List.getElem?_eq_none_iff.1 ht
    have k1 : ¬ (r.pos : Int) < L.length := by omega
    have k2 : ¬ r.pos < L.length := by omega
    obtain rfl : b = false := hb.symm
    generalize r.pos = p at *
    generalize L.length = n at *
    clear hb h h1 h1' ht hp
    go_enter Tryz.func60, Tryz.ntmps60
    go_wp2
    go_quiet (fail)
    go_wp2
    go_ret
    exact ⟨rfl, below_drewN (Below.refl _ _) _⟩
  | some t =>
    rw [ht] at hb
    dsimp only at hb
    have hp := (List.getElem?_eq_some_iff.1 ht).1
    have k1 : (r.pos : Int) < L.length := by omega
    obtain ⟨g, rfl, t0, t1, -, -⟩ := h.tok ht
    generalize r.pos = p at *
    generalize L.length = n at *
    by_cases hk : t.1 = k
    · have e1 : (t.1 == k) = true := by rw [beq_iff_eq]; exact hk
      rw [decide_eq_true hk, Bool.true_and] at hb
      generalize t.2.1 = y at *
      generalize t.1 = z at *
      clear h h1 h1' ht hp hk
      go_enter Tryz.func60, Tryz.ntmps60
      go_wp2
      go_quiet (fail)
      go_wp2
      go_ret
      exact ⟨rfl, below_drewN (Below.refl _ _) _⟩
    · have e1 : (t.1 == k) = false := by rw [beq_eq_false_iff_ne]; exact hk
      rw [decide_eq_false hk, Bool.false_and] at hb
      obtain rfl : b = false := hb.symm
      generalize t.2.1 = y at *
      generalize t.1 = z at *
      clear h h1 h1' ht hp hk hb
      go_enter Tryz.func60, Tryz.ntmps60
      go_wp2
      go_quiet (fail)
      go_wp2
      go_ret
      exact ⟨rfl, below_drewN (Below.refl _ _) _⟩
set_option maxHeartbeats 4000000 in
theorem ref_twant (h : Tr W w R la lc i l o L r) (hL : L.length ≤ 4000) (k : Int) (x : ByteArray) :
    Calls Tryz.prog 58 #[.pointer (some ⟨R, 0, none⟩), .int .i64 k, .string x] w fun e w' => e = .returned (.tuple #[]) ∧ Tr W w' R la lc i l o L (r.want L k x.toList) ∧ Keep TX w w' := by
  have IS := ref_tis h k x _ rfl
  unfold Rd.want
  have HH : Hid (Tr W w R la lc i l o L r) := h
  by_cases hb : r.is L k x.toList = true
  · rw [if_pos hb]
    rw [hb] at IS
    have hp := (r.is_in hb).2
    have w1 : wrap64 ((r.pos : Int) + 1) = (r.pos : Int) + 1 := wrap_smalls (by omega) (by omega)
    clear hb hL hp h
    go_enter Tryz.func58, Tryz.ntmps58
    go_wp2_with (go_at_call 60; (with_reducible refine Calls.mono IS ?_); rintro e w1 ⟨rfl, d1⟩; obtain ⟨x0, x1, x6, y1, y6⟩ := (HH.out.more d1).fields)
    go_end0
    obtain ⟨q1, q2⟩ := (HH.out.more d1).at (r.pos + 1)
    exact ⟨rfl, q1, (Keep.of TX d1).trans q2⟩
  · rw [if_neg hb]
    rw [show r.is L k x.toList = false by simpa using hb] at IS
    clear hb hL h
    go_enter Tryz.func58, Tryz.ntmps58
    go_wp2_with (go_at_call 60; (with_reducible refine Calls.mono IS ?_); rintro e w1 ⟨rfl, d1⟩; obtain ⟨x0, x1, x6, y1, y6⟩ := (HH.out.more d1).fields)
    go_end0
    obtain ⟨q1, q2⟩ := (HH.out.more d1).bad
    exact ⟨rfl, q1, (Keep.of TX d1).trans q2⟩
end
end Go.Proofs.YtbcfplaalepnbaaGreatDoor
namespace Go.Proofs.YtbcfplaalepnbaaGreatDoor
open Go.RowKit Go.Lib
set_option maxHeartbeats 4000000 in
theorem ref_texp (x : ByteArray) (z : Int) (hz : expI x = z) (w : World) :
    Calls Tryz.prog 152 #[.string x] w fun e w' => e = .returned (.int .i64 z) ∧ Below w.heap.size w w' := by
  unfold expI at hz
  by_cases h1 : x.size = 1
  · rw [if_pos h1] at hz
    have k0 : 0 < x.size := by omega
    have k1 : (0 : Int) < x.size := by omega
    have e1 : ((x.size : Int) == 1) = true := by rw [beq_iff_eq]; omega
    rw [bt_get k0] at hz
    have b0 := bt_lt x 0
    rw [bt_get k0] at b0
    have HZ : Hid ((x[0].toNat : Int) - 48 = z) := hz
    have W0 : wrap64 (x[0].toNat : Int) = (x[0].toNat : Int) := by unfold wrap64; omega
    have W1 : wrap64 ((x[0].toNat : Int) - 48) = (x[0].toNat : Int) - 48 := by unfold wrap64; omega
    clear hz h1 b0
    go_enter Tryz.func152, Tryz.ntmps152
    go_wp2
    go_ret
    exact ⟨by rw [← HZ.out]; simp only [W0, W1]; rfl, Below.refl _ _⟩
  rw [if_neg h1] at hz
  have e1 : ((x.size : Int) == 1) = false := by rw [beq_eq_false_iff_ne]; omega
  by_cases h2 : x.size = 2
  · have k0 : 0 < x.size := by omega
    have k1 : 1 < x.size := by omega
    have k0' : (0 : Int) < x.size := by omega
    have k1' : (1 : Int) < x.size := by omega
    have e2 : ((x.size : Int) == 2) = true := by rw [beq_iff_eq]; omega
    have b0 := bt_lt x 0
    have b1 := bt_lt x 1
    rw [bt_get k0, bt_get k1] at hz
    rw [bt_get k0] at b0
    rw [bt_get k1] at b1
    by_cases h3 : x[1].toNat = 124
    · have e3 : ((x[1].toNat : Int) != 124) = false := by rw [bne_eq_false_iff_eq]; omega
      obtain rfl : z = -1 := by rw [← hz, if_neg (fun e => e.2.1 h3)]
      clear hz h1 h2 h3 b0 b1
      go_enter Tryz.func152, Tryz.ntmps152
      go_wp2
      go_ret
      exact ⟨rfl, Below.refl _ _⟩
    · have e3 : ((x[1].toNat : Int) != 124) = true := by rw [bne_iff_ne]; omega
      generalize hA : (x[0].toNat : Int) = A at *
      generalize hB : (x[1].toNat : Int) = B at *
      have u1 : IntKind.i64.wrap A = A := by rw [IntKind.wrap_i64]; omega
      have u2 : IntKind.i64.wrap B = B := by rw [IntKind.wrap_i64]; omega
      have v1 : IntKind.i64.wrap (A - 48) = A - 48 := by rw [IntKind.wrap_i64]; omega
      have v2 : IntKind.i64.wrap (10 * (A - 48)) = 10 * (A - 48) := by rw [IntKind.wrap_i64]; omega
      have v3 : IntKind.i64.wrap (10 * (A - 48) + B) = 10 * (A - 48) + B := by rw [IntKind.wrap_i64]; omega
      have v4 : IntKind.i64.wrap (10 * (A - 48) + B - 48) = 10 * (A - 48) + B - 48 := by rw [IntKind.wrap_i64]; omega
      by_cases h4 : 10 * (A - 48) + B - 48 ≤ 20
      · rw [if_pos ⟨h2, h3, h4⟩] at hz
        subst hz
        clear h1 h2 h3 b0 b1
        go_enter Tryz.func152, Tryz.ntmps152
        go_wp2
        go_quiet (fail)
        go_wp2
        go_ret
        exact ⟨rfl, below_drewN (Below.refl _ _) _⟩
      · rw [if_neg (fun e => h4 e.2.2)] at hz
        subst hz
        clear h1 h2 h3 b0 b1
        go_enter Tryz.func152, Tryz.ntmps152
        go_wp2
        go_quiet (fail)
        go_wp2
        go_ret
        exact ⟨rfl, below_drewN (Below.refl _ _) _⟩
  · have e2 : ((x.size : Int) == 2) = false := by rw [beq_eq_false_iff_ne]; omega
    obtain rfl : z = -1 := by rw [← hz, if_neg (fun e => h2 e.1)]
    clear hz h1 h2
    go_enter Tryz.func152, Tryz.ntmps152
    go_wp2
    go_ret
    exact ⟨rfl, Below.refl _ _⟩
end Go.Proofs.YtbcfplaalepnbaaGreatDoor
namespace Go.Proofs.YtbcfplaalepnbaaGreatDoor
open Go.RowKit Go.Lib
section
variable {W w : World} {R : Nat} {la : Option Addr} {lc : Nat} {i l o : Value} {L : List Tok} {r : Rd}
set_option maxHeartbeats 8000000 in
theorem ref_tname (h : Tr W w R la lc i l o L r) (hL : L.length ≤ 4000) (hT : ∀ t ∈ L, t.2.1.size ≤ 1000000) :
    Calls Tryz.prog 61 #[.pointer (some ⟨R, 0, none⟩)] w fun e w' => e = .returned (.string (r.nameT L).1) ∧ Tr W w' R la lc i l o L (r.nameT L).2 ∧ Keep TX w w' := by
  obtain ⟨x0, x1, x6, y1, y6⟩ := h.fields
  have hR : R < w.heap.size := by obtain ⟨a, c, -, B⟩ := h.box; exact B.lt
  have HH : Hid (Tr W w R la lc i l o L r) := h
  unfold Rd.nameT
  by_cases h1 : r.bad = true
  · rw [if_pos h1]
    rw [h1] at x6
    clear h hL hT h1
    go_enter Tryz.func61, Tryz.ntmps61
    go_wp2
    go_quiet (fail)
    go_wp2
    go_ret
    obtain ⟨q1, q2⟩ := (HH.out.more (below_drewN (Below.refl _ _) nq)).bad
    exact ⟨rfl, q1, (Keep.of TX (below_drewN (Below.refl _ _) nq)).trans q2⟩
  rw [if_neg h1]
  have h1' : r.bad = false := by simpa using h1
  rw [h1'] at x6
  cases ht : L[r.pos]? with
  | none =>
    have hp := List.getElem?_eq_none_iff.1 ht
    have k1 : (L.length : Int) ≤ r.pos := by omega
    have k2 : L.length ≤ r.pos := hp
    clear h hL hT h1 h1' ht hp
    go_enter Tryz.func61, Tryz.ntmps61
    go_wp2
    go_quiet (fail)
    go_wp2
    go_ret
    obtain ⟨q1, q2⟩ := (HH.out.more (below_drewN (Below.refl _ _) nq)).bad
    exact ⟨rfl, q1, (Keep.of TX (below_drewN (Below.refl _ _) nq)).trans q2⟩
  | some t =>
    dsimp only
    have hp := (List.getElem?_eq_some_iff.1 ht).1
    have hm := hT t (List.mem_of_getElem? ht)
    have NM := fun v => ref_sname hm _ rfl v
    obtain ⟨g, rfl, t0, t1, t2, t3⟩ := h.tok ht
    have k1 : ¬ (L.length : Int) ≤ r.pos := by omega
    have k2 : ¬ L.length ≤ r.pos := by omega
    have k3 : (r.pos : Int) < L.length := by omega
    have w1 : wrap64 ((r.pos : Int) + 1) = (r.pos : Int) + 1 := wrap_smalls (by omega) (by omega)
    by_cases hk : t.1 = 0
    · have e1 : (t.1 == 0) = true := by rw [beq_iff_eq]; exact hk
      generalize hn : nameB t.2.1 = b at *
      cases b with
      | true =>
        rw [if_pos ⟨hk, rfl⟩]
        clear h hL hT h1 h1' hp hm hk hn
        go_enter Tryz.func61, Tryz.ntmps61
        go_wp2
        go_quiet (fail)
        have KV := Keep.of TX (below_drewN (Below.refl _ w) nq)
        have HV := HH.out.more (below_drewN (Below.refl _ w) nq)
        have hV : R < (w.drewN nq).heap.size := hR
        generalize w.drewN nq = V at *
        clear HH x0 x1 x6 y1 y6 t0 t1 t2 t3 hR
        obtain ⟨x0, x1, x6, y1, y6⟩ := HV.fields
        obtain ⟨g', e', t0, t1, t2, t3⟩ := HV.tok ht
        obtain rfl : g = g' := by simpa using e'
        have hgV : g < V.heap.size := World.block_lt_of_cell? V _ t0
        go_wp2
        go_region
        all_goals go_wp2_with (go_at_call 39; (with_reducible refine Calls.mono (NM _) ?_); rintro e v1 ⟨rfl, rfl⟩)
        go_ret
        obtain ⟨q1, q2⟩ := HV.at (r.pos + 1)
        exact ⟨rfl, (q1.more ((Below.refl _ _).alloc (Nat.le_refl _) _)).more (Below.refl _ _).drew, ((KV.trans q2).alloc _).drew⟩
      | false =>
        rw [if_neg (fun e => absurd e.2 (by simp))]
        clear h hL hT h1 h1' hp hm hk hn
        go_enter Tryz.func61, Tryz.ntmps61
        go_wp2
        go_quiet (fail)
        have KV := Keep.of TX (below_drewN (Below.refl _ w) nq)
        have HV := HH.out.more (below_drewN (Below.refl _ w) nq)
        have hV : R < (w.drewN nq).heap.size := hR
        generalize w.drewN nq = V at *
        clear HH x0 x1 x6 y1 y6 t0 t1 t2 t3 hR
        obtain ⟨x0, x1, x6, y1, y6⟩ := HV.fields
        obtain ⟨g', e', t0, t1, t2, t3⟩ := HV.tok ht
        obtain rfl : g = g' := by simpa using e'
        have hgV : g < V.heap.size := World.block_lt_of_cell? V _ t0
        go_wp2
        go_region
        all_goals go_wp2_with (go_at_call 39; (with_reducible refine Calls.mono (NM _) ?_); rintro e v1 ⟨rfl, rfl⟩)
        go_ret
        obtain ⟨q1, q2⟩ := HV.bad
        exact ⟨rfl, (q1.more ((Below.refl _ _).alloc (Nat.le_refl _) _)).more (Below.refl _ _).drew, ((KV.trans q2).alloc _).drew⟩
    · have e1 : (t.1 == 0) = false := by rw [beq_eq_false_iff_ne]; exact hk
      · rw [if_neg (fun e => hk e.1)]
        clear h hL hT h1 h1' hp hm hk NM
        go_enter Tryz.func61, Tryz.ntmps61
        go_wp2
        go_quiet (fail)
        have KV := Keep.of TX (below_drewN (Below.refl _ w) nq)
        have HV := HH.out.more (below_drewN (Below.refl _ w) nq)
        have hV : R < (w.drewN nq).heap.size := hR
        generalize w.drewN nq = V at *
        clear HH x0 x1 x6 y1 y6 t0 t1 t2 t3 hR
        obtain ⟨x0, x1, x6, y1, y6⟩ := HV.fields
        obtain ⟨g', e', t0, t1, t2, t3⟩ := HV.tok ht
        obtain rfl : g = g' := by simpa using e'
        have hgV : g < V.heap.size := World.block_lt_of_cell? V _ t0
        go_wp2
        go_region
        all_goals go_wp2
        go_ret
        obtain ⟨q1, q2⟩ := HV.bad
        exact ⟨rfl, (q1.more ((Below.refl _ _).alloc (Nat.le_refl _) _)).more (Below.refl _ _).drew, ((KV.trans q2).alloc _).drew⟩
end
end Go.Proofs.YtbcfplaalepnbaaGreatDoor
namespace Go.Proofs.YtbcfplaalepnbaaGreatDoor
open Go.RowKit Go.Lib
section
variable {W w : World} {R : Nat} {la : Option Addr} {lc : Nat} {i l o : Value} {L : List Tok} {r : Rd}
theorem tr_new {w3 : World} {n : Nd} {u v x5 : Value} {a3 : Option Addr} {c3 N : Nat} {ms : List Mn} (hN : r.all.length = N) (hW : W.heap.size ≤ R)
    (B : BoxC w3 R #[.slice la L.length lc, .int .i64 r.pos, i, l, o, x5, .bool r.bad] 64) (O : OwnC 44 8 W w3 (.slice a3 (N + 1) c3) (N + 1) (flat encM ms ++ encM (rawOf n, u, v)))
    (hms : ms.map (·.1) = r.all.map rawOf) (hnw : ∀ m ∈ ms, NumW W w m) (hT : OwnT W w (.slice la L.length lc) L.length L) (hm : NumW W w (rawOf n, u, v)) (K : Keep TX w w3) :
    Tr W (w3.setCell ⟨R, 5, none⟩ (.slice a3 (N + 1) c3)) R la lc i l o L (r.node n).2 ∧ Keep TX w (w3.setCell ⟨R, 5, none⟩ (.slice a3 (N + 1) c3)) := by
  subst hN
  have hk := K.set B tx_reader 5 (.slice a3 (r.all.length + 1) c3)
  have hb := O.below.setCell (p := ⟨R, 5, none⟩) hW (.slice a3 (r.all.length + 1) c3)
  have e : (r.all ++ [n]).length = r.all.length + 1 := by simp
  refine ⟨⟨a3, c3, ms ++ [(rawOf n, u, v)], hW, ?_, ?_, ?_, ?_, ownsRow_keep hT.1 hk tx_tok, hb⟩, hk⟩
  · show BoxC _ R #[_, _, _, _, _, .slice a3 (r.all ++ [n]).length c3, _] _
    rw [e]; exact B.set 5 (.slice a3 (r.all.length + 1) c3)
  · show OwnC _ 8 W _ (.slice a3 (r.all ++ [n]).length c3) (r.all ++ [n]).length _
    rw [e, flat_append, flat_one]
    exact O.box B (by decide) hW _ _
  · show _ = (r.all ++ [n]).map rawOf
    rw [List.map_append, List.map_append, hms]; rfl
  · intro m hmm
    rcases List.mem_append.1 hmm with q | q
    · exact (hnw m q).keep hk hb
    · obtain rfl := List.mem_singleton.1 q
      exact hm.keep hk hb
set_option maxHeartbeats 16000000 in
theorem ref_tnode (h : Tr W w R la lc i l o L r) (n : Nd) (ua : Option Addr) (un uc : Nat) (va : Option Addr) (vn vc : Nat) (hN : NumW W w (rawOf n, .slice ua un uc, .slice va vn vc)) (hl : r.all.length ≤ 100000) :
    Calls Tryz.prog 92 #[.pointer (some ⟨R, 0, none⟩), .agg #[.int .i64 n.kind, .int .i64 n.a, .int .i64 n.b, .int .i64 n.exp, .string n.name, .bool n.num.1, .slice ua un uc, .slice va vn vc]] w fun e w' => e = .returned (.int .i64 r.all.length) ∧ Tr W w' R la lc i l o L (r.node n).2 ∧ Keep TX w w' := by
  obtain ⟨a, c, ms, hW, B, O, hms, hnw, hT⟩ := h
  have hR := B.lt
  have x5 := (B.cell 5).1
  have y5 := (B.cell 5).2
  have N1 := boxes1 w #[.int .i64 n.kind, .int .i64 n.a, .int .i64 n.b, .int .i64 n.exp, .string n.name, .bool n.num.1, .slice ua un uc, .slice va vn vc] 44
  have z0 := (N1.1.cell 0).1
  have z1 := (N1.1.cell 1).1
  have z2 := (N1.1.cell 2).1
  have z3 := (N1.1.cell 3).1
  have z4 := (N1.1.cell 4).1
  have z5 := (N1.1.cell 5).1
  have z6 := (N1.1.cell 6).1
  have z7 := (N1.1.cell 7).1
  have w0 : wrap64 (r.all.length : Int) = r.all.length := wrap_smalls (by omega) (by omega)
  have w1 : wrap64 ((r.all.length : Int) + 1 - 1) = r.all.length := by rw [show (r.all.length : Int) + 1 - 1 = r.all.length by omega]; exact w0
  have one := encM_one (rawOf n, .slice ua un uc, .slice va vn vc) ⟨_, _, _, rfl⟩ ⟨_, _, _, rfl⟩
  have HA : Hid ((Value.slice a r.all.length c).ownBlock ≠ some R) := O.apart B (by decide)
  have SRC := fun (v : World) => (BoxC.new v (encM (rawOf n, .slice ua un uc, .slice va vn vc)).toArray 44).isc
  have HH : Hid (W.heap.size ≤ R ∧ BoxC w R #[.slice la L.length lc, .int .i64 r.pos, i, l, o, .slice a r.all.length c, .bool r.bad] 64 ∧ OwnC 44 8 W w (.slice a r.all.length c) r.all.length (flat encM ms) ∧ ms.map (·.1) = r.all.map rawOf ∧ (∀ m ∈ ms, NumW W w m) ∧ OwnT W w (.slice la L.length lc) L.length L ∧ NumW W w (rawOf n, .slice ua un uc, .slice va vn vc)) := ⟨hW, B, O, hms, hnw, hT, hN⟩
  have HB : Hid (Below w.heap.size w (w.alloc (.cells #[.int .i64 n.kind, .int .i64 n.a, .int .i64 n.b, .int .i64 n.exp, .string n.name, .bool n.num.1, .slice ua un uc, .slice va vn vc] 44))) := N1.2.1
  have HL : Hid (r.all.length ≤ 100000) := hl
  clear hW B O hms hnw hT hN N1 hl
  go_enter Tryz.func92, Tryz.ntmps92
  go_wp2
  have hz : w.heap.size < (w.alloc (.cells #[.int .i64 n.kind, .int .i64 n.a, .int .i64 n.b, .int .i64 n.exp, .string n.name, .bool n.num.1, .slice ua un uc, .slice va vn vc] 44)).heap.size := by simp
  generalize w.alloc (.cells #[.int .i64 n.kind, .int .i64 n.a, .int .i64 n.b, .int .i64 n.exp, .string n.name, .bool n.num.1, .slice ua un uc, .slice va vn vc] 44) = V at *
  have BV := HH.out.2.1.more HB.out
  have x5 := (BV.cell 5).1
  have hRV : R < V.heap.size := BV.lt
  have oo := fun z => ((HH.out.2.2.1.more HB.out).drew).alloc z
  have m1 : r.all.length + 1 ≤ maxLen := by have := HL.out; unfold maxLen; omega
  have m2 : (r.all.length + 1) * 104 ≤ 140737488355328 := by have := HL.out; omega
  generalize hlen : r.all.length = N at *
  go_region_law (first
    | (refine stp_append_c (t := 25) (e := 44) Tryz.underlying25 infoNode rfl (by decide) (.tmp 10) (.tmp 12) rfl rfl W _ _ N (flat encM ms) V.heap.size 1 1 (encM (rawOf n, .slice ua un uc, .slice va vn vc)) rfl rfl (oo _) (SRC V.drew) (by decide) one m1 m2 ?_; intro a3 c3 w3 o3 g3; have D2 := (BV.drew.alloc (.cells (encM (rawOf n, .slice ua un uc, .slice va vn vc)).toArray 44)).grown g3 HA.out; have y3 := (D2.cell 5).2; have x3' := (D2.cell 5).1))
  all_goals
    obtain ⟨hW, -, hO, hms, hnw, hT, hN⟩ := HH.out
    have K3 := ((((Keep.of TX HB.out).drew).alloc (.cells (encM (rawOf n, .slice ua un uc, .slice va vn vc)).toArray 44))).grown (oo _) tx_node g3
    have RN := tr_new (u := .slice ua un uc) (v := .slice va vn vc) hlen hW D2 o3 hms hnw hT hN K3
    have x5' := (D2.set 5 (.slice a3 (N + 1) c3)).cell 5
    obtain ⟨x6', -⟩ := x5'
    have HR : Hid _ := RN
    clear RN K3 hW hO hms hnw hT hN BV oo D2 o3 g3 z0 z1 z2 z3 z4 z5 z6 z7 SRC one HA HH HB x5 y5 x3' y3
    go_wp2
    go_ret
    exact ⟨by rw [hlen]; rfl, HR.out⟩
end
end Go.Proofs.YtbcfplaalepnbaaGreatDoor
namespace Go.Proofs.YtbcfplaalepnbaaGreatDoor
open Go.RowKit
theorem ref_add_last {ps qs ss : List Int} {M cy : Nat} (hp : Wd ps) (hq : Wd qs) (h1 : ps.length ≤ M) (h2 : qs.length ≤ M) (hi : val ss + cy * 4294967296 ^ (M + 1) = val (ps.take (M + 1)) + val (qs.take (M + 1))) : val ss = val ps + val qs := by
  rw [List.take_of_length_le (by omega), List.take_of_length_le (by omega)] at hi
  have g1 : val ps < 4294967296 ^ M := Nat.lt_of_lt_of_le (val_lt ps hp) (Nat.pow_le_pow_right (by omega) h1)
  have g2 : val qs < 4294967296 ^ M := Nat.lt_of_lt_of_le (val_lt qs hq) (Nat.pow_le_pow_right (by omega) h2)
  rw [Nat.pow_succ, ← Nat.mul_assoc] at hi
  rcases Nat.eq_zero_or_pos cy with rfl | hc
  · omega
  · have h3 : 1 * 4294967296 ^ M ≤ cy * 4294967296 ^ M := Nat.mul_le_mul_right _ hc
    generalize cy * 4294967296 ^ M = r at hi h3
    generalize 4294967296 ^ M = p at g1 g2 h3
    omega
theorem ref_add_step {p S A B x y b c c' : Nat} (hi : S + c * p = A + B) (hy : y + 4294967296 * c' = x + b + c) : (S + y * p) + c' * (p * 4294967296) = (A + x * p) + (B + b * p) := by
  have e : (y + 4294967296 * c') * p = (x + b + c) * p := by rw [hy]
  rw [Nat.add_mul, Nat.add_mul, Nat.add_mul] at e
  have e2 : c' * (p * 4294967296) = 4294967296 * c' * p := by rw [Nat.mul_comm p, ← Nat.mul_assoc, Nat.mul_comm c']
  rw [e2]; omega
set_option maxHeartbeats 2000000 in
theorem ref_nadd (a : Option Addr) (n c : Nat) (zs : List Int) (b : Option Addr) (m d : Nat) (ys : List Int) (w : World) (h : IsWords w (.slice a n c) zs) (hz : Wd zs) (g : IsWords w (.slice b m d) ys) (gz : Wd ys)
    (hn : n ≤ 1000000000) (hm : m ≤ 1000000000) :
    Calls Tryz.prog 196 #[.slice a n c, .slice b m d] w (Ans w (val zs + val ys)) := by
  have l1 : Hid (zs.length = n) := h.len
  have l2 : Hid (ys.length = m) := g.len
  rcases Nat.lt_or_ge n m with hnm | hnm
  case' inl => obtain ⟨M, hM1, hM2⟩ : ∃ M : Nat, M ≤ m ∧ m ≤ M := ⟨m, by omega, by omega⟩
  case' inr => obtain ⟨M, hM1, hM2⟩ : ∃ M : Nat, M ≤ n ∧ n ≤ M := ⟨n, by omega, by omega⟩
  all_goals
    go_enter Tryz.func196, Tryz.ntmps196
    go_wp2
    go_loopw [5, 6, 7] (fun s cr i v => ∃ (k : Nat) (cy : Int) (oa : Option Addr) (oc : Nat) (ss : List Int), k ≤ M + 1 ∧ i = .int .i64 k ∧ cr = .int .u64 cy ∧ 0 ≤ cy ∧ cy ≤ 1 ∧ s = .slice oa k oc ∧ Own w v (.slice oa k oc) k ss ∧ Wd ss ∧ val ss + cy.toNat * 4294967296 ^ k = val (zs.take k) + val (ys.take k)) (fun _ _ i _ => M + 1 - (intOf i).toNat)
    case atStart => exact ⟨0, 0, none, 0, [], by omega, rfl, rfl, by omega, by omega, rfl, Own.nil (Below.refl _ _), wd_nil, by simp [val]⟩
    case round =>
      obtain ⟨k, cy, oa, oc, ss, hk, rfl, rfl, hc0, hc1, rfl, o, wS, hI⟩ := hrel
      have HI : Hid (val ss + cy.toNat * 4294967296 ^ k = val (zs.take k) + val (ys.take k)) := hI
      clear hI
      by_cases hlt : k ≤ M
      · have B1 := ref_at a n c zs wr (h.below o.below) k (by omega) _ rfl (wd_getD hz k).1 (wd_getD hz k).2
        have B2 := ref_at b m d ys wr (g.below o.below) k (by omega) _ rfl (wd_getD gz k).1 (wd_getD gz k).2
        obtain ⟨x0, x1⟩ := wd_getD hz k
        obtain ⟨y0, y1⟩ := wd_getD gz k
        have T1 : Hid (val (zs.take (k + 1)) = val (zs.take k) + (zs.getD k 0).toNat * 4294967296 ^ k) := val_take_succ zs k
        have T2 : Hid (val (ys.take (k + 1)) = val (ys.take k) + (ys.getD k 0).toNat * 4294967296 ^ k) := val_take_succ ys k
        have HL : Hid (ss.length = k) := o.length
        generalize zs.getD k 0 = x at B1 T1 x0 x1
        generalize ys.getD k 0 = y at B2 T2 y0 y1
        have HN : Hid (val (ss ++ [(x + y + cy) % 4294967296]) + ((x + y + cy) / 4294967296).toNat * 4294967296 ^ (k + 1) = val (zs.take (k + 1)) + val (ys.take (k + 1))) := by
          show _ = _
          rw [T1.out, T2.out, val_snoc, HL.out, Nat.pow_succ]
          exact ref_add_step HI.out (by omega)
        have WN : Wd (ss ++ [(x + y + cy) % 4294967296]) := wd_append wS (wd_one (by omega) (by omega))
        clear T1 T2 HL HI h g hz gz l1 l2 wS
        go_wp2_with (first
          | (go_at_call 143; with_reducible refine Calls.mono B1 ?_; rintro e w1 ⟨rfl, rfl⟩)
          | (go_at_call 143; with_reducible refine Calls.mono B2 ?_; rintro e w1 ⟨rfl, rfl⟩)
          | (at_builtin; refine wpl_append_words (.tmp 27) (.tmp 31) rfl rfl w _ _ _ k 1 ss [(x + y + cy) % 4294967296] rfl rfl (o.alloc _) (lit_words _ [(x + y + cy) % 4294967296] 1 rfl (by decide)) rfl (k + 1) rfl (by omega) ?_; intro a1 c1 w1 o1 g1))
        go_roundw
        case rel => exact ⟨k + 1, (x + y + cy) / 4294967296, a1, c1, _, by omega, by go_num, rfl, by omega, by omega, rfl, o1, WN, HN.out⟩
        case measure => simp [intOf]; omega
      · obtain rfl : k = M + 1 := by omega
        have HS := ref_add_last hz gz (by rw [l1.out]; omega) (by rw [l2.out]; omega) HI.out
        have R := ref_trim oa (M + 1) oc ss wr o.words wS (by omega)
        rw [HS] at R
        have ob := o.below
        clear HS HI h g hz gz l1 l2 wS o
        have hgt : ¬ ((M : Int) + 1 ≤ M) := by omega
        go_wp2_with (first
          | (go_at_call 99; (with_reducible refine Calls.mono R ?_); rintro e w1 ⟨a1, c1, rfl, o1⟩))
        go_ret
        exact ⟨_, _, rfl, o1.outer ob⟩
-- <<IF F talweg/talwegref02.Sub>>
-- <<END>>
end Go.Proofs.YtbcfplaalepnbaaGreatDoor
namespace Go.Proofs.YtbcfplaalepnbaaGreatDoor
open Go.RowKit
theorem nat_word1 {x : Nat} (h0 : 0 < x) (h1 : x < 4294967296) : natOf x = [(x : Int)] ∧ nl x = 1 := by
  have e : natOf x = [(x : Int)] := by rw [natOf_pos (by omega), Nat.mod_eq_of_lt h1, Nat.div_eq_of_lt h1, natOf_zero]
  exact ⟨e, by unfold nl; rw [e]; rfl⟩
end Go.Proofs.YtbcfplaalepnbaaGreatDoor
namespace Go.Proofs.YtbcfplaalepnbaaGreatDoor
open Go.RowKit
set_option maxHeartbeats 2000000 in
theorem ref_ifix {s : Bool} {a : Option Addr} {n c : Nat} {zs : List Int} {w : World} (h : IsWords w (.slice a n c) zs) (hz : Wd zs) (hn : n ≤ 1000000000) (z : Int) (hv : iv s (val zs) = z) :
    Calls Tryz.prog 142 #[.agg #[.bool s, .slice a n c]] w (AnsI w z) := by
  subst hv
  unfold AnsI
  rw [iv_abs, iv_neg]
  have T := fun v (hb : Below w.heap.size w v) => ref_trim a n c zs v (h.below hb) hz (by omega)
  unfold Ans at T
  have hd : decide (0 < val zs) = decide (0 < (nl (val zs) : Int)) := by
    rw [Bool.eq_iff_iff]; simp only [decide_eq_true_eq]
    constructor
    · intro h; have := nl_pos h; omega
    · intro h; rcases Nat.eq_zero_or_pos (val zs) with e | e
      · rw [e, nl_zero] at h; omega
      · exact e
  rw [hd]
  generalize val zs = N at T
  have b1 := (BoxC.new w #[.bool s, .slice a n c] 82).alloc (.cells #[.bool false, .slice none 0 0] 82)
  have b2 := BoxC.new (w.alloc (.cells #[.bool s, .slice a n c] 82)) #[.bool false, .slice none 0 0] 82
  rw [World.size_alloc] at b2
  have bV : Below w.heap.size w ((w.alloc (.cells #[.bool s, .slice a n c] 82)).alloc (.cells #[.bool false, .slice none 0 0] 82)) := ((Below.refl _ w).alloc (Nat.le_refl _) _).alloc (by simp) _
  have hs : w.heap.size + 1 < ((w.alloc (.cells #[.bool s, .slice a n c] 82)).alloc (.cells #[.bool false, .slice none 0 0] 82)).heap.size := by simp
  clear h hz hn hd
  cases s
  case' false => obtain ⟨r, HR⟩ : ∃ r : Bool, Hid (r = false) := ⟨_, (rfl : false = false)⟩
  case' true => obtain ⟨r, HR⟩ : ∃ r : Bool, Hid (r = decide (0 < nl N)) := ⟨_, (rfl : decide (0 < nl N) = decide (0 < nl N))⟩
  all_goals
    go_enter Tryz.func142, Tryz.ntmps142
    go_wp2_with (go_at_call 99; (with_reducible refine Calls.mono (T _ bV) ?_); rintro e w1 ⟨a1, c1, rfl, o1⟩; obtain ⟨x0, x1, f0, f1⟩ := (b1.more o1.below).cells2; obtain ⟨y0, y1, g0, g1⟩ := (b2.more o1.below).cells2)
    have q := fun x y => ((o1.above bV).set (k := w.heap.size + 1) (by omega) hs 0 x).set (k := w.heap.size + 1) (by omega) hs 1 y
    exact bodyPost_ret (v := .agg #[.bool r, .slice a1 (nl N) c1]) (by simp [results, Tryz.results142, go_sem, y0, y1, HR.out]) rfl ⟨a1, c1, by simp [HR.out], (q _ _).own (by omega)⟩
end Go.Proofs.YtbcfplaalepnbaaGreatDoor
namespace Go.Proofs.YtbcfplaalepnbaaGreatDoor
open Go.RowKit
theorem conv_byte1 (v : World) (d : UInt8) (x : Int) (hx : (d.toNat : Int) = x) :
    Sem.run Tryz.prog (convert 129 9 (.slice (some ⟨v.heap.size, 0, none⟩) 1 1)) (v.alloc (.cells #[.int .u8 x] 5)) = .ok (.string ⟨#[d]⟩) (v.alloc (.cells #[.int .u8 x] 5)) := by
  have h := run_convert_bytes_back (P := Tryz.prog) (v.alloc (.cells #[.int .u8 x] 5)) 129 9 5 ⟨v.heap.size, 0, none⟩ 1 [d] Tryz.underlying129 Tryz.underlying5 Tryz.underlying9 (fun j hj => by
    rw [Go.WideShapes.add_plain]
    have : j = 0 := by simp at hj; omega
    subst this
    simp [hx])
  exact h
set_option maxHeartbeats 2000000 in
theorem ref_print {a : Option Addr} {n c : Nat} {zs : List Int} {w : World} (h : IsWords w (.slice a n c) zs) (hz : Wd zs) (hn : n ≤ 1000000) (N : Nat) (hN : val zs = N) :
    Calls Tryz.prog 66 #[.slice a n c] w fun e w' => e = .returned (.string ⟨(decOf N).toArray⟩) ∧ Below w.heap.size w w' := by
  have T := ref_trim a n c zs w h hz (by omega)
  rw [hN] at T
  unfold Ans at T
  have lN : nl N ≤ 1000000 := by rw [← hN]; exact nl_small hz _ (by rw [h.len]; exact hn)
  clear h hz hn hN
  rcases Nat.eq_zero_or_pos N with h0 | h0
  · subst h0
    simp only [nl_zero] at T
    rw [decOf_zero]
    go_enter Tryz.func66, Tryz.ntmps66
    go_wp2_with (go_at_call 99; (with_reducible refine Calls.mono T ?_); rintro e w1 ⟨a1, c1, rfl, o1⟩)
    go_ret
    exact ⟨rfl, o1.below⟩
  · have hN0 : ((nl N : Int) == 0) = false := by have := nl_pos h0; simp; omega
    rw [decOf_pos h0]
    have LD := dg_words N
    have HL : Hid (nl N ≤ 1000000 ∧ (dg N).length ≤ 10000000) := ⟨lN, by omega⟩
    clear h0 LD lN
    go_enter Tryz.func66, Tryz.ntmps66
    go_wp2_with (go_at_call 99; (with_reducible refine Calls.mono T ?_); rintro e w1 ⟨a1, c1, rfl, o1⟩)
    clear T hN0
    go_loopg [3, 4, 5, 6, 7] N (fun X s3 s4 s5 s6 s7 v => ∃ (a3 : Option Addr) (c3 : Nat) (l : List UInt8), s3 = .slice a3 (nl X) c3 ∧ s4 = .string ⟨l.toArray⟩ ∧ Own w v (.slice a3 (nl X) c3) (nl X) (natOf X) ∧ dg X ++ l = dg N ∧ nl X ≤ 1000000)
    case atStart => exact ⟨_, _, [], rfl, rfl, o1, by simp, HL.out.1⟩
    case round =>
      obtain ⟨a3, c3, l, rfl, rfl, o3, hd, hl⟩ := hrel
      clear o1
      rcases Nat.eq_zero_or_pos gk with h0 | h0
      · subst h0
        rw [dg_zero, List.nil_append] at hd
        rw [nl_zero] at o3 ⊢
        have HD : Hid (l = dg N) := hd
        clear hd hl
        go_wp2
        go_ret
        exact ⟨by rw [← HD.out]; rfl, o3.below⟩
      · have S := ref_small4 a3 (nl gk) c3 (natOf gk) 10 wr o3.words (wd_natOf gk) (by omega) (by omega) (by omega)
        rw [val_natOf, show (10 : Int).toNat = 10 from rfl] at S
        unfold AnsSmall at S
        have hp : 0 < (nl gk : Int) := by have := nl_pos h0; omega
        have HX : Hid (dg gk ++ l = dg N ∧ 0 < gk ∧ nl gk ≤ 1000000) := ⟨hd, h0, hl⟩
        have hls : (1 : Int) + l.length ≤ 9223372036854775807 := by
          have := congrArg List.length hd
          rw [List.length_append] at this
          have := HL.out.2
          omega
        clear hd h0 hl
        obtain ⟨r, hr, r0, r1⟩ : ∃ r : Int, ((gk % 10 : Nat) : Int) = r ∧ 0 ≤ r ∧ r < 10 := ⟨_, rfl, by omega, by omega⟩
        rw [hr] at S
        have CV := fun v => conv_byte1 v (UInt8.ofNat (48 + gk % 10)) (48 + r) (by rw [digit_nat]; omega)
        have hdg := dg_pos HX.out.2.1
        generalize UInt8.ofNat (48 + gk % 10) = d at CV hdg
        have HG : Hid (dg gk = dg (gk / 10) ++ [d]) := hdg
        clear hr hdg
        go_wp2_with (go_at_call 100; (with_reducible refine Calls.mono S ?_); rintro e w2 ⟨a4, c4, rfl, o4⟩)
        obtain ⟨x1, x2, x3⟩ := HX.out
        go_roundg (gk / 10)
        case measure => omega
        case rel => exact ⟨a4, c4, d :: l, rfl, by rw [ByteArray.mk_append_mk]; simp, (o4.outer o3.below).alloc _, by rw [← x1, HG.out]; simp, Nat.le_trans (nl_mono (by omega)) x3⟩
theorem byte_eq48 {c : UInt8} (h : ((c.toNat : Int) == 48) = true) : c = 48 := by
  have h1 : (c.toNat : Int) = 48 := by simpa using h
  refine UInt8.toNat_inj.1 ?_
  show c.toNat = 48
  omega
set_option maxHeartbeats 4000000 in
theorem ref_parse (s : ByteArray) (w : World) (hs : s.size ≤ maxLen) :
    Calls Tryz.prog 178 #[.string s] w (AnsP w (pnum s.data.toList) (perr s.data.toList)) := by
  unfold maxLen at hs
  have hsz : s.data.toList.length = s.size := by simp
  by_cases h1 : 1000 < s.size
  · rw [pnum_long (by omega), perr_long (by omega)]
    clear hsz
    go_enter Tryz.func178, Tryz.ntmps178
    go_wp2
    go_ret2
    exact ansP_no (Below.refl _ _)
  have h1' : ¬ (1000 : Int) < (s.size : Int) := by omega
  by_cases h2 : s.size = 0
  · have hn : ¬ Num s.data.toList := fun h => h.1 (List.eq_nil_of_length_eq_zero (by omega))
    rw [pnum_no hn, perr_no (by omega) hn]
    clear hsz hs
    go_enter Tryz.func178, Tryz.ntmps178
    go_wp2
    go_ret2
    exact ansP_no (Below.refl _ _)
  have h2' : ((s.size : Int) == 0) = false := by rw [beq_eq_false_iff_ne]; omega
  have L1 : Own w (w.alloc (.cells #[.int .u32 1] 84)) (.slice (some ⟨w.heap.size, 0, none⟩) 1 1) 1 [1] := own_lit w w [1] 1 (Below.refl _ _) rfl (by decide)
  go_enter Tryz.func178, Tryz.ntmps178
  go_wp2
  obtain ⟨n1, l1⟩ := nat_word1 (x := 1) (by omega) (by omega)
  go_loopg [4, 5, 6] s.size (fun k s4 s5 s6 v => ∃ (a4 : Option Addr) (c4 : Nat) (a5 : Option Addr) (c5 : Nat) (n4 n5 : Nat), k ≤ s.size ∧ s4 = .slice a4 n4 c4 ∧ s5 = .slice a5 n5 c5 ∧ s6 = .int .i64 ((k : Int) - 1) ∧ n4 = nl (valD (s.data.toList.drop k)) ∧ n5 = nl (10 ^ (s.size - k)) ∧ Own w v (.slice a4 n4 c4) n4 (natOf (valD (s.data.toList.drop k))) ∧ Own w v (.slice a5 n5 c5) n5 (natOf (10 ^ (s.size - k))) ∧ DigS (s.data.toList.drop k))
  case atStart =>
    have e : s.data.toList.drop s.size = [] := List.drop_of_length_le (by simp)
    refine ⟨none, 0, _, _, _, _, Nat.le_refl _, rfl, rfl, rfl, ?_, ?_, ?_, ?_, ?_⟩
    · rw [e, valD_nil, nl_zero]
    · rw [Nat.sub_self, Nat.pow_zero, l1]
    · rw [e, valD_nil, natOf_zero]; exact Own.nil L1.below
    · rw [Nat.sub_self, Nat.pow_zero, n1]; exact L1
    · rw [e]; intro c hc; cases hc
  case round =>
    obtain ⟨a4, c4, a5, c5, n4, n5, hk, rfl, rfl, rfl, e4, e5, o4, o5, hd⟩ := hrel
    clear L1 n1 l1
    have HD : Hid (DigS (s.data.toList.drop gk)) := hd
    cases gk with
    | zero =>
      rw [List.drop_zero] at e4 o4 hd HD
      subst e4
      have HL : Hid (s.data.toList.length = s.size) := hsz
      have hpos : 0 < s.size := by omega
      have hhd : s.data.toList.head? = some s[0] := by
        have := drop_byte s 0 hpos
        rw [List.drop_zero] at this
        rw [this]; rfl
      rw [show ((0 : Nat) : Int) - 1 = -1 from rfl]
      clear e5 o5 hsz
      by_cases hc : ((s[0].toNat : Int) == 48) = true
      · have e48 := byte_eq48 hc
        by_cases hl : (1 : Int) < (s.size : Int)
        · have hn : ¬ Num s.data.toList := fun h => by
            have := h.2.2 (by rw [hhd, e48])
            have := HL.out
            omega
          have HQ : Hid (pnum s.data.toList = 0 ∧ perr s.data.toList = 2) := ⟨pnum_no hn, perr_no (by have := HL.out; omega) hn⟩
          clear hn hd HD hhd e48 h2 hs
          go_wp2
          go_ret2
          rw [HQ.out.1, HQ.out.2]
          exact ansP_no o4.below
        · have hn : Num s.data.toList := ⟨fun e => (by rw [e] at hhd; cases hhd), hd, fun _ => (by have := HL.out; omega)⟩
          have HQ : Hid (pnum s.data.toList = valD s.data.toList ∧ perr s.data.toList = 0) := ⟨pnum_ok (by have := HL.out; omega) hn, perr_ok (by have := HL.out; omega) hn⟩
          clear hn hd HD hhd e48 h2 hs
          go_wp2
          go_ret2
          rw [HQ.out.1, HQ.out.2]
          exact ⟨_, _, rfl, o4⟩
      · have hc' : ((s[0].toNat : Int) == 48) = false := by simpa using hc
        have hn : Num s.data.toList := by
          refine ⟨fun e => (by rw [e] at hhd; cases hhd), hd, fun e => ?_⟩
          rw [hhd] at e
          have := Option.some.inj e
          rw [this] at hc
          exact absurd rfl hc
        have HQ : Hid (pnum s.data.toList = valD s.data.toList ∧ perr s.data.toList = 0) := ⟨pnum_ok (by have := HL.out; omega) hn, perr_ok (by have := HL.out; omega) hn⟩
        clear hn hd HD hhd h2 hs hc
        go_wp2
        go_ret2
        rw [HQ.out.1, HQ.out.2]
        exact ⟨_, _, rfl, o4⟩
    | succ t =>
      have ht : t < s.size := by omega
      have hdr := drop_byte s t ht
      rw [show ((t + 1 : Nat) : Int) - 1 = t by omega]
      by_cases hc : 48 ≤ (s[t].toNat : Int) ∧ (s[t].toNat : Int) ≤ 57
      · obtain ⟨c0, c1⟩ := hc
        have HV : Hid (valD (s.data.toList.drop t) = 10 ^ (s.size - (t + 1)) * (s[t].toNat - 48) + 0 + valD (s.data.toList.drop (t + 1))) := by
          show _ = _
          rw [hdr, valD_cons, List.length_drop, hsz, Nat.mul_comm]; omega
        have HP : Hid (10 ^ (s.size - t) = 10 ^ (s.size - (t + 1)) * 10 + 0) := by
          show _ = _
          rw [← Nat.pow_succ]; congr 1; omega
        have HD2 : Hid (DigS (s.data.toList.drop t)) := by
          show DigS _
          rw [hdr, digS_cons]; exact ⟨by omega, hd⟩
        have b4 := nl_digits hd
        rw [List.length_drop, hsz] at b4
        have b5 := nl_ten (s.size - (t + 1))
        have O1 := fun v (p : IsWords v (.slice a5 n5 c5) (natOf (10 ^ (s.size - (t + 1))))) => ref_one a5 n5 c5 _ ((s[t].toNat : Int) - 48) 0 v p (wd_natOf _) (by omega) (by omega) (by omega) (by omega) (by omega)
        have O2 := fun v (p : IsWords v (.slice a5 n5 c5) (natOf (10 ^ (s.size - (t + 1))))) => ref_one a5 n5 c5 _ 10 0 v p (wd_natOf _) (by omega) (by omega) (by omega) (by omega) (by omega)
        simp only [val_natOf, show (0 : Int).toNat = 0 from rfl, show (10 : Int).toNat = 10 from rfl, show ((s[t].toNat : Int) - 48).toNat = s[t].toNat - 48 by omega] at O1 O2
        rw [← HP.out] at O2
        have b6 : nl (10 ^ (s.size - (t + 1)) * (s[t].toNat - 48) + 0) ≤ 2000 := by
          have h1 : 10 ^ (s.size - (t + 1)) * (s[t].toNat - 48) + 0 ≤ 10 ^ (s.size - t) := by
            rw [HP.out]; exact Nat.add_le_add_right (Nat.mul_le_mul_left _ (by omega)) 0
          exact Nat.le_trans (nl_mono h1) (Nat.le_trans (nl_ten _) (by omega))
        have AD := fun v a1 c1 (p : IsWords v (.slice a4 n4 c4) (natOf (valD (s.data.toList.drop (t + 1))))) (q : IsWords v (.slice a1 (nl (10 ^ (s.size - (t + 1)) * (s[t].toNat - 48) + 0)) c1) (natOf (10 ^ (s.size - (t + 1)) * (s[t].toNat - 48) + 0))) => ref_nadd _ _ _ _ _ _ _ _ v p (wd_natOf _) q (wd_natOf _) (by omega) (by omega)
        simp only [val_natOf] at AD
        rw [Nat.add_comm (valD _), ← HV.out] at AD
        unfold Ans at O1 O2 AD
        clear HV HP
        generalize 10 ^ (s.size - (t + 1)) * (s[t].toNat - 48) + 0 = K1 at O1 AD b6
        generalize 10 ^ (s.size - (t + 1)) = K2 at O1 O2 o5 e5 b5
        generalize hK3 : 10 ^ (s.size - t) = K3 at O2
        generalize valD (s.data.toList.drop (t + 1)) = K4 at e4 o4 b4 AD
        generalize hK5 : valD (s.data.toList.drop t) = K5 at AD
        have HK : Hid (10 ^ (s.size - t) = K3 ∧ valD (s.data.toList.drop t) = K5) := ⟨hK3, hK5⟩
        clear hK3 hK5 hdr hd HD hsz hs b4 b5 b6 e4 e5 h2
        go_wp2_with (first
          | (go_at_call 127; (with_reducible refine Calls.mono (O1 _ o5.words) ?_); rintro e w2 ⟨a6, c6, rfl, o6⟩; have p4 := o4.more o6.below; have p5 := o5.more o6.below)
          | (go_at_call 196; (with_reducible refine Calls.mono (AD _ _ _ p4.words o6.words) ?_); rintro e w3 ⟨a7, c7, rfl, o7⟩; have q5 := p5.more o7.below)
          | (go_at_call 127; (with_reducible refine Calls.mono (O2 _ q5.words) ?_); rintro e w4 ⟨a8, c8, rfl, o8⟩; have r7 := (o7.more o8.below).outer p4.below; have r8 := o8.outer q5.below))
        obtain ⟨k3, k5⟩ := HK.out
        go_roundg t
        case measure => omega
        case rel => exact ⟨_, _, _, _, _, _, by omega, rfl, rfl, by go_num, by rw [k5], by rw [k3], by rw [k5]; exact r7, by rw [k3]; exact r8, HD2.out⟩
      · have hn : ¬ Num s.data.toList := fun h => by
          have := h.2.1 s[t] (by rw [← List.take_append_drop t s.data.toList, hdr]; simp)
          omega
        have HQ : Hid (pnum s.data.toList = 0 ∧ perr s.data.toList = 2) := ⟨pnum_no hn, perr_no (by omega) hn⟩
        rcases (by omega : (s[t].toNat : Int) < 48 ∨ (¬ (s[t].toNat : Int) < 48 ∧ 57 < (s[t].toNat : Int))) with c0 | ⟨c0, c1⟩
        all_goals
          clear hn hdr hd HD hsz hs hc e4 e5 o5 h2
          go_wp2
          go_ret2
          rw [HQ.out.1, HQ.out.2]
          exact ansP_no o4.below
end Go.Proofs.YtbcfplaalepnbaaGreatDoor
