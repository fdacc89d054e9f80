/-
  Texts of mine put together in build order: Own, SignMath, SignPlace, SignTexts, SignRef, SignRefB, SignKind, Limb, LimbB, Words, Box, Came, NatMath, NatA, Words2, Boxes, SignRefC, SignRefD, SignWalks, SignA, StrIter. Each says at its head what it proves. No conditions of its own.
-/
import Derived.WalkKit
import Derived.ProofKit
import Derived.Lib.AppendZerosOnto
import Derived.Lib.DecodeN
import Derived.Test.YtfdheodkipfpeaaRows
import Derived.WalkLawsBesides
import Derived.Deep.QuietTactic
import Derived.BigQuiet
import Derived.Outline
import Derived.Lib.BitFns
import Derived.OpenShut
import Derived.Laws.CopyOwn
import Derived.Deep.LoopGhost
import Derived.Lib.OthersKept
/-
  A law of no program: append(s, make([]T, k)...) onto a row that the call itself owns: k zero values are owned behind what was, whether there was room or not. Conditions: one cell an element; Go's own limits on sizes.
-/
namespace Go.Proofs.Ytfdheodkipfpeaa
open Go.RowKit

theorem zeroCells_one (z : Value) (n : Nat) : (Builtin.zeroCells #[z] n).toList = List.replicate n z := by
  apply List.ext_getElem?
  intro j
  by_cases hj : j < n
  · simp [Builtin.zeroCells, hj, Nat.mod_one]
  · simp [Builtin.zeroCells, hj]

theorem run_append_zeros_own {P : Program} (w : World) (base : Nat) (t tn ty e : TypeId) (i : TypeInfo) (z : Value) (kq kn : IntKind) (ht : P.underlying t = some (.slice e)) (htn : P.underlying tn = some (.int kn))
    (hi : P.info? e = some i) (hz : i.zero = some z) (hsize : i.size = 1) (hzc : z.cells = #[z]) (hone : z.oneCell' = true)
    (v : Value) (n : Nat) (xs : List Value) (hown : w.ownsRow base e 1 v n xs) (k : Nat) (h63 : n + k ≤ maxLen) (hbytes : (n + k) * i.bytes ≤ 140737488355328) (hbase : base ≤ w.heap.size) :
    ∃ v' w', (Builtin.append_ #[t, tn] ty #[v, .int kq k]).run P w = .ok v' w' ∧ w'.ownsRow base e 1 v' (n + k) (xs ++ List.replicate k z) ∧ w.grownBy w' v.ownBlock := by
  have hsmall : n + k ≤ 9223372036854775807 := by simp only [maxLen] at h63; omega
  have hlen : (xs ++ List.replicate k z).length = (n + k) * 1 := by rw [List.length_append, hown.1, List.length_replicate]; omega
  have h48 : k * i.bytes ≤ 281474976710656 := by
    have : k * i.bytes ≤ (n + k) * i.bytes := Nat.mul_le_mul_right _ (by omega)
    omega
  have hw : IntKind.i64.wrap (k : Int) = k := by rw [IntKind.wrap_i64]; omega
  have hw0 : IntKind.i64.wrap 0 = 0 := by rw [IntKind.wrap_i64]; omega
  have hneg : ¬ ((k : Int) < 0) := by omega
  have h48i : ¬ (281474976710656 < (k : Int) * (i.bytes : Int)) := by
    rw [← Int.natCast_mul]; omega
  have grown : ∀ (old : Nat) (row : Option Nat),
      (w.drew.alloc (.cells (xs.toArray ++ Builtin.zeroCells z.cells k ++ Builtin.zeroCells z.cells (grownCap w (n + k) old e - (n + k))) e)).ownsRow base e 1
        (.slice (some ⟨w.heap.size, 0, none⟩) (n + k) (grownCap w (n + k) old e)) (n + k) (xs ++ List.replicate k z) ∧
      w.grownBy (w.drew.alloc (.cells (xs.toArray ++ Builtin.zeroCells z.cells k ++ Builtin.zeroCells z.cells (grownCap w (n + k) old e - (n + k))) e)) row := by
    intro old row
    have hge := grownCap_ge w (n + k) old e
    have hcm : grownCap w (n + k) old e ≤ maxLen := grownCap_le_maxLen w (n + k) old e h63
    refine ⟨⟨hlen, .inr ⟨w.heap.size, _, _, rfl, hbase, heap_alloc_new w.drew _, hge, hcm, ?_, ?_⟩⟩, ⟨rfl, rfl, rfl, by simp, fun j hj _ => Below.heap_alloc w.drew _ j hj⟩⟩
    · simp only [Array.size_append, List.size_toArray, size_zeroCells, hzc, hown.1]
      simp; omega
    · simp only [Array.toList_append, hzc, zeroCells_one]
      rw [← hlen]
      exact List.take_left
  rcases hown.2 with ⟨rfl, rfl⟩ | ⟨g, cap, cur, rfl, hbg, hg, hnc, hcm, hcs, htake⟩
  · have hx : xs = [] := List.eq_nil_of_length_eq_zero (by simpa using hown.1)
    subst hx
    by_cases hk : k = 0
    · subst hk
      refine ⟨.slice none 0 0, w, ?_, World.ownsRow_nil w base e 1, ⟨rfl, rfl, rfl, Nat.le_refl _, fun _ _ _ => rfl⟩⟩
      simp [Builtin.append_, run_underlying ht, run_underlying htn, sizeOf, typeInfo, hi, asInt, asIntOf, hw0]
    · have hr := Lib.run_append_nil_zeros (P := P) w t tn ty e i z kq kn ht htn hi hz k (by omega) (by omega) (by omega) h48
      have hgr := grown 0 (Value.ownBlock (.slice none 0 0))
      simp only [Nat.zero_add, List.nil_append, Array.empty_append] at hgr ⊢
      exact ⟨_, _, hr, hgr.1, hgr.2⟩
  · by_cases hroom : n + k ≤ cap
    · have hst := run_storeCells_at P g n e (List.replicate k z) 0 cur w hg (by simp only [Nat.add_zero, List.length_replicate]; omega) (by intro u hu; rw [List.eq_of_mem_replicate hu]; exact hone)
      simp only [Nat.add_zero] at hst
      have hr : (Builtin.append_ #[t, tn] ty #[.slice (some ⟨g, 0, none⟩) n cap, .int kq k]).run P w = .ok (.slice (some ⟨g, 0, none⟩) (n + k) cap) (w.setRow g (cur.toList.take n ++ List.replicate k z ++ cur.toList.drop (n + (List.replicate k z).length)).toArray) := by
        by_cases hk : k = 0
        · subst hk
          simp at hst
          simp [Builtin.append_, run_underlying ht, run_underlying htn, sizeOf, typeInfo, hi, asInt, asIntOf, hw0, hsize, hnc, Addr.add_lit, hst]
        · have hns : ¬ (k * i.size = 0) := by rw [hsize]; omega
          simp [Builtin.append_, run_underlying ht, run_underlying htn, sizeOf, typeInfo, zeroValue, hi, hz, asInt, asIntOf, hw, hsize, hk, hneg, h48i, hroom, Addr.add_lit, hzc, zeroCells_one, hst]
      refine ⟨_, _, hr, ⟨hlen, .inr ⟨g, cap, _, rfl, hbg, setRow_heap w g cur _ e _ hg, hroom, hcm, ?_, ?_⟩⟩, ⟨rfl, rfl, rfl, by simp, fun j _ hj => setRow_other w g j _ (fun e => hj (by simp [Value.ownBlock, e]))⟩⟩
      · simp only [List.size_toArray, List.length_append, List.length_take, List.length_drop, Array.length_toList, List.length_replicate]
        omega
      · have ht' : cur.toList.take n = xs := by simpa using htake
        rw [ht', ← hlen]
        exact List.take_left
    · by_cases hk : k = 0
      · omega
      · have holds : ∀ j u, xs[j]? = some u → w.cell? ((⟨g, 0, none⟩ : Addr).add j) = some u := hown.cells (g := g) rfl
        have hf := run_firstCells_some (P := P) w.drew i.size n ⟨g, 0, none⟩ n cap xs (by rw [hsize]; exact hown.1) holds
        have hr := Lib.run_append_grow_zeros (P := P) w t tn ty e i z kq kn ht htn hi hz (some ⟨g, 0, none⟩) n cap xs hf k (by omega) (by omega) (by omega) (by omega) h48 (growslice_fits (by omega) hbytes)
        have hgr := grown cap (Value.ownBlock (.slice (some ⟨g, 0, none⟩) n cap))
        exact ⟨_, _, hr, hgr.1, hgr.2⟩

theorem wpList_append_zeros {P : Program} (w : World) {ops : Array Oper} {rest : List Oper} {o : Oper} {a : Act} {Q : Exit → Act → World → Prop} (hgd : o.guard = none) (s x : Operand) (t tn : TypeId)
    (ho : o.op = .call { callee := .builtin .append, args := #[s, x], argTypes := #[t, tn] })
    (base : Nat) (e : TypeId) (i : TypeInfo) (z : Value) (kq kn : IntKind) (ht : P.underlying t = some (.slice e)) (htn : P.underlying tn = some (.int kn))
    (hi : P.info? e = some i) (hz : i.zero = some z) (hsize : i.size = 1) (hzc : z.cells = #[z]) (hone : z.oneCell' = true)
    (v : Value) (n : Nat) (xs : List Value) (hs : a.eval s = v) (hown : w.ownsRow base e 1 v n xs) (k : Nat) (K : Int) (hx : a.eval x = .int kq K) (hK : K = (k : Int)) (h63 : n + k ≤ maxLen) (hbytes : (n + k) * i.bytes ≤ 140737488355328) (hbase : base ≤ w.heap.size)
    (h : ∀ v' w', w'.ownsRow base e 1 v' (n + k) (xs ++ List.replicate k z) → w.grownBy w' v.ownBlock → wpList P ops Q rest (a.put o.dst v') w') : wpList P ops Q (o :: rest) a w := by
  subst hK
  obtain ⟨v', w', hr, h1, h2⟩ := run_append_zeros_own (P := P) w base t tn o.type e i z kq kn ht htn hi hz hsize hzc hone v n xs hown k h63 hbytes hbase
  exact Lib.wpList_append_run w hgd s x t tn ho v (.int kq k) hs hx v' w' hr (h v' w' h1 h2)
end Go.Proofs.Ytfdheodkipfpeaa
/-
  Laws of no function: kinds of runes, the rune at a byte (by the model's own decoding), places, names: as functions of numbers and texts. No conditions of the program.
-/
namespace Go.Proofs.Ytfdheodkipfpeaa
open Go.Lib

/-- The kind of a number. -/
def kindI (r : Int) : Int :=
  if 97 ≤ r ∧ r ≤ 122 ∨ 65 ≤ r ∧ r ≤ 90 ∨ r = 95 ∨ 128 ≤ r ∧ r ≤ 1114111 ∧ r ≠ 65533 then 1
  else if 48 ≤ r ∧ r ≤ 57 then 2
  else if r = 9 ∨ r = 10 ∨ r = 13 ∨ r = 32 then 3
  else if r = 43 ∨ r = 45 ∨ r = 42 ∨ r = 47 ∨ r = 94 ∨ r = 40 ∨ r = 41 ∨ r = 61 ∨ r = 59 ∨ r = 44 then 4
  else 0

theorem kindI_range (r : Int) : 0 ≤ kindI r ∧ kindI r ≤ 4 := by
  unfold kindI; repeat' split
  all_goals omega

/-- The rune at a byte, and how many bytes it has. -/
def nextR (s : ByteArray) (i : Nat) : Int := (Utf8.decode s i).1
def nextN (s : ByteArray) (i : Nat) : Nat := (Utf8.decode s i).2

theorem decodeN_one {n b0 b1 b2 b3 : Nat} (h : b0 < 128) : decodeN n b0 b1 b2 b3 = (b0, 1) := by unfold decodeN; rw [if_pos h]
set_option maxRecDepth 100000 in
set_option maxHeartbeats 4000000 in
theorem decodeN_two {n b0 b1 b2 b3 : Nat} (h : 194 ≤ b0 ∧ b0 ≤ 223) (h1 : 1 < n ∧ 128 ≤ b1 ∧ b1 ≤ 191) : decodeN n b0 b1 b2 b3 = ((b0 - 192) * 64 + b1 % 64, 2) := by
  unfold decodeN; repeat' split
  all_goals first | (exfalso; omega) | (apply Prod.ext <;> simp only <;> omega)
set_option maxRecDepth 100000 in
set_option maxHeartbeats 4000000 in
theorem decodeN_three {n b0 b1 b2 b3 : Nat} (h : 224 ≤ b0 ∧ b0 ≤ 239) (h1 : 1 < n ∧ (if b0 = 224 then 160 else 128) ≤ b1 ∧ b1 ≤ (if b0 = 237 then 159 else 191)) (h2 : 2 < n ∧ 128 ≤ b2 ∧ b2 ≤ 191) :
    decodeN n b0 b1 b2 b3 = ((b0 - 224) * 4096 + b1 % 64 * 64 + b2 % 64, 3) := by
  unfold decodeN; repeat' split
  all_goals first | (exfalso; split at h1 <;> split at h1 <;> omega) | (apply Prod.ext <;> simp only <;> split at h1 <;> split at h1 <;> omega)
set_option maxRecDepth 100000 in
set_option maxHeartbeats 4000000 in
theorem decodeN_four {n b0 b1 b2 b3 : Nat} (h : 240 ≤ b0 ∧ b0 ≤ 244) (h1 : 1 < n ∧ (if b0 = 240 then 144 else 128) ≤ b1 ∧ b1 ≤ (if b0 = 244 then 143 else 191)) (h2 : 2 < n ∧ 128 ≤ b2 ∧ b2 ≤ 191) (h3 : 3 < n ∧ 128 ≤ b3 ∧ b3 ≤ 191) :
    decodeN n b0 b1 b2 b3 = ((b0 - 240) * 262144 + b1 % 64 * 4096 + b2 % 64 * 64 + b3 % 64, 4) := by
  unfold decodeN; repeat' split
  all_goals first | (exfalso; split at h1 <;> split at h1 <;> omega) | (apply Prod.ext <;> simp only <;> split at h1 <;> split at h1 <;> omega)
set_option maxRecDepth 100000 in
set_option maxHeartbeats 4000000 in
theorem decodeN_none {n b0 b1 b2 b3 : Nat} (hb : b0 < 256) (h0 : ¬ b0 < 128) (h2 : ¬ ((194 ≤ b0 ∧ b0 ≤ 223) ∧ (1 < n ∧ 128 ≤ b1 ∧ b1 ≤ 191)))
    (h3 : ¬ ((224 ≤ b0 ∧ b0 ≤ 239) ∧ (1 < n ∧ (if b0 = 224 then 160 else 128) ≤ b1 ∧ b1 ≤ (if b0 = 237 then 159 else 191)) ∧ (2 < n ∧ 128 ≤ b2 ∧ b2 ≤ 191)))
    (h4 : ¬ ((240 ≤ b0 ∧ b0 ≤ 244) ∧ (1 < n ∧ (if b0 = 240 then 144 else 128) ≤ b1 ∧ b1 ≤ (if b0 = 244 then 143 else 191)) ∧ (2 < n ∧ 128 ≤ b2 ∧ b2 ≤ 191) ∧ (3 < n ∧ 128 ≤ b3 ∧ b3 ≤ 191))) :
    decodeN n b0 b1 b2 b3 = (65533, 1) := by
  have e3 : ¬ (b0 = 224) ∨ b0 = 224 := by omega
  unfold decodeN
  split
  · omega
  split
  · split
    · exfalso; omega
    · rfl
  split
  · split
    · exfalso
      apply h3
      refine ⟨by omega, ⟨by omega, ?_, ?_⟩, by omega⟩
      · split <;> omega
      · split <;> omega
    · rfl
  split
  · split
    · exfalso
      apply h4
      refine ⟨by omega, ⟨by omega, ?_, ?_⟩, by omega, by omega⟩
      · split <;> omega
      · split <;> omega
    · rfl
  · rfl
end Go.Proofs.Ytfdheodkipfpeaa
/-
  Laws of no function: places in a text, as a function of the text; they go on rune by rune; behind lines another text's places are its own. No conditions of the program.
-/
namespace Go.Proofs.Ytfdheodkipfpeaa
open Go.Lib

/-- A byte of a text, 0 behind its end. -/
def bt (s : ByteArray) (i : Nat) : Nat := (s.get! i).toNat
theorem bt_lt (s : ByteArray) (i : Nat) : bt s i < 256 := UInt8.toNat_lt _
theorem decode_bt (s : ByteArray) (i : Nat) : Utf8.decode s i = decodeN (s.size - i) (bt s i) (bt s (i + 1)) (bt s (i + 2)) (bt s (i + 3)) := decode_at s i

set_option maxRecDepth 100000 in
set_option maxHeartbeats 4000000 in
theorem decodeN_size (n b0 b1 b2 b3 : Nat) (hn : 1 ≤ n) : 1 ≤ (decodeN n b0 b1 b2 b3).2 ∧ (decodeN n b0 b1 b2 b3).2 ≤ 4 ∧ (decodeN n b0 b1 b2 b3).2 ≤ n := by
  unfold decodeN; repeat' split
  all_goals simp only
  all_goals omega
set_option maxRecDepth 100000 in
set_option maxHeartbeats 4000000 in
/-- The bytes of a rune behind its first one are 128 and more. -/
theorem decodeN_inner (n b0 b1 b2 b3 : Nat) : (1 < (decodeN n b0 b1 b2 b3).2 → 128 ≤ b0 ∧ 128 ≤ b1) ∧ (2 < (decodeN n b0 b1 b2 b3).2 → 128 ≤ b2) ∧ (3 < (decodeN n b0 b1 b2 b3).2 → 128 ≤ b3) := by
  unfold decodeN; repeat' split
  all_goals simp only
  all_goals refine ⟨fun h => ?_, fun h => ?_, fun h => ?_⟩
  all_goals omega
set_option maxRecDepth 100000 in
set_option maxHeartbeats 4000000 in
/-- A rune below 128 is its byte. -/
theorem decodeN_low (n b0 b1 b2 b3 : Nat) : (decodeN n b0 b1 b2 b3).1 < 128 ↔ b0 < 128 := by
  unfold decodeN; repeat' split
  all_goals simp only
  all_goals constructor
  all_goals intro h
  all_goals omega
set_option maxRecDepth 100000 in
set_option maxHeartbeats 4000000 in
theorem decodeN_range (n b0 b1 b2 b3 : Nat) : (decodeN n b0 b1 b2 b3).1 ≤ 1114111 := by
  unfold decodeN; repeat' split
  all_goals simp only
  all_goals omega
set_option maxRecDepth 100000 in
set_option maxHeartbeats 4000000 in
/-- What lies behind a rune doesn't count. -/
theorem decodeN_more {n n' b0 b1 b2 b3 b1' b2' b3' : Nat} (h : (decodeN n b0 b1 b2 b3).1 ≠ 65533) (hn : n ≤ n') (h1 : 1 < n → b1' = b1) (h2 : 2 < n → b2' = b2) (h3 : 3 < n → b3' = b3) : decodeN n' b0 b1' b2' b3' = decodeN n b0 b1 b2 b3 := by
  unfold decodeN at h ⊢
  by_cases k1 : 1 < n
  · obtain rfl := h1 k1
    by_cases k2 : 2 < n
    · obtain rfl := h2 k2
      by_cases k3 : 3 < n
      · obtain rfl := h3 k3
        simp only [show 1 < n' from by omega, show 2 < n' from by omega, show 3 < n' from by omega, k1, k2, k3]
      · simp only [show 1 < n' from by omega, show 2 < n' from by omega, k1, k2, k3, false_and, and_false, if_false] at h ⊢
        repeat' split
        all_goals first | rfl | (exfalso; simp_all; done) | (exfalso; omega)
    · simp only [show 1 < n' from by omega, k1, k2, show ¬ 3 < n from by omega, false_and, and_false, if_false] at h ⊢
      repeat' split
      all_goals first | rfl | (exfalso; simp_all; done) | (exfalso; omega)
  · simp only [k1, show ¬ 2 < n from by omega, show ¬ 3 < n from by omega, false_and, and_false, if_false] at h ⊢
    by_cases hb : b0 < 128
    · rw [if_pos hb]; rw [if_pos hb]
    · rw [if_neg hb] at h; exact absurd rfl h

theorem next_size {s : ByteArray} {i : Nat} (h : i < s.size) : 1 ≤ nextN s i ∧ nextN s i ≤ 4 ∧ i + nextN s i ≤ s.size := by
  unfold nextN; rw [decode_bt]
  have := decodeN_size (s.size - i) (bt s i) (bt s (i + 1)) (bt s (i + 2)) (bt s (i + 3)) (by omega)
  omega
theorem next_range (s : ByteArray) (i : Nat) : 0 ≤ nextR s i ∧ nextR s i ≤ 1114111 := by
  unfold nextR; rw [decode_bt]
  have := decodeN_range (s.size - i) (bt s i) (bt s (i + 1)) (bt s (i + 2)) (bt s (i + 3))
  omega
theorem next_inner {s : ByteArray} {i k : Nat} (h0 : i < k) (h1 : k < i + nextN s i) : 128 ≤ bt s i ∧ 128 ≤ bt s k := by
  unfold nextN at h1; rw [decode_bt] at h1
  have a := decodeN_inner (s.size - i) (bt s i) (bt s (i + 1)) (bt s (i + 2)) (bt s (i + 3))
  have b : (decodeN (s.size - i) (bt s i) (bt s (i + 1)) (bt s (i + 2)) (bt s (i + 3))).2 ≤ 4 := by
    generalize hX : decodeN (s.size - i) (bt s i) (bt s (i + 1)) (bt s (i + 2)) (bt s (i + 3)) = X at *
    unfold decodeN at hX
    repeat' split at hX
    all_goals (subst hX; simp only; omega)
  refine ⟨(a.1 (by omega)).1, ?_⟩
  rcases (by omega : k = i + 1 ∨ k = i + 2 ∨ k = i + 3) with rfl | rfl | rfl
  · exact (a.1 (by omega)).2
  · exact a.2.1 (by omega)
  · exact a.2.2 (by omega)
theorem next_low (s : ByteArray) (i : Nat) : nextR s i < 128 ↔ bt s i < 128 := by
  unfold nextR; rw [decode_bt]
  have := decodeN_low (s.size - i) (bt s i) (bt s (i + 1)) (bt s (i + 2)) (bt s (i + 3))
  omega
theorem next_byte {s : ByteArray} {i : Nat} (h : bt s i < 128) : nextR s i = bt s i ∧ nextN s i = 1 := by
  unfold nextR nextN; rw [decode_bt, decodeN_one h]; exact ⟨rfl, rfl⟩
theorem next_line (s : ByteArray) (i : Nat) : nextR s i = 10 ↔ bt s i = 10 := by
  constructor
  · intro h
    have := (next_low s i).1 (by omega)
    have := (next_byte this).1
    omega
  · intro h
    have := (next_byte (s := s) (i := i) (by omega)).1
    omega

/-- The place of the byte at, from a rune's beginning on. -/
def placeF (s : ByteArray) (at_ : Int) : Nat → Nat → Int → Int → Int × Int
  | 0, _, l, c => (l, c)
  | f + 1, i, l, c => if i < s.size then (if at_ < i + nextN s i then (l, c) else placeF s at_ f (i + nextN s i) (if nextR s i = 10 then l + 1 else l) (if nextR s i = 10 then 1 else c + 1)) else (l, c)
/-- The place of a byte. -/
def placeI (s : ByteArray) (at_ : Int) : Int × Int := placeF s at_ (s.size + 1) 0 1 1

/-- Enough is enough. -/
theorem placeF_more (s : ByteArray) (at_ : Int) : ∀ f i l c, s.size < i + f → ∀ g, s.size < i + g → placeF s at_ f i l c = placeF s at_ g i l c := by
  intro f
  induction f with
  | zero =>
    intro i l c hf g hg
    cases g with
    | zero => rfl
    | succ g => unfold placeF; rw [if_neg (by omega)]
  | succ f ih =>
    intro i l c hf g hg
    cases g with
    | zero => unfold placeF; rw [if_neg (by omega)]
    | succ g =>
      unfold placeF
      by_cases h : i < s.size
      · have := next_size h
        rw [if_pos h, if_pos h, ih _ _ _ (by omega) g (by omega)]
      · rw [if_neg h, if_neg h]

/-- A rune begins at i, and its place is this. -/
def At (s : ByteArray) (i : Nat) (l c : Int) : Prop := i ≤ s.size ∧ ∀ at_ : Int, (i : Int) ≤ at_ → ∀ f, s.size < i + f → placeI s at_ = placeF s at_ f i l c
theorem At.zero (s : ByteArray) : At s 0 1 1 := ⟨Nat.zero_le _, fun at_ _ f hf => placeF_more s at_ _ _ _ _ (by omega) f hf⟩
theorem At.here {s : ByteArray} {i : Nat} {l c : Int} (h : At s i l c) {at_ : Int} (h0 : (i : Int) ≤ at_) (h1 : at_ < i + nextN s i) (hi : i < s.size) : placeI s at_ = (l, c) := by
  rw [h.2 at_ h0 (s.size + 1) (by omega)]; unfold placeF; rw [if_pos hi, if_pos h1]
theorem At.last {s : ByteArray} {l c : Int} (h : At s s.size l c) {at_ : Int} (h0 : (s.size : Int) ≤ at_) : placeI s at_ = (l, c) := by
  rw [h.2 at_ h0 1 (by omega)]; unfold placeF; rw [if_neg (by omega)]
theorem At.next {s : ByteArray} {i : Nat} {l c : Int} (h : At s i l c) (hi : i < s.size) : At s (i + nextN s i) (if nextR s i = 10 then l + 1 else l) (if nextR s i = 10 then 1 else c + 1) := by
  have hz := next_size hi
  refine ⟨by omega, fun at_ h0 f hf => ?_⟩
  rw [h.2 at_ (by omega) (f + nextN s i) (by omega)]
  obtain ⟨g, hg⟩ : ∃ g, f + nextN s i = g + 1 := ⟨f + nextN s i - 1, by omega⟩
  rw [hg]
  show (if i < s.size then _ else _) = _
  rw [if_pos hi, if_neg (by omega)]
  exact placeF_more s at_ _ _ _ _ (by omega) _ (by omega)
theorem place_low (s : ByteArray) {at_ : Int} (h : at_ < 0) : placeI s at_ = (1, 1) := by
  unfold placeI placeF
  by_cases h0 : 0 < s.size
  · rw [if_pos h0, if_pos (by omega)]
  · rw [if_neg h0]
end Go.Proofs.Ytfdheodkipfpeaa
/-
  Laws of no function: places behind lines; names, and names with one byte more. No conditions of the program.
-/
namespace Go.Proofs.Ytfdheodkipfpeaa
open Go.Lib

/-- How many lines end ahead of a byte. -/
def lines (s : ByteArray) : Nat → Nat
  | 0 => 0
  | i + 1 => lines s i + (if bt s i = 10 then 1 else 0)
theorem lines_le (s : ByteArray) (i : Nat) : lines s i ≤ i := by
  induction i with
  | zero => exact Nat.le_refl _
  | succ i ih => unfold lines; split <;> omega
theorem lines_same {s : ByteArray} {i : Nat} : ∀ k, (∀ j, i ≤ j → j < i + k → bt s j ≠ 10) → lines s (i + k) = lines s i := by
  intro k
  induction k with
  | zero => intro _; rfl
  | succ k ih =>
    intro h
    rw [show i + (k + 1) = (i + k) + 1 from rfl]
    show lines s (i + k) + (if bt s (i + k) = 10 then 1 else 0) = _
    rw [if_neg (h (i + k) (by omega) (by omega)), ih (fun j h0 h1 => h j h0 (by omega))]; rfl
theorem lines_rune {s : ByteArray} {i : Nat} (hi : i < s.size) : lines s (i + nextN s i) = lines s i + (if nextR s i = 10 then 1 else 0) := by
  have hz := next_size hi
  by_cases h : bt s i = 10
  · rw [if_pos ((next_line s i).2 h), (next_byte (by omega)).2]
    show lines s i + (if bt s i = 10 then 1 else 0) = _
    rw [if_pos h]
  · rw [if_neg (fun e => h ((next_line s i).1 e))]
    refine lines_same _ fun j h0 h1 => ?_
    rcases Nat.lt_or_ge i j with hj | hj
    · have := (next_inner hj h1).2; omega
    · obtain rfl : i = j := by omega
      exact h

/-- Behind the first k bytes, of which the last one ends a line, a rune begins. -/
theorem at_line {u : ByteArray} {k : Nat} (hk : k < u.size) (h10 : bt u k = 10) : ∀ m i l c, At u i l c → i ≤ k → k - i ≤ m → ∃ c', At u k (l + ((lines u k : Int) - lines u i)) c' := by
  intro m
  induction m with
  | zero =>
    intro i l c h hi hm
    obtain rfl : i = k := by omega
    exact ⟨c, by rw [Int.sub_self, Int.add_zero]; exact h⟩
  | succ m ih =>
    intro i l c h hi hm
    rcases Nat.lt_or_ge i k with hlt | hge
    · have hs := next_size (s := u) (i := i) (by omega)
      have hin : i + nextN u i ≤ k := by
        rcases Nat.lt_or_ge k (i + nextN u i) with hb | hb
        · have := (next_inner hlt hb).2; omega
        · exact hb
      have hr := lines_rune (s := u) (i := i) (by omega)
      obtain ⟨c', hc⟩ := ih _ _ _ (h.next (by omega)) hin (by omega)
      refine ⟨c', ?_⟩
      have e : (if nextR u i = 10 then l + 1 else l) + ((lines u k : Int) - lines u (i + nextN u i)) = l + ((lines u k : Int) - lines u i) := by
        rw [hr]; split <;> omega
      rw [e] at hc; exact hc
    · obtain rfl : i = k := by omega
      exact ⟨c, by rw [Int.sub_self, Int.add_zero]; exact h⟩

/-- Another text behind k bytes: its places, so many lines further on. -/
theorem placeF_shift {u t : ByteArray} {k : Nat} (hz : u.size = k + t.size) (hb : ∀ j, bt u (k + j) = bt t j) (at_ : Int) (n : Int) : ∀ f i l c, placeF u (k + at_) f (k + i) (l + n) c = ((placeF t at_ f i l c).1 + n, (placeF t at_ f i l c).2) := by
  intro f
  induction f with
  | zero => intro i l c; rfl
  | succ f ih =>
    intro i l c
    have hd : Utf8.decode u (k + i) = Utf8.decode t i := by
      rw [decode_bt, decode_bt, hb i, show k + i + 1 = k + (i + 1) by omega, show k + i + 2 = k + (i + 2) by omega, show k + i + 3 = k + (i + 3) by omega, hb, hb, hb, hz, Nat.add_sub_add_left]
    have hR : nextR u (k + i) = nextR t i := by unfold nextR; rw [hd]
    have hN : nextN u (k + i) = nextN t i := by unfold nextN; rw [hd]
    unfold placeF
    rw [hR, hN]
    by_cases h1 : i < t.size
    · rw [if_pos h1, if_pos (show k + i < u.size by omega)]
      by_cases h2 : at_ < (i : Int) + nextN t i
      · rw [if_pos h2, if_pos (show (k : Int) + at_ < ((k + i : Nat) : Int) + nextN t i by omega)]
      · rw [if_neg h2, if_neg (show ¬ (k : Int) + at_ < ((k + i : Nat) : Int) + nextN t i by omega), show k + i + nextN t i = k + (i + nextN t i) by omega]
        rw [← ih]
        congr 1
        split <;> omega
    · rw [if_neg h1, if_neg (show ¬ k + i < u.size by omega)]

theorem bt_data (u : ByteArray) (j : Nat) : u.get! j = u.data[j]! := rfl
theorem bt_get {s : ByteArray} {i : Nat} (h : i < s.size) : bt s i = s[i].toNat := by
  unfold bt
  have h' : i < s.data.size := h
  rw [bt_data, getElem!_pos s.data i h']; rfl
theorem bt_append_left (s t : ByteArray) {i : Nat} (h : i < s.size) : bt (s ++ t) i = bt s i := by
  unfold bt
  congr 1
  have h' : i < s.data.size := h
  rw [bt_data, bt_data, ByteArray.data_append, getElem!_pos _ _ (by rw [Array.size_append]; omega), getElem!_pos s.data i h', Array.getElem_append_left h']
theorem bt_append_right (s t : ByteArray) (j : Nat) : bt (s ++ t) (s.size + j) = bt t j := by
  unfold bt
  congr 1
  have e : s.size = s.data.size := rfl
  rw [bt_data, bt_data, ByteArray.data_append, e]
  by_cases h : j < t.data.size
  · rw [getElem!_pos _ _ (by rw [Array.size_append]; omega), getElem!_pos t.data j h, Array.getElem_append_right (by omega)]
    simp
  · rw [getElem!_neg _ _ (by rw [Array.size_append]; omega), getElem!_neg t.data j h]
theorem lines_append_left (s t : ByteArray) : ∀ i, i ≤ s.size → lines (s ++ t) i = lines s i := by
  intro i
  induction i with
  | zero => intro _; rfl
  | succ i ih => intro h; unfold lines; rw [ih (by omega), bt_append_left s t (by omega)]

theorem place_behind (s t : ByteArray) (at_ : Int) (h : 0 ≤ at_) : placeI (s ++ (⟨#[10]⟩ ++ t)) ((s.size : Int) + 1 + at_) = ((placeI t at_).1 + (1 + lines s s.size), (placeI t at_).2) := by
  have hz1 : (⟨#[10]⟩ ++ t : ByteArray).size = 1 + t.size := by rw [ByteArray.size_append]; rfl
  have hz : (s ++ (⟨#[10]⟩ ++ t)).size = s.size + 1 + t.size := by rw [ByteArray.size_append, hz1]; omega
  have hk : s.size < (s ++ (⟨#[10]⟩ ++ t)).size := by omega
  have h10 : bt (s ++ (⟨#[10]⟩ ++ t)) s.size = 10 := by
    have := bt_append_right s (⟨#[10]⟩ ++ t) 0
    rw [Nat.add_zero] at this
    rw [this, bt_append_left _ _ (show 0 < (⟨#[10]⟩ : ByteArray).size from by decide)]; rfl
  obtain ⟨c, hc⟩ := at_line hk h10 s.size 0 1 1 (At.zero _) (Nat.zero_le _) (by omega)
  rw [lines_append_left _ _ _ (Nat.le_refl _)] at hc
  have hn := hc.next hk
  rw [(next_line _ _).2 h10, (next_byte (by omega)).2] at hn
  simp only [if_true] at hn
  have hb : ∀ j, bt (s ++ (⟨#[10]⟩ ++ t)) (s.size + 1 + j) = bt t j := fun j => by
    rw [Nat.add_assoc, bt_append_right]
    have := bt_append_right ⟨#[10]⟩ t j
    rwa [show (⟨#[10]⟩ : ByteArray).size = 1 from rfl] at this
  rw [hn.2 _ (by omega) (t.size + 1) (by omega)]
  have := placeF_shift (k := s.size + 1) hz hb at_ (1 + lines s s.size) (t.size + 1) 0 1 1
  rw [Nat.add_zero] at this
  unfold placeI
  rw [← this]
  congr 1
  show (1 : Int) + ((lines s s.size : Int) - ((0 : Nat) : Int)) + 1 = _
  omega

/-- The words of the language. -/
def keyB (s : ByteArray) : Bool := s.toList == [105, 110] || s.toList == [108, 101, 116] || s.toList == [111, 117, 116]
/-- From a rune's beginning on: letters and digits, the first one a letter. -/
def nameF (s : ByteArray) : Nat → Nat → Bool
  | 0, _ => true
  | f + 1, i => if i < s.size then (if (kindI (nextR s i) ≠ 1 ∧ kindI (nextR s i) ≠ 2) ∨ (kindI (nextR s i) = 2 ∧ i = 0) then false else nameF s f (i + nextN s i)) else true
/-- Whether a text is a name. -/
def nameB (s : ByteArray) : Bool := decide (1 ≤ s.size ∧ s.size ≤ 40) && !keyB s && nameF s (s.size + 1) 0

theorem nameF_more (s : ByteArray) : ∀ f i, s.size < i + f → ∀ g, s.size < i + g → nameF s f i = nameF s g i := by
  intro f
  induction f with
  | zero =>
    intro i hf g hg
    cases g with
    | zero => rfl
    | succ g => unfold nameF; rw [if_neg (by omega)]
  | succ f ih =>
    intro i hf g hg
    cases g with
    | zero => unfold nameF; rw [if_neg (by omega)]
    | succ g =>
      unfold nameF
      by_cases h : i < s.size
      · have := next_size h
        rw [if_pos h, if_pos h, ih _ (by omega) g (by omega)]
      · rw [if_neg h, if_neg h]
theorem kind_err : kindI 65533 = 0 := by decide
theorem next_append (s t : ByteArray) {i : Nat} (hi : i < s.size) (h : nextR s i ≠ 65533) : nextR (s ++ t) i = nextR s i ∧ nextN (s ++ t) i = nextN s i := by
  have e : Utf8.decode (s ++ t) i = Utf8.decode s i := by
    rw [decode_bt, decode_bt, bt_append_left s t hi]
    refine decodeN_more ?_ (by rw [ByteArray.size_append]; omega) (fun h1 => bt_append_left s t (by omega)) (fun h2 => bt_append_left s t (by omega)) (fun h3 => bt_append_left s t (by omega))
    unfold nextR at h
    rw [decode_bt] at h
    intro e; exact h (by rw [e]; rfl)
  unfold nextR nextN
  rw [e]; exact ⟨rfl, rfl⟩
/-- A name's runes stay what they are with something behind them. -/
theorem nameF_append (s t : ByteArray) : ∀ f i, i ≤ s.size → s.size < i + f → nameF s f i = true → ∀ g, (s ++ t).size < i + g → ∃ g', (s ++ t).size < s.size + g' ∧ nameF (s ++ t) g i = nameF (s ++ t) g' s.size := by
  intro f
  induction f with
  | zero => intro i h0 h1; omega
  | succ f ih =>
    intro i h0 h1 h2 g hg
    have hz : (s ++ t).size = s.size + t.size := ByteArray.size_append
    by_cases hi : i < s.size
    · have hn := next_size hi
      unfold nameF at h2
      rw [if_pos hi] at h2
      by_cases hc : (kindI (nextR s i) ≠ 1 ∧ kindI (nextR s i) ≠ 2) ∨ (kindI (nextR s i) = 2 ∧ i = 0)
      · rw [if_pos hc] at h2; exact absurd h2 (by decide)
      · rw [if_neg hc] at h2
        have hne : nextR s i ≠ 65533 := by
          intro e
          rw [e, kind_err] at hc
          exact hc (.inl ⟨by decide, by decide⟩)
        obtain ⟨e1, e2⟩ := next_append s t hi hne
        cases g with
        | zero => omega
        | succ g =>
          obtain ⟨g', hg', e⟩ := ih (i + nextN s i) (by omega) (by omega) h2 g (by omega)
          refine ⟨g', hg', ?_⟩
          rw [← e]
          show (if i < (s ++ t).size then _ else _) = _
          rw [if_pos (by omega), e1, e2, if_neg hc]
    · obtain rfl : i = s.size := by omega
      exact ⟨g, by omega, rfl⟩
/-- With one byte more. -/
theorem nameF_byte {s : ByteArray} (b : UInt8) (h1 : 1 ≤ s.size) (h : nameF s (s.size + 1) 0 = true) : nameF (s ++ ⟨#[b]⟩) ((s ++ ⟨#[b]⟩).size + 1) 0 = decide (b.toNat < 128 ∧ (kindI b.toNat = 1 ∨ kindI b.toNat = 2)) := by
  obtain ⟨g, hg, e⟩ := nameF_append s ⟨#[b]⟩ _ 0 (Nat.zero_le _) (by omega) h ((s ++ ⟨#[b]⟩).size + 1) (by omega)
  rw [e]
  have hz : (s ++ ⟨#[b]⟩).size = s.size + 1 := ByteArray.size_append
  have hb : bt (s ++ ⟨#[b]⟩) s.size = b.toNat := by
    have := bt_append_right s ⟨#[b]⟩ 0
    rw [Nat.add_zero] at this
    rw [this]; rfl
  cases g with
  | zero => omega
  | succ g =>
    show (if s.size < (s ++ ⟨#[b]⟩).size then _ else _) = _
    rw [if_pos (by omega)]
    rcases Nat.lt_or_ge b.toNat 128 with hlt | hge
    · obtain ⟨e1, e2⟩ := next_byte (s := s ++ ⟨#[b]⟩) (i := s.size) (by omega)
      rw [e1, e2, hb]
      have hend : nameF (s ++ ⟨#[b]⟩) g (s.size + 1) = true := by
        cases g with
        | zero => rfl
        | succ g =>
          show (if s.size + 1 < (s ++ ⟨#[b]⟩).size then _ else _) = _
          rw [if_neg (by omega)]
      rw [hend]
      have h0 : ¬ s.size = 0 := by omega
      by_cases hk : kindI b.toNat = 1 ∨ kindI b.toNat = 2
      · rw [if_neg (by rcases hk with hk | hk <;> simp [hk, h0]), decide_eq_true ⟨hlt, hk⟩]
      · rw [if_pos (.inl ⟨fun e => hk (.inl e), fun e => hk (.inr e)⟩), decide_eq_false (fun e => hk e.2)]
    · have e1 : nextR (s ++ ⟨#[b]⟩) s.size = 65533 := by
        unfold nextR
        rw [decode_bt, hz, Nat.add_sub_cancel_left]
        unfold decodeN
        rw [hb, if_neg (by omega)]
        simp
      rw [e1, kind_err, if_pos (.inl ⟨by decide, by decide⟩), decide_eq_false (fun e => by omega)]
theorem nameB_byte {s : ByteArray} (b : UInt8) (h : nameB s = true) : nameB (s ++ ⟨#[b]⟩) = (decide (b.toNat < 128 ∧ (kindI b.toNat = 1 ∨ kindI b.toNat = 2)) && decide ((s ++ ⟨#[b]⟩).size ≤ 40) && !keyB (s ++ ⟨#[b]⟩)) := by
  unfold nameB at h
  simp only [Bool.and_eq_true, decide_eq_true_eq] at h
  have hz : (s ++ ⟨#[b]⟩).size = s.size + 1 := ByteArray.size_append
  unfold nameB
  rw [nameF_byte b h.1.1.1 h.2]
  have e : decide (1 ≤ (s ++ ⟨#[b]⟩).size ∧ (s ++ ⟨#[b]⟩).size ≤ 40) = decide ((s ++ ⟨#[b]⟩).size ≤ 40) := by
    rw [Bool.eq_iff_iff]; simp only [decide_eq_true_eq]; omega
  rw [e, Bool.and_comm, Bool.and_assoc]
theorem nameB_blank {s : ByteArray} (h : nameB s = true) : nameB (s ++ ⟨#[32]⟩) = false := by
  rw [nameB_byte 32 h, decide_eq_false (by decide)]; rfl
theorem nameB_zero (s : ByteArray) : nameB (⟨#[48]⟩ ++ s) = false := by
  unfold nameB
  have hz : (⟨#[48]⟩ ++ s : ByteArray).size = 1 + s.size := ByteArray.size_append
  have hb : bt (⟨#[48]⟩ ++ s) 0 = 48 := by rw [bt_append_left _ _ (by decide)]; rfl
  have e1 := (next_byte (s := ⟨#[48]⟩ ++ s) (i := 0) (by omega)).1
  rw [hb] at e1
  have : nameF (⟨#[48]⟩ ++ s) ((⟨#[48]⟩ ++ s : ByteArray).size + 1) 0 = false := by
    show (if 0 < (⟨#[48]⟩ ++ s : ByteArray).size then _ else _) = _
    rw [if_pos (by omega), e1, if_pos (.inr ⟨by decide, rfl⟩)]
  rw [this, Bool.and_false]
end Go.Proofs.Ytfdheodkipfpeaa
/-
  Contracts of the document's own answers of layer 9 (package talwegref09: in, low, three, four, Next), at every text: the rune at a byte is what the model's own decoding tells; memory stays as it is.
-/
namespace Go.Proofs.Ytfdheodkipfpeaa
open Go.RowKit Go.Lib


theorem wrap_byte (b : UInt8) : wrap64 (b.toNat : Int) = b.toNat := by
  have := b.toNat_lt
  unfold wrap64; omega

set_option maxHeartbeats 2000000 in
theorem ref_sin {s : ByteArray} (i : Nat) (j : Int) (hj : (i : Int) = j) (lo hi : Int) (r : Bool) (hr : decide (i < s.size ∧ lo ≤ (bt s i : Int) ∧ (bt s i : Int) ≤ hi) = r) (w : World) :
    Calls Try.prog 46 #[.string s, .int .i64 j, .int .i64 lo, .int .i64 hi] w fun e w' => e = .returned (.bool r) ∧ w = w' := by
  subst hj
  rcases (by by_cases h : i < s.size <;> by_cases h2 : lo ≤ (bt s i : Int) <;> simp [h, h2] : (i < s.size ∧ lo ≤ (bt s i : Int)) ∨ (i < s.size ∧ ¬ lo ≤ (bt s i : Int)) ∨ ¬ i < s.size) with ⟨h, h2⟩ | ⟨h, h2⟩ | h
  case' inl =>
    rw [bt_get h] at hr h2
    have h1 : (i : Int) < s.size := by omega
    have hd : decide ((s[i].toNat : Int) ≤ hi) = r := by rw [← hr]; simp [h, h2]
  case' inr.inl =>
    rw [bt_get h] at hr h2
    have h1 : (i : Int) < s.size := by omega
    obtain rfl : r = false := by rw [← hr]; simp [h2]
  case' inr.inr =>
    have h1 : ¬ (i : Int) < s.size := by omega
    obtain rfl : r = false := by rw [← hr]; simp [h]
  all_goals
    clear hr
    (try have hw := wrap_byte s[i])
    go_enter Try.func46, Try.ntmps46
    go_wp2
    go_ret
    exact ⟨rfl, rfl⟩

set_option maxHeartbeats 2000000 in
theorem ref_slow {s : ByteArray} (i : Nat) (h : i < s.size) (j : Int) (hj : (i : Int) = j) (w : World) :
    Calls Try.prog 47 #[.string s, .int .i64 j] w fun e w' => e = .returned (.int .i64 ((bt s i % 64 : Nat) : Int)) ∧ w = w' := by
  subst hj
  have h1 : (i : Int) < s.size := by omega
  rw [bt_get h]
  have HM : Hid ((s[i].toNat : Int).tmod 64 = ((s[i].toNat % 64 : Nat) : Int)) := by
    show _ = _
    rw [Int.tmod_eq_emod_of_nonneg (by omega)]; omega
  have hw := wrap_byte s[i]
  go_enter Try.func47, Try.ntmps47
  go_wp2
  go_ret
  exact ⟨by first | rfl | rw [← HM.out], rfl⟩

/-- The document's rune of 3 bytes, or -1. -/
def threeI (n b0 b1 b2 : Nat) : Int := if (224 ≤ b0 ∧ b0 ≤ 239) ∧ (1 < n ∧ (if b0 = 224 then 160 else 128) ≤ b1 ∧ b1 ≤ (if b0 = 237 then 159 else 191)) ∧ (2 < n ∧ 128 ≤ b2 ∧ b2 ≤ 191) then (((b0 - 224) * 4096 + b1 % 64 * 64 + b2 % 64 : Nat) : Int) else -1

set_option maxHeartbeats 4000000 in
theorem ref_three {s : ByteArray} (hs : s.size ≤ 1000000) (i : Nat) (h : i < s.size) (z : Int) (hz : threeI (s.size - i) (bt s i) (bt s (i + 1)) (bt s (i + 2)) = z) (w : World) :
    Calls Try.prog 48 #[.string s, .int .i64 i] w fun e w' => e = .returned (.int .i64 z) ∧ w = w' := by
  unfold threeI at hz
  have h1 : (i : Int) < s.size := by omega
  have hw := wrap_byte s[i]
  have hb := s[i].toNat_lt
  have w1 : wrap64 ((i : Int) + 1) = (i : Int) + 1 := by unfold wrap64; omega
  have w2 : wrap64 ((i : Int) + 2) = (i : Int) + 2 := by unfold wrap64; omega
  obtain ⟨r2, hr2⟩ : ∃ r, decide (i + 2 < s.size ∧ (128 : Int) ≤ (bt s (i + 2) : Int) ∧ (bt s (i + 2) : Int) ≤ 191) = r := ⟨_, rfl⟩
  have I2 := fun v => ref_sin (i + 2) ((i : Int) + 2) (by omega) 128 191 r2 hr2 v
  rw [bt_get h] at hz
  rcases (by omega : (s[i].toNat : Int) < 224 ∨ 239 < (s[i].toNat : Int) ∨ s[i].toNat = 224 ∨ s[i].toNat = 237 ∨ (224 ≤ s[i].toNat ∧ s[i].toNat ≤ 239 ∧ s[i].toNat ≠ 224 ∧ s[i].toNat ≠ 237)) with h3 | h3 | h3 | h3 | h3
  case' inl =>
    have e1 : ((s[i].toNat : Int) == 224) = false := by rw [beq_eq_false_iff_ne]; omega
    have e2 : ((s[i].toNat : Int) == 237) = false := by rw [beq_eq_false_iff_ne]; omega
    skip
    obtain rfl : z = -1 := by rw [← hz, if_neg (by omega)]
    clear hz hs hb
  case' inr.inl =>
    have e1 : ((s[i].toNat : Int) == 224) = false := by rw [beq_eq_false_iff_ne]; omega
    have e2 : ((s[i].toNat : Int) == 237) = false := by rw [beq_eq_false_iff_ne]; omega
    have h4 : ¬ (s[i].toNat : Int) < 224 := by omega
    obtain rfl : z = -1 := by rw [← hz, if_neg (by omega)]
    clear hz hs hb
  case' inr.inr.inl =>
    have h4 : ¬ (s[i].toNat : Int) < 224 := by omega
    have h5 : ¬ 239 < (s[i].toNat : Int) := by omega
    have e1 : ((s[i].toNat : Int) == 224) = true := by rw [beq_iff_eq]; omega
    have e2 : ((s[i].toNat : Int) == 237) = false := by rw [beq_eq_false_iff_ne]; omega
    obtain ⟨r1, hr1⟩ : ∃ r, decide (i + 1 < s.size ∧ (160 : Int) ≤ (bt s (i + 1) : Int) ∧ (bt s (i + 1) : Int) ≤ 191) = r := ⟨_, rfl⟩
    have I1 := fun v => ref_sin (i + 1) ((i : Int) + 1) (by omega) 160 191 r1 hr1 v
    have HZ : Hid (((r1 = true ∧ r2 = true) → z = ((((s[i].toNat - 224) * 4096 + bt s (i + 1) % 64 * 64 + bt s (i + 2) % 64 : Nat)) : Int)) ∧ (¬ (r1 = true ∧ r2 = true) → z = -1)) := by
      rw [← hr1, ← hr2]
      simp only [decide_eq_true_eq]
      simp only [h3, if_true, if_false, show ((224 : Nat) = 237) = False from eq_false (by decide)] at hz ⊢
      refine ⟨fun q => ?_, fun q => ?_⟩
      · rw [← hz, if_pos (by omega)]
      · rw [← hz, if_neg (by omega)]
    have HL1 : Hid (r1 = true → i + 1 < s.size) := fun e => (of_decide_eq_true (hr1.trans e)).1
    have HL2 : Hid (r2 = true → i + 2 < s.size) := fun e => (of_decide_eq_true (hr2.trans e)).1
    have HB : Hid (224 ≤ s[i].toNat ∧ s[i].toNat < 256) := ⟨by omega, by omega⟩
    clear hz hs hb h3 hr1 hr2
  case' inr.inr.inr.inl =>
    have h4 : ¬ (s[i].toNat : Int) < 224 := by omega
    have h5 : ¬ 239 < (s[i].toNat : Int) := by omega
    have e1 : ((s[i].toNat : Int) == 224) = false := by rw [beq_eq_false_iff_ne]; omega
    have e2 : ((s[i].toNat : Int) == 237) = true := by rw [beq_iff_eq]; omega
    obtain ⟨r1, hr1⟩ : ∃ r, decide (i + 1 < s.size ∧ (128 : Int) ≤ (bt s (i + 1) : Int) ∧ (bt s (i + 1) : Int) ≤ 159) = r := ⟨_, rfl⟩
    have I1 := fun v => ref_sin (i + 1) ((i : Int) + 1) (by omega) 128 159 r1 hr1 v
    have HZ : Hid (((r1 = true ∧ r2 = true) → z = ((((s[i].toNat - 224) * 4096 + bt s (i + 1) % 64 * 64 + bt s (i + 2) % 64 : Nat)) : Int)) ∧ (¬ (r1 = true ∧ r2 = true) → z = -1)) := by
      rw [← hr1, ← hr2]
      simp only [decide_eq_true_eq]
      simp only [h3, if_true, if_false, show ((237 : Nat) = 224) = False from eq_false (by decide)] at hz ⊢
      refine ⟨fun q => ?_, fun q => ?_⟩
      · rw [← hz, if_pos (by omega)]
      · rw [← hz, if_neg (by omega)]
    have HL1 : Hid (r1 = true → i + 1 < s.size) := fun e => (of_decide_eq_true (hr1.trans e)).1
    have HL2 : Hid (r2 = true → i + 2 < s.size) := fun e => (of_decide_eq_true (hr2.trans e)).1
    have HB : Hid (224 ≤ s[i].toNat ∧ s[i].toNat < 256) := ⟨by omega, by omega⟩
    clear hz hs hb h3 hr1 hr2
  case' inr.inr.inr.inr =>
    have h4 : ¬ (s[i].toNat : Int) < 224 := by omega
    have h5 : ¬ 239 < (s[i].toNat : Int) := by omega
    have e1 : ((s[i].toNat : Int) == 224) = false := by rw [beq_eq_false_iff_ne]; omega
    have e2 : ((s[i].toNat : Int) == 237) = false := by rw [beq_eq_false_iff_ne]; omega
    obtain ⟨r1, hr1⟩ : ∃ r, decide (i + 1 < s.size ∧ (128 : Int) ≤ (bt s (i + 1) : Int) ∧ (bt s (i + 1) : Int) ≤ 191) = r := ⟨_, rfl⟩
    have I1 := fun v => ref_sin (i + 1) ((i : Int) + 1) (by omega) 128 191 r1 hr1 v
    have HZ : Hid (((r1 = true ∧ r2 = true) → z = ((((s[i].toNat - 224) * 4096 + bt s (i + 1) % 64 * 64 + bt s (i + 2) % 64 : Nat)) : Int)) ∧ (¬ (r1 = true ∧ r2 = true) → z = -1)) := by
      rw [← hr1, ← hr2]
      simp only [decide_eq_true_eq]
      simp only [h3.2.2.1, h3.2.2.2, if_false] at hz
      refine ⟨fun q => ?_, fun q => ?_⟩
      · rw [← hz, if_pos (by omega)]
      · rw [← hz, if_neg (by omega)]
    have HL1 : Hid (r1 = true → i + 1 < s.size) := fun e => (of_decide_eq_true (hr1.trans e)).1
    have HL2 : Hid (r2 = true → i + 2 < s.size) := fun e => (of_decide_eq_true (hr2.trans e)).1
    have HB : Hid (224 ≤ s[i].toNat ∧ s[i].toNat < 256) := ⟨by omega, by omega⟩
    clear hz hs hb h3 hr1 hr2
  case' inl | inr.inl =>
    go_enter Try.func48, Try.ntmps48
    go_wp2
    go_ret
    exact ⟨rfl, rfl⟩
  all_goals
    cases r1
    case' false => obtain rfl := HZ.out.2 (by simp)
    case' true => cases r2
    case' true.false => obtain rfl := HZ.out.2 (by simp)
    case' true.true =>
      obtain rfl := HZ.out.1 (by simp)
      have L1 := fun v => ref_slow (i + 1) (HL1.out rfl) ((i : Int) + 1) (by omega) v
      have L2 := fun v => ref_slow (i + 2) (HL2.out rfl) ((i : Int) + 2) (by omega) v
    all_goals
      go_enter Try.func48, Try.ntmps48
      go_wp2_with (first
        | (go_at_call 46; (with_reducible refine Calls.mono (I1 _) ?_); rintro e v1 ⟨rfl, rfl⟩)
        | (go_at_call 46; (with_reducible refine Calls.mono (I2 _) ?_); rintro e v2 ⟨rfl, rfl⟩)
        | (go_at_call 47; (with_reducible refine Calls.mono (L1 _) ?_); rintro e u1 ⟨rfl, rfl⟩)
        | (go_at_call 47; (with_reducible refine Calls.mono (L2 _) ?_); rintro e u2 ⟨rfl, rfl⟩))
      go_ret
      first
        | exact ⟨rfl, rfl⟩
        | (refine ⟨?_, rfl⟩
           have hB := HB.out
           have l1 : bt s (i + 1) % 64 < 64 := Nat.mod_lt _ (by omega)
           have l2 : bt s (i + 2) % 64 < 64 := Nat.mod_lt _ (by omega)
           show Ending.returned (.int .i64 _) = .returned (.int .i64 _)
           congr 2
           (try unfold wrap64)
           omega)

/-- The document's rune of 4 bytes, or -1. -/
def fourI (n b0 b1 b2 b3 : Nat) : Int := if (240 ≤ b0 ∧ b0 ≤ 244) ∧ (1 < n ∧ (if b0 = 240 then 144 else 128) ≤ b1 ∧ b1 ≤ (if b0 = 244 then 143 else 191)) ∧ (2 < n ∧ 128 ≤ b2 ∧ b2 ≤ 191) ∧ (3 < n ∧ 128 ≤ b3 ∧ b3 ≤ 191) then (((b0 - 240) * 262144 + b1 % 64 * 4096 + b2 % 64 * 64 + b3 % 64 : Nat) : Int) else -1

set_option maxHeartbeats 4000000 in
theorem ref_four {s : ByteArray} (hs : s.size ≤ 1000000) (i : Nat) (h : i < s.size) (z : Int) (hz : fourI (s.size - i) (bt s i) (bt s (i + 1)) (bt s (i + 2)) (bt s (i + 3)) = z) (w : World) :
    Calls Try.prog 49 #[.string s, .int .i64 i] w fun e w' => e = .returned (.int .i64 z) ∧ w = w' := by
  unfold fourI at hz
  have h1 : (i : Int) < s.size := by omega
  have hw := wrap_byte s[i]
  have hb := s[i].toNat_lt
  have w1 : wrap64 ((i : Int) + 1) = (i : Int) + 1 := by unfold wrap64; omega
  have w2 : wrap64 ((i : Int) + 2) = (i : Int) + 2 := by unfold wrap64; omega
  have w3 : wrap64 ((i : Int) + 3) = (i : Int) + 3 := by unfold wrap64; omega
  obtain ⟨r2, hr2⟩ : ∃ r, decide (i + 2 < s.size ∧ (128 : Int) ≤ (bt s (i + 2) : Int) ∧ (bt s (i + 2) : Int) ≤ 191) = r := ⟨_, rfl⟩
  have I2 := fun v => ref_sin (i + 2) ((i : Int) + 2) (by omega) 128 191 r2 hr2 v
  obtain ⟨r3, hr3⟩ : ∃ r, decide (i + 3 < s.size ∧ (128 : Int) ≤ (bt s (i + 3) : Int) ∧ (bt s (i + 3) : Int) ≤ 191) = r := ⟨_, rfl⟩
  have I3 := fun v => ref_sin (i + 3) ((i : Int) + 3) (by omega) 128 191 r3 hr3 v
  rw [bt_get h] at hz
  rcases (by omega : (s[i].toNat : Int) < 240 ∨ 244 < (s[i].toNat : Int) ∨ s[i].toNat = 240 ∨ s[i].toNat = 244 ∨ (240 ≤ s[i].toNat ∧ s[i].toNat ≤ 244 ∧ s[i].toNat ≠ 240 ∧ s[i].toNat ≠ 244)) with h3 | h3 | h3 | h3 | h3
  case' inl =>
    have e1 : ((s[i].toNat : Int) == 240) = false := by rw [beq_eq_false_iff_ne]; omega
    have e2 : ((s[i].toNat : Int) == 244) = false := by rw [beq_eq_false_iff_ne]; omega
    skip
    obtain rfl : z = -1 := by rw [← hz, if_neg (by omega)]
    clear hz hs hb
  case' inr.inl =>
    have e1 : ((s[i].toNat : Int) == 240) = false := by rw [beq_eq_false_iff_ne]; omega
    have e2 : ((s[i].toNat : Int) == 244) = false := by rw [beq_eq_false_iff_ne]; omega
    have h4 : ¬ (s[i].toNat : Int) < 240 := by omega
    obtain rfl : z = -1 := by rw [← hz, if_neg (by omega)]
    clear hz hs hb
  case' inr.inr.inl =>
    have h4 : ¬ (s[i].toNat : Int) < 240 := by omega
    have h5 : ¬ 244 < (s[i].toNat : Int) := by omega
    have e1 : ((s[i].toNat : Int) == 240) = true := by rw [beq_iff_eq]; omega
    have e2 : ((s[i].toNat : Int) == 244) = false := by rw [beq_eq_false_iff_ne]; omega
    obtain ⟨r1, hr1⟩ : ∃ r, decide (i + 1 < s.size ∧ (144 : Int) ≤ (bt s (i + 1) : Int) ∧ (bt s (i + 1) : Int) ≤ 191) = r := ⟨_, rfl⟩
    have I1 := fun v => ref_sin (i + 1) ((i : Int) + 1) (by omega) 144 191 r1 hr1 v
    have HZ : Hid (((r1 = true ∧ r2 = true ∧ r3 = true) → z = ((((s[i].toNat - 240) * 262144 + bt s (i + 1) % 64 * 4096 + bt s (i + 2) % 64 * 64 + bt s (i + 3) % 64 : Nat)) : Int)) ∧ (¬ (r1 = true ∧ r2 = true ∧ r3 = true) → z = -1)) := by
      rw [← hr1, ← hr2, ← hr3]
      simp only [decide_eq_true_eq]
      simp only [h3, if_true, if_false, show ((240 : Nat) = 244) = False from eq_false (by decide)] at hz ⊢
      refine ⟨fun q => ?_, fun q => ?_⟩
      · rw [← hz, if_pos (by omega)]
      · rw [← hz, if_neg (by omega)]
    have HL1 : Hid (r1 = true → i + 1 < s.size) := fun e => (of_decide_eq_true (hr1.trans e)).1
    have HL2 : Hid (r2 = true → i + 2 < s.size) := fun e => (of_decide_eq_true (hr2.trans e)).1
    have HL3 : Hid (r3 = true → i + 3 < s.size) := fun e => (of_decide_eq_true (hr3.trans e)).1
    have HB : Hid (240 ≤ s[i].toNat ∧ s[i].toNat < 256) := ⟨by omega, by omega⟩
    clear hz hs hb h3 hr1 hr2 hr3
  case' inr.inr.inr.inl =>
    have h4 : ¬ (s[i].toNat : Int) < 240 := by omega
    have h5 : ¬ 244 < (s[i].toNat : Int) := by omega
    have e1 : ((s[i].toNat : Int) == 240) = false := by rw [beq_eq_false_iff_ne]; omega
    have e2 : ((s[i].toNat : Int) == 244) = true := by rw [beq_iff_eq]; omega
    obtain ⟨r1, hr1⟩ : ∃ r, decide (i + 1 < s.size ∧ (128 : Int) ≤ (bt s (i + 1) : Int) ∧ (bt s (i + 1) : Int) ≤ 143) = r := ⟨_, rfl⟩
    have I1 := fun v => ref_sin (i + 1) ((i : Int) + 1) (by omega) 128 143 r1 hr1 v
    have HZ : Hid (((r1 = true ∧ r2 = true ∧ r3 = true) → z = ((((s[i].toNat - 240) * 262144 + bt s (i + 1) % 64 * 4096 + bt s (i + 2) % 64 * 64 + bt s (i + 3) % 64 : Nat)) : Int)) ∧ (¬ (r1 = true ∧ r2 = true ∧ r3 = true) → z = -1)) := by
      rw [← hr1, ← hr2, ← hr3]
      simp only [decide_eq_true_eq]
      simp only [h3, if_true, if_false, show ((244 : Nat) = 240) = False from eq_false (by decide)] at hz ⊢
      refine ⟨fun q => ?_, fun q => ?_⟩
      · rw [← hz, if_pos (by omega)]
      · rw [← hz, if_neg (by omega)]
    have HL1 : Hid (r1 = true → i + 1 < s.size) := fun e => (of_decide_eq_true (hr1.trans e)).1
    have HL2 : Hid (r2 = true → i + 2 < s.size) := fun e => (of_decide_eq_true (hr2.trans e)).1
    have HL3 : Hid (r3 = true → i + 3 < s.size) := fun e => (of_decide_eq_true (hr3.trans e)).1
    have HB : Hid (240 ≤ s[i].toNat ∧ s[i].toNat < 256) := ⟨by omega, by omega⟩
    clear hz hs hb h3 hr1 hr2 hr3
  case' inr.inr.inr.inr =>
    have h4 : ¬ (s[i].toNat : Int) < 240 := by omega
    have h5 : ¬ 244 < (s[i].toNat : Int) := by omega
    have e1 : ((s[i].toNat : Int) == 240) = false := by rw [beq_eq_false_iff_ne]; omega
    have e2 : ((s[i].toNat : Int) == 244) = false := by rw [beq_eq_false_iff_ne]; omega
    obtain ⟨r1, hr1⟩ : ∃ r, decide (i + 1 < s.size ∧ (128 : Int) ≤ (bt s (i + 1) : Int) ∧ (bt s (i + 1) : Int) ≤ 191) = r := ⟨_, rfl⟩
    have I1 := fun v => ref_sin (i + 1) ((i : Int) + 1) (by omega) 128 191 r1 hr1 v
    have HZ : Hid (((r1 = true ∧ r2 = true ∧ r3 = true) → z = ((((s[i].toNat - 240) * 262144 + bt s (i + 1) % 64 * 4096 + bt s (i + 2) % 64 * 64 + bt s (i + 3) % 64 : Nat)) : Int)) ∧ (¬ (r1 = true ∧ r2 = true ∧ r3 = true) → z = -1)) := by
      rw [← hr1, ← hr2, ← hr3]
      simp only [decide_eq_true_eq]
      simp only [h3.2.2.1, h3.2.2.2, if_false] at hz
      refine ⟨fun q => ?_, fun q => ?_⟩
      · rw [← hz, if_pos (by omega)]
      · rw [← hz, if_neg (by omega)]
    have HL1 : Hid (r1 = true → i + 1 < s.size) := fun e => (of_decide_eq_true (hr1.trans e)).1
    have HL2 : Hid (r2 = true → i + 2 < s.size) := fun e => (of_decide_eq_true (hr2.trans e)).1
    have HL3 : Hid (r3 = true → i + 3 < s.size) := fun e => (of_decide_eq_true (hr3.trans e)).1
    have HB : Hid (240 ≤ s[i].toNat ∧ s[i].toNat < 256) := ⟨by omega, by omega⟩
    clear hz hs hb h3 hr1 hr2 hr3
  case' inl | inr.inl =>
    go_enter Try.func49, Try.ntmps49
    go_wp2
    go_ret
    exact ⟨rfl, rfl⟩
  all_goals
    cases r1
    case' false => obtain rfl := HZ.out.2 (by simp)
    case' true => cases r2
    case' true.false => obtain rfl := HZ.out.2 (by simp)
    case' true.true => cases r3
    case' true.true.false => obtain rfl := HZ.out.2 (by simp)
    case' true.true.true =>
      obtain rfl := HZ.out.1 (by simp)
      have L1 := fun v => ref_slow (i + 1) (HL1.out rfl) ((i : Int) + 1) (by omega) v
      have L2 := fun v => ref_slow (i + 2) (HL2.out rfl) ((i : Int) + 2) (by omega) v
      have L3 := fun v => ref_slow (i + 3) (HL3.out rfl) ((i : Int) + 3) (by omega) v
    all_goals
      go_enter Try.func49, Try.ntmps49
      go_wp2_with (first
        | (go_at_call 46; (with_reducible refine Calls.mono (I1 _) ?_); rintro e v1 ⟨rfl, rfl⟩)
        | (go_at_call 46; (with_reducible refine Calls.mono (I2 _) ?_); rintro e v2 ⟨rfl, rfl⟩)
        | (go_at_call 46; (with_reducible refine Calls.mono (I3 _) ?_); rintro e v3 ⟨rfl, rfl⟩)
        | (go_at_call 47; (with_reducible refine Calls.mono (L1 _) ?_); rintro e u1 ⟨rfl, rfl⟩)
        | (go_at_call 47; (with_reducible refine Calls.mono (L2 _) ?_); rintro e u2 ⟨rfl, rfl⟩)
        | (go_at_call 47; (with_reducible refine Calls.mono (L3 _) ?_); rintro e u3 ⟨rfl, rfl⟩))
      go_ret
      first
        | exact ⟨rfl, rfl⟩
        | (refine ⟨?_, rfl⟩
           have hB := HB.out
           have l1 : bt s (i + 1) % 64 < 64 := Nat.mod_lt _ (by omega)
           have l2 : bt s (i + 2) % 64 < 64 := Nat.mod_lt _ (by omega)
           have l3 : bt s (i + 3) % 64 < 64 := Nat.mod_lt _ (by omega)
           show Ending.returned (.int .i64 _) = .returned (.int .i64 _)
           congr 2
           (try unfold wrap64)
           omega)
end Go.Proofs.Ytfdheodkipfpeaa
/-
  Contracts of the document's own answers of layer 9 (package talwegref09: Next, Key), at every text of up to a million bytes: the rune at a byte is what the model's own decoding tells; memory stays as it is.
-/
namespace Go.Proofs.Ytfdheodkipfpeaa
open Go.RowKit Go.Lib

set_option maxHeartbeats 4000000 in
theorem ref_snext_no {s : ByteArray} (j : Int) (h : j < 0 ∨ (s.size : Int) ≤ j) (w : World) :
    Calls Try.prog 35 #[.string s, .int .i64 j] w fun e w' => e = .returned (.tuple #[.int .i64 0, .int .i64 0]) ∧ w = w' := by
  rcases (by omega : j < 0 ∨ (¬ j < 0 ∧ (s.size : Int) ≤ j)) with h | ⟨h, h2⟩
  all_goals
    go_enter Try.func35, Try.ntmps35
    go_wp2
    go_ret2
    exact ⟨rfl, rfl⟩

/-- The ways that Next goes. -/
theorem next_ways {s : ByteArray} {i : Nat} (h : i < s.size) :
    (bt s i < 128 ∧ nextR s i = bt s i ∧ nextN s i = 1) ∨
    (¬ bt s i < 128 ∧ ((194 ≤ bt s i ∧ bt s i ≤ 223) ∧ (i + 1 < s.size ∧ 128 ≤ bt s (i + 1) ∧ bt s (i + 1) ≤ 191)) ∧ nextR s i = (((bt s i - 192) * 64 + bt s (i + 1) % 64 : Nat) : Int) ∧ nextN s i = 2) ∨
    (¬ bt s i < 128 ∧ ¬ (194 ≤ bt s i ∧ bt s i ≤ 223) ∧ nextR s i = threeI (s.size - i) (bt s i) (bt s (i + 1)) (bt s (i + 2)) ∧ 0 ≤ threeI (s.size - i) (bt s i) (bt s (i + 1)) (bt s (i + 2)) ∧ nextN s i = 3) ∨
    (¬ bt s i < 128 ∧ ¬ (194 ≤ bt s i ∧ bt s i ≤ 223) ∧ threeI (s.size - i) (bt s i) (bt s (i + 1)) (bt s (i + 2)) = -1 ∧ nextR s i = fourI (s.size - i) (bt s i) (bt s (i + 1)) (bt s (i + 2)) (bt s (i + 3)) ∧ 0 ≤ fourI (s.size - i) (bt s i) (bt s (i + 1)) (bt s (i + 2)) (bt s (i + 3)) ∧ nextN s i = 4) ∨
    (¬ bt s i < 128 ∧ ¬ ((194 ≤ bt s i ∧ bt s i ≤ 223) ∧ (i + 1 < s.size ∧ 128 ≤ bt s (i + 1) ∧ bt s (i + 1) ≤ 191)) ∧ threeI (s.size - i) (bt s i) (bt s (i + 1)) (bt s (i + 2)) = -1 ∧ fourI (s.size - i) (bt s i) (bt s (i + 1)) (bt s (i + 2)) (bt s (i + 3)) = -1 ∧ nextR s i = 65533 ∧ nextN s i = 1) := by
  unfold nextR nextN
  rw [decode_bt]
  have hb := bt_lt s i
  generalize hn : s.size - i = n
  have e1 : (i + 1 < s.size) = (1 < n) := propext ⟨fun _ => by omega, fun _ => by omega⟩
  rw [e1]
  generalize bt s i = b0 at *
  generalize bt s (i + 1) = b1 at *
  generalize bt s (i + 2) = b2 at *
  generalize bt s (i + 3) = b3 at *
  by_cases c1 : b0 < 128
  · left; rw [decodeN_one c1]; exact ⟨c1, rfl, rfl⟩
  right
  by_cases c2 : (194 ≤ b0 ∧ b0 ≤ 223) ∧ (1 < n ∧ 128 ≤ b1 ∧ b1 ≤ 191)
  · left; rw [decodeN_two c2.1 c2.2]; exact ⟨c1, c2, rfl, rfl⟩
  right
  by_cases c3 : (224 ≤ b0 ∧ b0 ≤ 239) ∧ (1 < n ∧ (if b0 = 224 then 160 else 128) ≤ b1 ∧ b1 ≤ (if b0 = 237 then 159 else 191)) ∧ (2 < n ∧ 128 ≤ b2 ∧ b2 ≤ 191)
  · left
    rw [decodeN_three c3.1 c3.2.1 c3.2.2]
    unfold threeI
    rw [if_pos c3]
    exact ⟨c1, by omega, rfl, by omega, rfl⟩
  right
  have t3 : threeI n b0 b1 b2 = -1 := if_neg c3
  by_cases c4 : (240 ≤ b0 ∧ b0 ≤ 244) ∧ (1 < n ∧ (if b0 = 240 then 144 else 128) ≤ b1 ∧ b1 ≤ (if b0 = 244 then 143 else 191)) ∧ (2 < n ∧ 128 ≤ b2 ∧ b2 ≤ 191) ∧ (3 < n ∧ 128 ≤ b3 ∧ b3 ≤ 191)
  · left
    rw [decodeN_four c4.1 c4.2.1 c4.2.2.1 c4.2.2.2]
    unfold fourI
    rw [if_pos c4]
    exact ⟨c1, by omega, t3, rfl, by omega, rfl⟩
  right
  have t4 : fourI n b0 b1 b2 b3 = -1 := if_neg c4
  rw [decodeN_none hb c1 c2 c3 c4]
  exact ⟨c1, c2, t3, t4, rfl, rfl⟩

set_option maxHeartbeats 8000000 in
theorem ref_snext {s : ByteArray} (hs : s.size ≤ 1000000) (i : Nat) (h : i < s.size) (w : World) :
    Calls Try.prog 35 #[.string s, .int .i64 i] w fun e w' => e = .returned (.tuple #[.int .i64 (nextR s i), .int .i64 (nextN s i)]) ∧ w = w' := by
  have W := next_ways h
  have g1 : (i : Int) < s.size := by omega
  have g2 : ¬ (s.size : Int) ≤ i := by omega
  have g3 : ¬ (i : Int) < 0 := by omega
  have hw := wrap_byte s[i]
  have w1 : wrap64 ((i : Int) + 1) = (i : Int) + 1 := by unfold wrap64; omega
  obtain ⟨r0, hr0⟩ : ∃ r, decide (i < s.size ∧ (194 : Int) ≤ (bt s i : Int) ∧ (bt s i : Int) ≤ 223) = r := ⟨_, rfl⟩
  obtain ⟨r1, hr1⟩ : ∃ r, decide (i + 1 < s.size ∧ (128 : Int) ≤ (bt s (i + 1) : Int) ∧ (bt s (i + 1) : Int) ≤ 191) = r := ⟨_, rfl⟩
  have J0 := fun v => ref_sin i (i : Int) rfl 194 223 r0 hr0 v
  have J1 := fun v => ref_sin (i + 1) ((i : Int) + 1) (by omega) 128 191 r1 hr1 v
  have T := fun v => ref_three hs i h _ rfl v
  have Fo := fun v => ref_four hs i h _ rfl v
  have hl := fun (q : i + 1 < s.size) v => ref_slow (i + 1) q ((i : Int) + 1) (by omega) v
  have hbt := bt_get h
  generalize threeI (s.size - i) (bt s i) (bt s (i + 1)) (bt s (i + 2)) = t at *
  generalize fourI (s.size - i) (bt s i) (bt s (i + 1)) (bt s (i + 2)) (bt s (i + 3)) = f at *
  generalize nextR s i = R at *
  generalize nextN s i = M at *
  rcases W with ⟨a0, rfl, rfl⟩ | ⟨a0, a1, rfl, rfl⟩ | ⟨a0, a1, rfl, a2, rfl⟩ | ⟨a0, a1, rfl, rfl, a2, rfl⟩ | ⟨a0, a1, rfl, rfl, rfl, rfl⟩
  case' inl => have k0 : (s[i].toNat : Int) < 128 := by omega
  case' inr.inl =>
    have k0 : ¬ (s[i].toNat : Int) < 128 := by omega
    obtain rfl : r0 = true := by rw [← hr0]; exact decide_eq_true (by omega)
    obtain rfl : r1 = true := by rw [← hr1]; exact decide_eq_true (by omega)
    replace hl := hl a1.2.1
  case' inr.inr.inl =>
    have k0 : ¬ (s[i].toNat : Int) < 128 := by omega
    obtain rfl : r0 = false := by rw [← hr0]; exact decide_eq_false (by omega)
  case' inr.inr.inr.inl =>
    have k0 : ¬ (s[i].toNat : Int) < 128 := by omega
    obtain rfl : r0 = false := by rw [← hr0]; exact decide_eq_false (by omega)
  case' inr.inr.inr.inr =>
    have k0 : ¬ (s[i].toNat : Int) < 128 := by omega
    have a2 : r0 = false ∨ (r0 = true ∧ r1 = false) := by
      rw [← hr0, ← hr1]
      simp only [decide_eq_false_iff_not, decide_eq_true_eq]
      omega
    rcases a2 with rfl | ⟨rfl, rfl⟩
  all_goals
    have HK : Hid (bt s i = s[i].toNat) := hbt
    have hb8 : Hid (s[i].toNat < 256) := s[i].toNat_lt
    (try have HA : Hid (194 ≤ bt s i) := a1.1.1)
    clear hr0 hr1 a0 hs hbt
    (try clear a1)
    go_enter Try.func35, Try.ntmps35
    go_wp2_with (first
      | (go_at_call 46; (with_reducible refine Calls.mono (J0 _) ?_); rintro e v0 ⟨rfl, rfl⟩)
      | (go_at_call 46; (with_reducible refine Calls.mono (J1 _) ?_); rintro e v1 ⟨rfl, rfl⟩)
      | (go_at_call 47; (with_reducible refine Calls.mono (hl _) ?_); rintro e v2 ⟨rfl, rfl⟩)
      | (go_at_call 48; (with_reducible refine Calls.mono (T _) ?_); rintro e v3 ⟨rfl, rfl⟩)
      | (go_at_call 49; (with_reducible refine Calls.mono (Fo _) ?_); rintro e v4 ⟨rfl, rfl⟩))
    go_ret2
    first
      | exact ⟨rfl, rfl⟩
      | (rw [HK.out]; exact ⟨rfl, rfl⟩)
      | (refine ⟨?_, rfl⟩
         have hB := HK.out
         have hA := HA.out
         have h8 := hb8.out
         have l1 : bt s (i + 1) % 64 < 64 := Nat.mod_lt _ (by omega)
         show Ending.returned (.tuple #[.int .i64 _, .int .i64 _]) = .returned (.tuple #[.int .i64 _, .int .i64 _])
         congr 5
         (try unfold wrap64)
         omega)

end Go.Proofs.Ytfdheodkipfpeaa
/-
  Contract of the document's own Kind (package talwegref09), at every number: memory stays as it is.
-/
namespace Go.Proofs.Ytfdheodkipfpeaa
open Go.RowKit Go.Lib

theorem kind_iv0 (r : Int) (h1 : r ≤ 8) (w : World) : Calls Try.prog 36 #[.int .i64 r] w fun e w' => e = .returned (.int .i64 0) ∧ w = w' := by
  have g97 : ¬ 97 ≤ r := by omega
  have g65 : ¬ 65 ≤ r := by omega
  have e95 : (r == 95) = false := by rw [beq_eq_false_iff_ne]; omega
  have g128 : ¬ 128 ≤ r := by omega
  have g48 : ¬ 48 ≤ r := by omega
  have e9 : (r == 9) = false := by rw [beq_eq_false_iff_ne]; omega
  have e10 : (r == 10) = false := by rw [beq_eq_false_iff_ne]; omega
  have e13 : (r == 13) = false := by rw [beq_eq_false_iff_ne]; omega
  have e32 : (r == 32) = false := by rw [beq_eq_false_iff_ne]; omega
  have e43 : (r == 43) = false := by rw [beq_eq_false_iff_ne]; omega
  have e45 : (r == 45) = false := by rw [beq_eq_false_iff_ne]; omega
  have e42 : (r == 42) = false := by rw [beq_eq_false_iff_ne]; omega
  have e47 : (r == 47) = false := by rw [beq_eq_false_iff_ne]; omega
  have e94 : (r == 94) = false := by rw [beq_eq_false_iff_ne]; omega
  have e40 : (r == 40) = false := by rw [beq_eq_false_iff_ne]; omega
  have e41 : (r == 41) = false := by rw [beq_eq_false_iff_ne]; omega
  have e61 : (r == 61) = false := by rw [beq_eq_false_iff_ne]; omega
  have e59 : (r == 59) = false := by rw [beq_eq_false_iff_ne]; omega
  have e44 : (r == 44) = false := by rw [beq_eq_false_iff_ne]; omega
  go_enter Try.func36, Try.ntmps36
  go_wp2
  go_ret
  exact ⟨rfl, rfl⟩
theorem kind_iv1 (r : Int) (h0 : 11 ≤ r) (h1 : r ≤ 12) (w : World) : Calls Try.prog 36 #[.int .i64 r] w fun e w' => e = .returned (.int .i64 0) ∧ w = w' := by
  have g97 : ¬ 97 ≤ r := by omega
  have g65 : ¬ 65 ≤ r := by omega
  have e95 : (r == 95) = false := by rw [beq_eq_false_iff_ne]; omega
  have g128 : ¬ 128 ≤ r := by omega
  have g48 : ¬ 48 ≤ r := by omega
  have e9 : (r == 9) = false := by rw [beq_eq_false_iff_ne]; omega
  have e10 : (r == 10) = false := by rw [beq_eq_false_iff_ne]; omega
  have e13 : (r == 13) = false := by rw [beq_eq_false_iff_ne]; omega
  have e32 : (r == 32) = false := by rw [beq_eq_false_iff_ne]; omega
  have e43 : (r == 43) = false := by rw [beq_eq_false_iff_ne]; omega
  have e45 : (r == 45) = false := by rw [beq_eq_false_iff_ne]; omega
  have e42 : (r == 42) = false := by rw [beq_eq_false_iff_ne]; omega
  have e47 : (r == 47) = false := by rw [beq_eq_false_iff_ne]; omega
  have e94 : (r == 94) = false := by rw [beq_eq_false_iff_ne]; omega
  have e40 : (r == 40) = false := by rw [beq_eq_false_iff_ne]; omega
  have e41 : (r == 41) = false := by rw [beq_eq_false_iff_ne]; omega
  have e61 : (r == 61) = false := by rw [beq_eq_false_iff_ne]; omega
  have e59 : (r == 59) = false := by rw [beq_eq_false_iff_ne]; omega
  have e44 : (r == 44) = false := by rw [beq_eq_false_iff_ne]; omega
  go_enter Try.func36, Try.ntmps36
  go_wp2
  go_ret
  exact ⟨rfl, rfl⟩
theorem kind_iv2 (r : Int) (h0 : 14 ≤ r) (h1 : r ≤ 31) (w : World) : Calls Try.prog 36 #[.int .i64 r] w fun e w' => e = .returned (.int .i64 0) ∧ w = w' := by
  have g97 : ¬ 97 ≤ r := by omega
  have g65 : ¬ 65 ≤ r := by omega
  have e95 : (r == 95) = false := by rw [beq_eq_false_iff_ne]; omega
  have g128 : ¬ 128 ≤ r := by omega
  have g48 : ¬ 48 ≤ r := by omega
  have e9 : (r == 9) = false := by rw [beq_eq_false_iff_ne]; omega
  have e10 : (r == 10) = false := by rw [beq_eq_false_iff_ne]; omega
  have e13 : (r == 13) = false := by rw [beq_eq_false_iff_ne]; omega
  have e32 : (r == 32) = false := by rw [beq_eq_false_iff_ne]; omega
  have e43 : (r == 43) = false := by rw [beq_eq_false_iff_ne]; omega
  have e45 : (r == 45) = false := by rw [beq_eq_false_iff_ne]; omega
  have e42 : (r == 42) = false := by rw [beq_eq_false_iff_ne]; omega
  have e47 : (r == 47) = false := by rw [beq_eq_false_iff_ne]; omega
  have e94 : (r == 94) = false := by rw [beq_eq_false_iff_ne]; omega
  have e40 : (r == 40) = false := by rw [beq_eq_false_iff_ne]; omega
  have e41 : (r == 41) = false := by rw [beq_eq_false_iff_ne]; omega
  have e61 : (r == 61) = false := by rw [beq_eq_false_iff_ne]; omega
  have e59 : (r == 59) = false := by rw [beq_eq_false_iff_ne]; omega
  have e44 : (r == 44) = false := by rw [beq_eq_false_iff_ne]; omega
  go_enter Try.func36, Try.ntmps36
  go_wp2
  go_ret
  exact ⟨rfl, rfl⟩
theorem kind_iv3 (r : Int) (h0 : 33 ≤ r) (h1 : r ≤ 39) (w : World) : Calls Try.prog 36 #[.int .i64 r] w fun e w' => e = .returned (.int .i64 0) ∧ w = w' := by
  have g97 : ¬ 97 ≤ r := by omega
  have g65 : ¬ 65 ≤ r := by omega
  have e95 : (r == 95) = false := by rw [beq_eq_false_iff_ne]; omega
  have g128 : ¬ 128 ≤ r := by omega
  have g48 : ¬ 48 ≤ r := by omega
  have e9 : (r == 9) = false := by rw [beq_eq_false_iff_ne]; omega
  have e10 : (r == 10) = false := by rw [beq_eq_false_iff_ne]; omega
  have e13 : (r == 13) = false := by rw [beq_eq_false_iff_ne]; omega
  have e32 : (r == 32) = false := by rw [beq_eq_false_iff_ne]; omega
  have e43 : (r == 43) = false := by rw [beq_eq_false_iff_ne]; omega
  have e45 : (r == 45) = false := by rw [beq_eq_false_iff_ne]; omega
  have e42 : (r == 42) = false := by rw [beq_eq_false_iff_ne]; omega
  have e47 : (r == 47) = false := by rw [beq_eq_false_iff_ne]; omega
  have e94 : (r == 94) = false := by rw [beq_eq_false_iff_ne]; omega
  have e40 : (r == 40) = false := by rw [beq_eq_false_iff_ne]; omega
  have e41 : (r == 41) = false := by rw [beq_eq_false_iff_ne]; omega
  have e61 : (r == 61) = false := by rw [beq_eq_false_iff_ne]; omega
  have e59 : (r == 59) = false := by rw [beq_eq_false_iff_ne]; omega
  have e44 : (r == 44) = false := by rw [beq_eq_false_iff_ne]; omega
  go_enter Try.func36, Try.ntmps36
  go_wp2
  go_ret
  exact ⟨rfl, rfl⟩
theorem kind_iv4 (r : Int) (h0 : 46 ≤ r) (h1 : r ≤ 46) (w : World) : Calls Try.prog 36 #[.int .i64 r] w fun e w' => e = .returned (.int .i64 0) ∧ w = w' := by
  have g97 : ¬ 97 ≤ r := by omega
  have g65 : ¬ 65 ≤ r := by omega
  have e95 : (r == 95) = false := by rw [beq_eq_false_iff_ne]; omega
  have g128 : ¬ 128 ≤ r := by omega
  have g48 : ¬ 48 ≤ r := by omega
  have e9 : (r == 9) = false := by rw [beq_eq_false_iff_ne]; omega
  have e10 : (r == 10) = false := by rw [beq_eq_false_iff_ne]; omega
  have e13 : (r == 13) = false := by rw [beq_eq_false_iff_ne]; omega
  have e32 : (r == 32) = false := by rw [beq_eq_false_iff_ne]; omega
  have e43 : (r == 43) = false := by rw [beq_eq_false_iff_ne]; omega
  have e45 : (r == 45) = false := by rw [beq_eq_false_iff_ne]; omega
  have e42 : (r == 42) = false := by rw [beq_eq_false_iff_ne]; omega
  have e47 : (r == 47) = false := by rw [beq_eq_false_iff_ne]; omega
  have e94 : (r == 94) = false := by rw [beq_eq_false_iff_ne]; omega
  have e40 : (r == 40) = false := by rw [beq_eq_false_iff_ne]; omega
  have e41 : (r == 41) = false := by rw [beq_eq_false_iff_ne]; omega
  have e61 : (r == 61) = false := by rw [beq_eq_false_iff_ne]; omega
  have e59 : (r == 59) = false := by rw [beq_eq_false_iff_ne]; omega
  have e44 : (r == 44) = false := by rw [beq_eq_false_iff_ne]; omega
  go_enter Try.func36, Try.ntmps36
  go_wp2
  go_ret
  exact ⟨rfl, rfl⟩
theorem kind_iv5 (r : Int) (h0 : 48 ≤ r) (h1 : r ≤ 57) (w : World) : Calls Try.prog 36 #[.int .i64 r] w fun e w' => e = .returned (.int .i64 2) ∧ w = w' := by
  have g97 : ¬ 97 ≤ r := by omega
  have g65 : ¬ 65 ≤ r := by omega
  have e95 : (r == 95) = false := by rw [beq_eq_false_iff_ne]; omega
  have g128 : ¬ 128 ≤ r := by omega
  have g48 : 48 ≤ r := by omega
  have l57 : r ≤ 57 := by omega
  go_enter Try.func36, Try.ntmps36
  go_wp2
  go_ret
  exact ⟨rfl, rfl⟩
theorem kind_iv6 (r : Int) (h0 : 58 ≤ r) (h1 : r ≤ 58) (w : World) : Calls Try.prog 36 #[.int .i64 r] w fun e w' => e = .returned (.int .i64 0) ∧ w = w' := by
  have g97 : ¬ 97 ≤ r := by omega
  have g65 : ¬ 65 ≤ r := by omega
  have e95 : (r == 95) = false := by rw [beq_eq_false_iff_ne]; omega
  have g128 : ¬ 128 ≤ r := by omega
  have g48 : 48 ≤ r := by omega
  have l57 : ¬ r ≤ 57 := by omega
  have e9 : (r == 9) = false := by rw [beq_eq_false_iff_ne]; omega
  have e10 : (r == 10) = false := by rw [beq_eq_false_iff_ne]; omega
  have e13 : (r == 13) = false := by rw [beq_eq_false_iff_ne]; omega
  have e32 : (r == 32) = false := by rw [beq_eq_false_iff_ne]; omega
  have e43 : (r == 43) = false := by rw [beq_eq_false_iff_ne]; omega
  have e45 : (r == 45) = false := by rw [beq_eq_false_iff_ne]; omega
  have e42 : (r == 42) = false := by rw [beq_eq_false_iff_ne]; omega
  have e47 : (r == 47) = false := by rw [beq_eq_false_iff_ne]; omega
  have e94 : (r == 94) = false := by rw [beq_eq_false_iff_ne]; omega
  have e40 : (r == 40) = false := by rw [beq_eq_false_iff_ne]; omega
  have e41 : (r == 41) = false := by rw [beq_eq_false_iff_ne]; omega
  have e61 : (r == 61) = false := by rw [beq_eq_false_iff_ne]; omega
  have e59 : (r == 59) = false := by rw [beq_eq_false_iff_ne]; omega
  have e44 : (r == 44) = false := by rw [beq_eq_false_iff_ne]; omega
  go_enter Try.func36, Try.ntmps36
  go_wp2
  go_ret
  exact ⟨rfl, rfl⟩
theorem kind_iv7 (r : Int) (h0 : 60 ≤ r) (h1 : r ≤ 60) (w : World) : Calls Try.prog 36 #[.int .i64 r] w fun e w' => e = .returned (.int .i64 0) ∧ w = w' := by
  have g97 : ¬ 97 ≤ r := by omega
  have g65 : ¬ 65 ≤ r := by omega
  have e95 : (r == 95) = false := by rw [beq_eq_false_iff_ne]; omega
  have g128 : ¬ 128 ≤ r := by omega
  have g48 : 48 ≤ r := by omega
  have l57 : ¬ r ≤ 57 := by omega
  have e9 : (r == 9) = false := by rw [beq_eq_false_iff_ne]; omega
  have e10 : (r == 10) = false := by rw [beq_eq_false_iff_ne]; omega
  have e13 : (r == 13) = false := by rw [beq_eq_false_iff_ne]; omega
  have e32 : (r == 32) = false := by rw [beq_eq_false_iff_ne]; omega
  have e43 : (r == 43) = false := by rw [beq_eq_false_iff_ne]; omega
  have e45 : (r == 45) = false := by rw [beq_eq_false_iff_ne]; omega
  have e42 : (r == 42) = false := by rw [beq_eq_false_iff_ne]; omega
  have e47 : (r == 47) = false := by rw [beq_eq_false_iff_ne]; omega
  have e94 : (r == 94) = false := by rw [beq_eq_false_iff_ne]; omega
  have e40 : (r == 40) = false := by rw [beq_eq_false_iff_ne]; omega
  have e41 : (r == 41) = false := by rw [beq_eq_false_iff_ne]; omega
  have e61 : (r == 61) = false := by rw [beq_eq_false_iff_ne]; omega
  have e59 : (r == 59) = false := by rw [beq_eq_false_iff_ne]; omega
  have e44 : (r == 44) = false := by rw [beq_eq_false_iff_ne]; omega
  go_enter Try.func36, Try.ntmps36
  go_wp2
  go_ret
  exact ⟨rfl, rfl⟩
theorem kind_iv8 (r : Int) (h0 : 62 ≤ r) (h1 : r ≤ 64) (w : World) : Calls Try.prog 36 #[.int .i64 r] w fun e w' => e = .returned (.int .i64 0) ∧ w = w' := by
  have g97 : ¬ 97 ≤ r := by omega
  have g65 : ¬ 65 ≤ r := by omega
  have e95 : (r == 95) = false := by rw [beq_eq_false_iff_ne]; omega
  have g128 : ¬ 128 ≤ r := by omega
  have g48 : 48 ≤ r := by omega
  have l57 : ¬ r ≤ 57 := by omega
  have e9 : (r == 9) = false := by rw [beq_eq_false_iff_ne]; omega
  have e10 : (r == 10) = false := by rw [beq_eq_false_iff_ne]; omega
  have e13 : (r == 13) = false := by rw [beq_eq_false_iff_ne]; omega
  have e32 : (r == 32) = false := by rw [beq_eq_false_iff_ne]; omega
  have e43 : (r == 43) = false := by rw [beq_eq_false_iff_ne]; omega
  have e45 : (r == 45) = false := by rw [beq_eq_false_iff_ne]; omega
  have e42 : (r == 42) = false := by rw [beq_eq_false_iff_ne]; omega
  have e47 : (r == 47) = false := by rw [beq_eq_false_iff_ne]; omega
  have e94 : (r == 94) = false := by rw [beq_eq_false_iff_ne]; omega
  have e40 : (r == 40) = false := by rw [beq_eq_false_iff_ne]; omega
  have e41 : (r == 41) = false := by rw [beq_eq_false_iff_ne]; omega
  have e61 : (r == 61) = false := by rw [beq_eq_false_iff_ne]; omega
  have e59 : (r == 59) = false := by rw [beq_eq_false_iff_ne]; omega
  have e44 : (r == 44) = false := by rw [beq_eq_false_iff_ne]; omega
  go_enter Try.func36, Try.ntmps36
  go_wp2
  go_ret
  exact ⟨rfl, rfl⟩
theorem kind_iv9 (r : Int) (h0 : 65 ≤ r) (h1 : r ≤ 90) (w : World) : Calls Try.prog 36 #[.int .i64 r] w fun e w' => e = .returned (.int .i64 1) ∧ w = w' := by
  have g97 : ¬ 97 ≤ r := by omega
  have g65 : 65 ≤ r := by omega
  have l90 : r ≤ 90 := by omega
  go_enter Try.func36, Try.ntmps36
  go_wp2
  go_ret
  exact ⟨rfl, rfl⟩
theorem kind_iv10 (r : Int) (h0 : 91 ≤ r) (h1 : r ≤ 93) (w : World) : Calls Try.prog 36 #[.int .i64 r] w fun e w' => e = .returned (.int .i64 0) ∧ w = w' := by
  have g97 : ¬ 97 ≤ r := by omega
  have g65 : 65 ≤ r := by omega
  have l90 : ¬ r ≤ 90 := by omega
  have e95 : (r == 95) = false := by rw [beq_eq_false_iff_ne]; omega
  have g128 : ¬ 128 ≤ r := by omega
  have g48 : 48 ≤ r := by omega
  have l57 : ¬ r ≤ 57 := by omega
  have e9 : (r == 9) = false := by rw [beq_eq_false_iff_ne]; omega
  have e10 : (r == 10) = false := by rw [beq_eq_false_iff_ne]; omega
  have e13 : (r == 13) = false := by rw [beq_eq_false_iff_ne]; omega
  have e32 : (r == 32) = false := by rw [beq_eq_false_iff_ne]; omega
  have e43 : (r == 43) = false := by rw [beq_eq_false_iff_ne]; omega
  have e45 : (r == 45) = false := by rw [beq_eq_false_iff_ne]; omega
  have e42 : (r == 42) = false := by rw [beq_eq_false_iff_ne]; omega
  have e47 : (r == 47) = false := by rw [beq_eq_false_iff_ne]; omega
  have e94 : (r == 94) = false := by rw [beq_eq_false_iff_ne]; omega
  have e40 : (r == 40) = false := by rw [beq_eq_false_iff_ne]; omega
  have e41 : (r == 41) = false := by rw [beq_eq_false_iff_ne]; omega
  have e61 : (r == 61) = false := by rw [beq_eq_false_iff_ne]; omega
  have e59 : (r == 59) = false := by rw [beq_eq_false_iff_ne]; omega
  have e44 : (r == 44) = false := by rw [beq_eq_false_iff_ne]; omega
  go_enter Try.func36, Try.ntmps36
  go_wp2
  go_ret
  exact ⟨rfl, rfl⟩
theorem kind_iv11 (r : Int) (h0 : 96 ≤ r) (h1 : r ≤ 96) (w : World) : Calls Try.prog 36 #[.int .i64 r] w fun e w' => e = .returned (.int .i64 0) ∧ w = w' := by
  have g97 : ¬ 97 ≤ r := by omega
  have g65 : 65 ≤ r := by omega
  have l90 : ¬ r ≤ 90 := by omega
  have e95 : (r == 95) = false := by rw [beq_eq_false_iff_ne]; omega
  have g128 : ¬ 128 ≤ r := by omega
  have g48 : 48 ≤ r := by omega
  have l57 : ¬ r ≤ 57 := by omega
  have e9 : (r == 9) = false := by rw [beq_eq_false_iff_ne]; omega
  have e10 : (r == 10) = false := by rw [beq_eq_false_iff_ne]; omega
  have e13 : (r == 13) = false := by rw [beq_eq_false_iff_ne]; omega
  have e32 : (r == 32) = false := by rw [beq_eq_false_iff_ne]; omega
  have e43 : (r == 43) = false := by rw [beq_eq_false_iff_ne]; omega
  have e45 : (r == 45) = false := by rw [beq_eq_false_iff_ne]; omega
  have e42 : (r == 42) = false := by rw [beq_eq_false_iff_ne]; omega
  have e47 : (r == 47) = false := by rw [beq_eq_false_iff_ne]; omega
  have e94 : (r == 94) = false := by rw [beq_eq_false_iff_ne]; omega
  have e40 : (r == 40) = false := by rw [beq_eq_false_iff_ne]; omega
  have e41 : (r == 41) = false := by rw [beq_eq_false_iff_ne]; omega
  have e61 : (r == 61) = false := by rw [beq_eq_false_iff_ne]; omega
  have e59 : (r == 59) = false := by rw [beq_eq_false_iff_ne]; omega
  have e44 : (r == 44) = false := by rw [beq_eq_false_iff_ne]; omega
  go_enter Try.func36, Try.ntmps36
  go_wp2
  go_ret
  exact ⟨rfl, rfl⟩
theorem kind_iv12 (r : Int) (h0 : 97 ≤ r) (h1 : r ≤ 122) (w : World) : Calls Try.prog 36 #[.int .i64 r] w fun e w' => e = .returned (.int .i64 1) ∧ w = w' := by
  have g97 : 97 ≤ r := by omega
  have l122 : r ≤ 122 := by omega
  go_enter Try.func36, Try.ntmps36
  go_wp2
  go_ret
  exact ⟨rfl, rfl⟩
theorem kind_iv13 (r : Int) (h0 : 123 ≤ r) (h1 : r ≤ 127) (w : World) : Calls Try.prog 36 #[.int .i64 r] w fun e w' => e = .returned (.int .i64 0) ∧ w = w' := by
  have g97 : 97 ≤ r := by omega
  have l122 : ¬ r ≤ 122 := by omega
  have g65 : 65 ≤ r := by omega
  have l90 : ¬ r ≤ 90 := by omega
  have e95 : (r == 95) = false := by rw [beq_eq_false_iff_ne]; omega
  have g128 : ¬ 128 ≤ r := by omega
  have g48 : 48 ≤ r := by omega
  have l57 : ¬ r ≤ 57 := by omega
  have e9 : (r == 9) = false := by rw [beq_eq_false_iff_ne]; omega
  have e10 : (r == 10) = false := by rw [beq_eq_false_iff_ne]; omega
  have e13 : (r == 13) = false := by rw [beq_eq_false_iff_ne]; omega
  have e32 : (r == 32) = false := by rw [beq_eq_false_iff_ne]; omega
  have e43 : (r == 43) = false := by rw [beq_eq_false_iff_ne]; omega
  have e45 : (r == 45) = false := by rw [beq_eq_false_iff_ne]; omega
  have e42 : (r == 42) = false := by rw [beq_eq_false_iff_ne]; omega
  have e47 : (r == 47) = false := by rw [beq_eq_false_iff_ne]; omega
  have e94 : (r == 94) = false := by rw [beq_eq_false_iff_ne]; omega
  have e40 : (r == 40) = false := by rw [beq_eq_false_iff_ne]; omega
  have e41 : (r == 41) = false := by rw [beq_eq_false_iff_ne]; omega
  have e61 : (r == 61) = false := by rw [beq_eq_false_iff_ne]; omega
  have e59 : (r == 59) = false := by rw [beq_eq_false_iff_ne]; omega
  have e44 : (r == 44) = false := by rw [beq_eq_false_iff_ne]; omega
  go_enter Try.func36, Try.ntmps36
  go_wp2
  go_ret
  exact ⟨rfl, rfl⟩
theorem kind_iv14 (r : Int) (h0 : 128 ≤ r) (h1 : r ≤ 65532) (w : World) : Calls Try.prog 36 #[.int .i64 r] w fun e w' => e = .returned (.int .i64 1) ∧ w = w' := by
  have g97 : 97 ≤ r := by omega
  have l122 : ¬ r ≤ 122 := by omega
  have g65 : 65 ≤ r := by omega
  have l90 : ¬ r ≤ 90 := by omega
  have e95 : (r == 95) = false := by rw [beq_eq_false_iff_ne]; omega
  have g128 : 128 ≤ r := by omega
  have l1114111 : r ≤ 1114111 := by omega
  have n1 : (r != 65533) = true := by rw [bne_iff_ne]; omega
  go_enter Try.func36, Try.ntmps36
  go_wp2
  go_ret
  exact ⟨rfl, rfl⟩
theorem kind_iv15 (r : Int) (h0 : 65534 ≤ r) (h1 : r ≤ 1114111) (w : World) : Calls Try.prog 36 #[.int .i64 r] w fun e w' => e = .returned (.int .i64 1) ∧ w = w' := by
  have g97 : 97 ≤ r := by omega
  have l122 : ¬ r ≤ 122 := by omega
  have g65 : 65 ≤ r := by omega
  have l90 : ¬ r ≤ 90 := by omega
  have e95 : (r == 95) = false := by rw [beq_eq_false_iff_ne]; omega
  have g128 : 128 ≤ r := by omega
  have l1114111 : r ≤ 1114111 := by omega
  have n1 : (r != 65533) = true := by rw [bne_iff_ne]; omega
  go_enter Try.func36, Try.ntmps36
  go_wp2
  go_ret
  exact ⟨rfl, rfl⟩
theorem kind_iv16 (r : Int) (h0 : 1114112 ≤ r) (w : World) : Calls Try.prog 36 #[.int .i64 r] w fun e w' => e = .returned (.int .i64 0) ∧ w = w' := by
  have g97 : 97 ≤ r := by omega
  have l122 : ¬ r ≤ 122 := by omega
  have g65 : 65 ≤ r := by omega
  have l90 : ¬ r ≤ 90 := by omega
  have e95 : (r == 95) = false := by rw [beq_eq_false_iff_ne]; omega
  have g128 : 128 ≤ r := by omega
  have l1114111 : ¬ r ≤ 1114111 := by omega
  have g48 : 48 ≤ r := by omega
  have l57 : ¬ r ≤ 57 := by omega
  have e9 : (r == 9) = false := by rw [beq_eq_false_iff_ne]; omega
  have e10 : (r == 10) = false := by rw [beq_eq_false_iff_ne]; omega
  have e13 : (r == 13) = false := by rw [beq_eq_false_iff_ne]; omega
  have e32 : (r == 32) = false := by rw [beq_eq_false_iff_ne]; omega
  have e43 : (r == 43) = false := by rw [beq_eq_false_iff_ne]; omega
  have e45 : (r == 45) = false := by rw [beq_eq_false_iff_ne]; omega
  have e42 : (r == 42) = false := by rw [beq_eq_false_iff_ne]; omega
  have e47 : (r == 47) = false := by rw [beq_eq_false_iff_ne]; omega
  have e94 : (r == 94) = false := by rw [beq_eq_false_iff_ne]; omega
  have e40 : (r == 40) = false := by rw [beq_eq_false_iff_ne]; omega
  have e41 : (r == 41) = false := by rw [beq_eq_false_iff_ne]; omega
  have e61 : (r == 61) = false := by rw [beq_eq_false_iff_ne]; omega
  have e59 : (r == 59) = false := by rw [beq_eq_false_iff_ne]; omega
  have e44 : (r == 44) = false := by rw [beq_eq_false_iff_ne]; omega
  go_enter Try.func36, Try.ntmps36
  go_wp2
  go_ret
  exact ⟨rfl, rfl⟩
theorem kind_one9 (w : World) : Calls Try.prog 36 #[.int .i64 9] w fun e w' => e = .returned (.int .i64 3) ∧ w = w' := by
  go_enter Try.func36, Try.ntmps36
  go_wp2
  go_ret
  exact ⟨rfl, rfl⟩
theorem kind_one10 (w : World) : Calls Try.prog 36 #[.int .i64 10] w fun e w' => e = .returned (.int .i64 3) ∧ w = w' := by
  go_enter Try.func36, Try.ntmps36
  go_wp2
  go_ret
  exact ⟨rfl, rfl⟩
theorem kind_one13 (w : World) : Calls Try.prog 36 #[.int .i64 13] w fun e w' => e = .returned (.int .i64 3) ∧ w = w' := by
  go_enter Try.func36, Try.ntmps36
  go_wp2
  go_ret
  exact ⟨rfl, rfl⟩
theorem kind_one32 (w : World) : Calls Try.prog 36 #[.int .i64 32] w fun e w' => e = .returned (.int .i64 3) ∧ w = w' := by
  go_enter Try.func36, Try.ntmps36
  go_wp2
  go_ret
  exact ⟨rfl, rfl⟩
theorem kind_one40 (w : World) : Calls Try.prog 36 #[.int .i64 40] w fun e w' => e = .returned (.int .i64 4) ∧ w = w' := by
  go_enter Try.func36, Try.ntmps36
  go_wp2
  go_ret
  exact ⟨rfl, rfl⟩
theorem kind_one41 (w : World) : Calls Try.prog 36 #[.int .i64 41] w fun e w' => e = .returned (.int .i64 4) ∧ w = w' := by
  go_enter Try.func36, Try.ntmps36
  go_wp2
  go_ret
  exact ⟨rfl, rfl⟩
theorem kind_one42 (w : World) : Calls Try.prog 36 #[.int .i64 42] w fun e w' => e = .returned (.int .i64 4) ∧ w = w' := by
  go_enter Try.func36, Try.ntmps36
  go_wp2
  go_ret
  exact ⟨rfl, rfl⟩
theorem kind_one43 (w : World) : Calls Try.prog 36 #[.int .i64 43] w fun e w' => e = .returned (.int .i64 4) ∧ w = w' := by
  go_enter Try.func36, Try.ntmps36
  go_wp2
  go_ret
  exact ⟨rfl, rfl⟩
theorem kind_one44 (w : World) : Calls Try.prog 36 #[.int .i64 44] w fun e w' => e = .returned (.int .i64 4) ∧ w = w' := by
  go_enter Try.func36, Try.ntmps36
  go_wp2
  go_ret
  exact ⟨rfl, rfl⟩
theorem kind_one45 (w : World) : Calls Try.prog 36 #[.int .i64 45] w fun e w' => e = .returned (.int .i64 4) ∧ w = w' := by
  go_enter Try.func36, Try.ntmps36
  go_wp2
  go_ret
  exact ⟨rfl, rfl⟩
theorem kind_one47 (w : World) : Calls Try.prog 36 #[.int .i64 47] w fun e w' => e = .returned (.int .i64 4) ∧ w = w' := by
  go_enter Try.func36, Try.ntmps36
  go_wp2
  go_ret
  exact ⟨rfl, rfl⟩
theorem kind_one59 (w : World) : Calls Try.prog 36 #[.int .i64 59] w fun e w' => e = .returned (.int .i64 4) ∧ w = w' := by
  go_enter Try.func36, Try.ntmps36
  go_wp2
  go_ret
  exact ⟨rfl, rfl⟩
theorem kind_one61 (w : World) : Calls Try.prog 36 #[.int .i64 61] w fun e w' => e = .returned (.int .i64 4) ∧ w = w' := by
  go_enter Try.func36, Try.ntmps36
  go_wp2
  go_ret
  exact ⟨rfl, rfl⟩
theorem kind_one94 (w : World) : Calls Try.prog 36 #[.int .i64 94] w fun e w' => e = .returned (.int .i64 4) ∧ w = w' := by
  go_enter Try.func36, Try.ntmps36
  go_wp2
  go_ret
  exact ⟨rfl, rfl⟩
theorem kind_one95 (w : World) : Calls Try.prog 36 #[.int .i64 95] w fun e w' => e = .returned (.int .i64 1) ∧ w = w' := by
  go_enter Try.func36, Try.ntmps36
  go_wp2
  go_ret
  exact ⟨rfl, rfl⟩
theorem kind_one65533 (w : World) : Calls Try.prog 36 #[.int .i64 65533] w fun e w' => e = .returned (.int .i64 0) ∧ w = w' := by
  go_enter Try.func36, Try.ntmps36
  go_wp2
  go_ret
  exact ⟨rfl, rfl⟩
theorem kind_ways (r : Int) : (r ≤ 8) ∨ (r = 9) ∨ (r = 10) ∨ (11 ≤ r ∧ r ≤ 12) ∨ (r = 13) ∨ (14 ≤ r ∧ r ≤ 31) ∨ (r = 32) ∨ (33 ≤ r ∧ r ≤ 39) ∨ (r = 40) ∨ (r = 41) ∨ (r = 42) ∨ (r = 43) ∨ (r = 44) ∨ (r = 45) ∨ (46 ≤ r ∧ r ≤ 46) ∨ (r = 47) ∨ (48 ≤ r ∧ r ≤ 57) ∨ (58 ≤ r ∧ r ≤ 58) ∨ (r = 59) ∨ (60 ≤ r ∧ r ≤ 60) ∨ (r = 61) ∨ (62 ≤ r ∧ r ≤ 64) ∨ (65 ≤ r ∧ r ≤ 90) ∨ (91 ≤ r ∧ r ≤ 93) ∨ (r = 94) ∨ (r = 95) ∨ (96 ≤ r ∧ r ≤ 96) ∨ (97 ≤ r ∧ r ≤ 122) ∨ (123 ≤ r ∧ r ≤ 127) ∨ (128 ≤ r ∧ r ≤ 65532) ∨ (r = 65533) ∨ (65534 ≤ r ∧ r ≤ 1114111) ∨ (1114112 ≤ r) := by omega
set_option maxHeartbeats 1000000 in
theorem ref_skind (r : Int) (k : Int) (hk : kindI r = k) (w : World) : Calls Try.prog 36 #[.int .i64 r] w fun e w' => e = .returned (.int .i64 k) ∧ w = w' := by
  subst hk
  rcases kind_ways r with h0 | rfl | rfl | ⟨h0, h1⟩ | rfl | ⟨h0, h1⟩ | rfl | ⟨h0, h1⟩ | rfl | rfl | rfl | rfl | rfl | rfl | ⟨h0, h1⟩ | rfl | ⟨h0, h1⟩ | ⟨h0, h1⟩ | rfl | ⟨h0, h1⟩ | rfl | ⟨h0, h1⟩ | ⟨h0, h1⟩ | ⟨h0, h1⟩ | rfl | rfl | ⟨h0, h1⟩ | ⟨h0, h1⟩ | ⟨h0, h1⟩ | ⟨h0, h1⟩ | rfl | ⟨h0, h1⟩ | h0
  · rw [show kindI r = 0 from by unfold kindI; (repeat' split) <;> omega]; exact kind_iv0 r h0 w
  · rw [show kindI 9 = 3 from by decide]; exact kind_one9 w
  · rw [show kindI 10 = 3 from by decide]; exact kind_one10 w
  · rw [show kindI r = 0 from by unfold kindI; (repeat' split) <;> omega]; exact kind_iv1 r h0 h1 w
  · rw [show kindI 13 = 3 from by decide]; exact kind_one13 w
  · rw [show kindI r = 0 from by unfold kindI; (repeat' split) <;> omega]; exact kind_iv2 r h0 h1 w
  · rw [show kindI 32 = 3 from by decide]; exact kind_one32 w
  · rw [show kindI r = 0 from by unfold kindI; (repeat' split) <;> omega]; exact kind_iv3 r h0 h1 w
  · rw [show kindI 40 = 4 from by decide]; exact kind_one40 w
  · rw [show kindI 41 = 4 from by decide]; exact kind_one41 w
  · rw [show kindI 42 = 4 from by decide]; exact kind_one42 w
  · rw [show kindI 43 = 4 from by decide]; exact kind_one43 w
  · rw [show kindI 44 = 4 from by decide]; exact kind_one44 w
  · rw [show kindI 45 = 4 from by decide]; exact kind_one45 w
  · rw [show kindI r = 0 from by unfold kindI; (repeat' split) <;> omega]; exact kind_iv4 r h0 h1 w
  · rw [show kindI 47 = 4 from by decide]; exact kind_one47 w
  · rw [show kindI r = 2 from by unfold kindI; (repeat' split) <;> omega]; exact kind_iv5 r h0 h1 w
  · rw [show kindI r = 0 from by unfold kindI; (repeat' split) <;> omega]; exact kind_iv6 r h0 h1 w
  · rw [show kindI 59 = 4 from by decide]; exact kind_one59 w
  · rw [show kindI r = 0 from by unfold kindI; (repeat' split) <;> omega]; exact kind_iv7 r h0 h1 w
  · rw [show kindI 61 = 4 from by decide]; exact kind_one61 w
  · rw [show kindI r = 0 from by unfold kindI; (repeat' split) <;> omega]; exact kind_iv8 r h0 h1 w
  · rw [show kindI r = 1 from by unfold kindI; (repeat' split) <;> omega]; exact kind_iv9 r h0 h1 w
  · rw [show kindI r = 0 from by unfold kindI; (repeat' split) <;> omega]; exact kind_iv10 r h0 h1 w
  · rw [show kindI 94 = 4 from by decide]; exact kind_one94 w
  · rw [show kindI 95 = 1 from by decide]; exact kind_one95 w
  · rw [show kindI r = 0 from by unfold kindI; (repeat' split) <;> omega]; exact kind_iv11 r h0 h1 w
  · rw [show kindI r = 1 from by unfold kindI; (repeat' split) <;> omega]; exact kind_iv12 r h0 h1 w
  · rw [show kindI r = 0 from by unfold kindI; (repeat' split) <;> omega]; exact kind_iv13 r h0 h1 w
  · rw [show kindI r = 1 from by unfold kindI; (repeat' split) <;> omega]; exact kind_iv14 r h0 h1 w
  · rw [show kindI 65533 = 0 from by decide]; exact kind_one65533 w
  · rw [show kindI r = 1 from by unfold kindI; (repeat' split) <;> omega]; exact kind_iv15 r h0 h1 w
  · rw [show kindI r = 0 from by unfold kindI; (repeat' split) <;> omega]; exact kind_iv16 r h0 w
end Go.Proofs.Ytfdheodkipfpeaa
/-
  Contracts of package limb's functions (variadic sum, halves, Add, Sub, Mul, Div, Bits, Low), each for every word: what it answers in plain integers, and that memory that was there stays. No conditions but that arguments are words.
-/
namespace Go.Proofs.Ytfdheodkipfpeaa
open Go.RowKit

def isum : List Int → Int
  | [] => 0
  | x :: r => x + isum r
theorem isum_snoc (l : List Int) (x : Int) : isum (l ++ [x]) = isum l + x := by
  induction l with
  | nil => simp [isum]
  | cons y r ih => simp only [List.cons_append, isum, ih]; omega

theorem ret_two {k l : IntKind} {a b c d : Int} (h : a = c) (g : b = d) : Ending.returned (.tuple #[.int k a, .int l b]) = .returned (.tuple #[.int k c, .int l d]) := by rw [h, g]









end Go.Proofs.Ytfdheodkipfpeaa
/-
  Contracts of limb.Bits and limb.Low, for every word and every list of words: how many binary digits, how many words without the 0s at the end; memory stays.
-/
namespace Go.Proofs.Ytfdheodkipfpeaa
open Go.RowKit

theorem ret_int {k : IntKind} {a b : Int} (h : a = b) : Ending.returned (.int k a) = .returned (.int k b) := by rw [h]



/-- How many of the first n words there are without the 0s at the end. -/
def lowN (zs : List Int) : Nat → Nat
  | 0 => 0
  | n + 1 => if zs.getD n 0 = 0 then lowN zs n else n + 1
theorem lowN_le (zs : List Int) (n : Nat) : lowN zs n ≤ n := by
  induction n with
  | zero => simp [lowN]
  | succ n ih => simp only [lowN]; split <;> omega
theorem lowN_zero {zs : List Int} {n : Nat} (h : zs.getD n 0 = 0) : lowN zs (n + 1) = lowN zs n := by simp only [lowN]; rw [if_pos h]
theorem lowN_keep {zs : List Int} {n : Nat} (h : zs.getD n 0 ≠ 0) : lowN zs (n + 1) = n + 1 := by simp only [lowN]; rw [if_neg h]

/-- The slice (a, n) reads as the integers zs: it is empty, or its cells hold them. -/
def Reads (k : IntKind) (w : World) (a : Option Addr) (n : Nat) (zs : List Int) : Prop :=
  zs.length = n ∧ (n = 0 ∨ ∃ b off, a = some ⟨b, off, none⟩ ∧ ∀ i, i < n → w.cell? ⟨b, off + i, none⟩ = some (.int k (zs.getD i 0)))

end Go.Proofs.Ytfdheodkipfpeaa
/-
  Laws of no function: slices of 32-bit words that a call reads or makes: what reads as words, what the call owns, append onto an owned row, of words and of zeros. Conditions: Go's own limits on sizes.
-/
namespace Go.Proofs.Ytfdheodkipfpeaa
open Go.RowKit

theorem infoU32 : (Try.prog.info? 76).map (fun i => (i.zero, i.size, i.bytes)) = some (some (.int .u32 0), 1, 4) := by kernel_rfl

/-- The slice value v reads as the words zs. -/
def IsWords (w : World) (v : Value) (zs : List Int) : Prop :=
  (v = .slice none 0 0 ∧ zs = []) ∨ ∃ x cap, v = .slice (some x) zs.length cap ∧ zs.length ≤ cap ∧ cap ≤ maxLen ∧ ∀ i, i < zs.length → w.cell? (x.add i) = some (.int .u32 (zs.getD i 0))

/-- The call that began in W owns v, n words xs; nothing older than W has turned. -/
def Own (W w : World) (v : Value) (n : Nat) (xs : List Int) : Prop :=
  w.ownsRow W.heap.size 76 1 v n (xs.map (Value.int .u32)) ∧ Below W.heap.size W w

theorem Own.length {W w : World} {v : Value} {n : Nat} {xs : List Int} (h : Own W w v n xs) : xs.length = n := by
  have := h.1.1; simpa using this

theorem Own.words {W w : World} {v : Value} {n : Nat} {xs : List Int} (h : Own W w v n xs) : IsWords w v xs := by
  have hl := h.length
  rcases h.1.2 with ⟨rfl, rfl⟩ | ⟨g, cap, cur, rfl, -, hg, hnc, hcm, -, -⟩
  · exact .inl ⟨rfl, List.eq_nil_of_length_eq_zero hl⟩
  · refine .inr ⟨⟨g, 0, none⟩, cap, by rw [hl], by omega, hcm, fun i hi => ?_⟩
    refine h.1.cells (g := g) rfl i _ ?_
    simp [hi]

theorem IsWords.below {w w' : World} {v : Value} {zs : List Int} (h : IsWords w v zs) (hb : Below w.heap.size w w') : IsWords w' v zs := by
  rcases h with h | ⟨x, cap, rfl, h1, h2, hc⟩
  · exact .inl h
  · refine .inr ⟨x, cap, rfl, h1, h2, fun i hi => ?_⟩
    have hci := hc i hi
    rw [hb.cell (p := x.add i) (World.block_lt_of_cell? w _ hci)]
    exact hci

theorem IsWords.lit {w : World} {v : Value} {zs : List Int} (h : IsWords w v zs) : ∃ a c, v = .slice a zs.length c := by
  rcases h with ⟨rfl, rfl⟩ | ⟨x, cap, rfl, -⟩
  · exact ⟨none, 0, rfl⟩
  · exact ⟨_, _, rfl⟩

theorem Own.lit {W w : World} {v : Value} {n : Nat} {xs : List Int} (h : Own W w v n xs) : ∃ a c, v = .slice a n c := by
  obtain ⟨a, c, e⟩ := h.words.lit
  exact ⟨a, c, by rw [e, h.length]⟩

theorem Own.below {W w : World} {v : Value} {n : Nat} {xs : List Int} (h : Own W w v n xs) : Below W.heap.size W w := h.2

theorem oneCells (ys : List Int) : ∀ u ∈ ys.map (Value.int .u32), u.oneCell' = true := by
  intro u hu
  obtain ⟨y, -, rfl⟩ := List.mem_map.1 hu
  rfl

theorem below_grown {W w w' : World} {v : Value} {n : Nat} {xs : List Int} (h : Own W w v n xs) (hg : w.grownBy w' v.ownBlock) : Below W.heap.size W w' :=
  h.2.grown hg h.2.size (fun k hk => (h.1.lt k hk).1)

theorem Own.alloc {W w : World} {v : Value} {n : Nat} {xs : List Int} (h : Own W w v n xs) (o : Obj) : Own W (w.alloc o) v n xs := ⟨h.1.alloc o, h.2.alloc h.2.size o⟩
theorem Own.drew {W w : World} {v : Value} {n : Nat} {xs : List Int} (h : Own W w v n xs) : Own W w.drew v n xs := ⟨h.1, h.2.drew⟩

/-- A literal of n words in a new block reads as these words. -/
theorem lit_words (w : World) (xs : List Int) (n : Nat) (hn : xs.length = n) (hm : n ≤ maxLen) :
    IsWords (w.alloc (.cells (xs.map (Value.int .u32)).toArray 76)) (.slice (some ⟨w.heap.size, 0, none⟩) n n) xs := by
  refine .inr ⟨_, n, by rw [hn], by omega, hm, fun i hi => ?_⟩
  rw [Go.WideShapes.add_plain]
  simp [hi]

/-- A literal of n words in a new block is the call's own. -/
theorem own_lit (W w : World) (xs : List Int) (n : Nat) (hb : Below W.heap.size W w) (hn : xs.length = n) (hm : n ≤ maxLen) :
    Own W (w.alloc (.cells (xs.map (Value.int .u32)).toArray 76)) (.slice (some ⟨w.heap.size, 0, none⟩) n n) n xs :=
  ⟨by simpa using World.ownsRow_lit (base := W.heap.size) (e := 76) (size := 1) w (xs.map (Value.int .u32)).toArray n hb.size hm (by simp [hn]), hb.alloc hb.size _⟩
end Go.Proofs.Ytfdheodkipfpeaa
/-
  Laws of no function: variables that lie in blocks of their own: what they hold, and what stays when others turn. No conditions of the program.
-/
namespace Go.Proofs.Ytfdheodkipfpeaa
open Go.RowKit

theorem below_more {a b c : World} (h : Below a.heap.size a b) (k : Below b.heap.size b c) : Below a.heap.size a c := h.trans (k.mono h.size)

/-- Block k holds just these cells, and may be written. -/
def BoxC (v : World) (k : Nat) (cs : Array Value) (T : TypeId) : Prop := v.heap[k]? = some (.cells cs T (0, 0))

theorem BoxC.new (v : World) (cs : Array Value) (T : TypeId) : BoxC (v.alloc (.cells cs T)) v.heap.size cs T := by show (v.heap.push _)[v.heap.size]? = _; simp
theorem BoxC.more {v v' : World} {k : Nat} {cs : Array Value} {T : TypeId} (h : BoxC v k cs T) (hb : Below v.heap.size v v') : BoxC v' k cs T :=
  (hb.block k (Array.getElem?_eq_some_iff.1 h).1).trans h
theorem BoxC.alloc {v : World} {k : Nat} {cs : Array Value} {T : TypeId} (h : BoxC v k cs T) (o : Obj) : BoxC (v.alloc o) k cs T := h.more ((Below.refl _ _).alloc (Nat.le_refl _) _)
theorem BoxC.drew {v : World} {k : Nat} {cs : Array Value} {T : TypeId} (h : BoxC v k cs T) : BoxC v.drew k cs T := h
theorem BoxC.lt {v : World} {k : Nat} {cs : Array Value} {T : TypeId} (h : BoxC v k cs T) : k < v.heap.size := (Array.getElem?_eq_some_iff.1 h).1
theorem BoxC.cell {v : World} {k : Nat} {cs : Array Value} {T : TypeId} (h : BoxC v k cs T) (i : Nat) : v.cell? ⟨k, i, none⟩ = cs[i]? ∧ v.frozen? ⟨k, i, none⟩ = false := by
  unfold BoxC at h
  simp [World.cell?, World.frozen?, h]
theorem BoxC.cells2 {v : World} {k : Nat} {x y : Value} {T : TypeId} (h : BoxC v k #[x, y] T) : v.cell? ⟨k, 0, none⟩ = some x ∧ v.cell? ⟨k, 1, none⟩ = some y ∧ v.frozen? ⟨k, 0, none⟩ = false ∧ v.frozen? ⟨k, 1, none⟩ = false :=
  ⟨(h.cell 0).1, (h.cell 1).1, (h.cell 0).2, (h.cell 1).2⟩
theorem BoxC.cells3 {v : World} {k : Nat} {x y z : Value} {T : TypeId} (h : BoxC v k #[x, y, z] T) : v.cell? ⟨k, 0, none⟩ = some x ∧ v.cell? ⟨k, 1, none⟩ = some y ∧ v.cell? ⟨k, 2, none⟩ = some z ∧ v.frozen? ⟨k, 0, none⟩ = false ∧ v.frozen? ⟨k, 1, none⟩ = false ∧ v.frozen? ⟨k, 2, none⟩ = false :=
  ⟨(h.cell 0).1, (h.cell 1).1, (h.cell 2).1, (h.cell 0).2, (h.cell 1).2, (h.cell 2).2⟩
/-- A store into the box. -/
theorem BoxC.set {v : World} {k : Nat} {cs : Array Value} {T : TypeId} (h : BoxC v k cs T) (i : Nat) (x : Value) : BoxC (v.setCell ⟨k, i, none⟩ x) k (cs.setIfInBounds i x) T := by
  unfold BoxC at h ⊢
  have hlt := (Array.getElem?_eq_some_iff.1 h).1
  have hv := (Array.getElem?_eq_some_iff.1 h).2
  simp only [World.setCell]
  rw [Array.getElem?_eq_getElem (by simpa using hlt), Array.getElem_modify]
  simp [hv]
/-- A store into another block. -/
theorem BoxC.other {v : World} {k : Nat} {cs : Array Value} {T : TypeId} (h : BoxC v k cs T) {g i : Nat} (hg : k ≠ g) (x : Value) : BoxC (v.setCell ⟨g, i, none⟩ x) k cs T := by
  unfold BoxC at h ⊢
  rw [Below.heap_setCell v ⟨g, i, none⟩ x k (by simpa using hg)]; exact h

theorem boxes1 (w : World) (cs : Array Value) (T : TypeId) :
    BoxC (w.alloc (.cells cs T)) w.heap.size cs T ∧ Below w.heap.size w (w.alloc (.cells cs T)) ∧ w.heap.size < (w.alloc (.cells cs T)).heap.size :=
  ⟨BoxC.new w cs T, (Below.refl _ w).alloc (Nat.le_refl _) _, by simp⟩
theorem boxes2 (w : World) (cs ds : Array Value) (T U : TypeId) :
    BoxC ((w.alloc (.cells cs T)).alloc (.cells ds U)) w.heap.size cs T ∧ BoxC ((w.alloc (.cells cs T)).alloc (.cells ds U)) (w.heap.size + 1) ds U ∧
    Below w.heap.size w ((w.alloc (.cells cs T)).alloc (.cells ds U)) ∧ w.heap.size + 1 < ((w.alloc (.cells cs T)).alloc (.cells ds U)).heap.size := by
  have b2 := BoxC.new (w.alloc (.cells cs T)) ds U
  rw [World.size_alloc] at b2
  exact ⟨(BoxC.new w cs T).alloc _, b2, ((Below.refl _ w).alloc (Nat.le_refl _) _).alloc (by simp) _, by simp⟩
theorem boxes3 (w : World) (cs ds es : Array Value) (T U X : TypeId) :
    BoxC (((w.alloc (.cells cs T)).alloc (.cells ds U)).alloc (.cells es X)) w.heap.size cs T ∧ BoxC (((w.alloc (.cells cs T)).alloc (.cells ds U)).alloc (.cells es X)) (w.heap.size + 1) ds U ∧ BoxC (((w.alloc (.cells cs T)).alloc (.cells ds U)).alloc (.cells es X)) (w.heap.size + 1 + 1) es X ∧
    Below w.heap.size w (((w.alloc (.cells cs T)).alloc (.cells ds U)).alloc (.cells es X)) ∧ w.heap.size + 1 + 1 < (((w.alloc (.cells cs T)).alloc (.cells ds U)).alloc (.cells es X)).heap.size := by
  obtain ⟨h1, h2, h3, h4⟩ := boxes2 w cs ds T U
  have b3 := BoxC.new ((w.alloc (.cells cs T)).alloc (.cells ds U)) es X
  rw [World.size_alloc, World.size_alloc] at b3
  exact ⟨h1.alloc _, h2.alloc _, b3, h3.alloc (by simp; omega) _, by simp⟩
end Go.Proofs.Ytfdheodkipfpeaa
/-
  Laws of no function: what reads as words (slices that came in, slices that a call made), how many words there are without the 0s at the end. Conditions: Go's own limits on sizes.
-/
namespace Go.Proofs.Ytfdheodkipfpeaa
open Go.RowKit

theorem wf_u32 {a : Int} (h : (Lit.int .u32 a).wf = true) : 0 ≤ a ∧ a < 4294967296 := by
  simp [Lit.wf, IntKind.min, IntKind.max, IntKind.signed, IntKind.bits] at h; omega

theorem bcell {W w1 : World} (hb : Below W.heap.size W w1) : (∀ b o, b < W.heap.size → w1.cell? ⟨b, o, none⟩ = W.cell? ⟨b, o, none⟩) ∧ (∀ b o, b < W.heap.size → w1.frozen? ⟨b, o, none⟩ = W.frozen? ⟨b, o, none⟩) :=
  ⟨fun b o h => hb.cell (p := ⟨b, o, none⟩) h, fun b o h => hb.frozen (p := ⟨b, o, none⟩) h⟩

/-- What the frame of a statement says of a slice of integers that came in. -/
def CameIn (k : IntKind) (w : World) (a : Option Addr) (len cap : Nat) (zs : List Int) : Prop :=
  (a = none ∧ len = 0 ∧ cap = 0 ∧ zs = []) ∨
  ∃ x, a = some x ∧ len ≤ cap ∧ cap ≤ maxLen ∧ zs.length = cap ∧ (∀ i, i < zs.length → w.cell? (x.add i) = some (.int k (zs.getD i 0))) ∧ ∀ n ∈ zs, (Lit.int k n).wf = true

theorem came_reads {k : IntKind} {w : World} {a : Option Addr} {len cap : Nat} {zs : List Int} (h : CameIn k w a len cap zs) :
    Reads k w a len (zs.take len) ∧ len ≤ 9223372036854775807 ∧ len ≤ cap ∧ ∀ n ∈ zs.take len, (Lit.int k n).wf = true := by
  rcases h with ⟨rfl, rfl, rfl, rfl⟩ | ⟨x, rfl, hl, hm, hz, hc, hw⟩
  · exact ⟨⟨rfl, .inl rfl⟩, by omega, by omega, by simp⟩
  · refine ⟨⟨by simp; omega, ?_⟩, by unfold maxLen at hm; omega, hl, fun n hn => hw n (List.mem_of_mem_take hn)⟩
    by_cases h0 : len = 0
    · exact .inl h0
    · obtain ⟨b, off, rfl, hc'⟩ := Go.ints_at hc (by omega)
      refine .inr ⟨b, off, rfl, fun i hi => ?_⟩
      rw [hc' i (by omega)]
      simp [List.getD_eq_getElem?_getD, hi]

theorem Reads.below {k : IntKind} {w w' : World} {a : Option Addr} {n : Nat} {zs : List Int} (h : Reads k w a n zs) (hb : Below w.heap.size w w') : Reads k w' a n zs := by
  refine ⟨h.1, h.2.imp id ?_⟩
  rintro ⟨b, off, rfl, hc⟩
  refine ⟨b, off, rfl, fun i hi => ?_⟩
  have hci := hc i hi
  rw [hb.cell (p := ⟨b, off + i, none⟩) (World.block_lt_of_cell? w _ hci)]
  exact hci

theorem IsWords.reads {w : World} {a : Option Addr} {n c : Nat} {zs : List Int} (h : IsWords w (.slice a n c) zs) : Reads .u32 w a n zs ∧ n ≤ 9223372036854775807 := by
  rcases h with ⟨e, rfl⟩ | ⟨x, cap, e, h1, h2, hc⟩
  · simp only [Value.slice.injEq] at e
    obtain ⟨rfl, rfl, rfl⟩ := e
    exact ⟨⟨rfl, .inl rfl⟩, by omega⟩
  · simp only [Value.slice.injEq] at e
    obtain ⟨rfl, rfl, rfl⟩ := e
    refine ⟨⟨rfl, ?_⟩, by unfold maxLen at h2; omega⟩
    by_cases h0 : zs.length = 0
    · exact .inl h0
    · obtain ⟨b, off, rfl, hc'⟩ := Go.ints_at hc (by omega)
      exact .inr ⟨b, off, rfl, hc'⟩

theorem came_words {w : World} {a : Option Addr} {len cap : Nat} {zs : List Int} (h : CameIn .u32 w a len cap zs) : IsWords w (.slice a len cap) (zs.take len) := by
  rcases h with ⟨rfl, rfl, rfl, rfl⟩ | ⟨x, rfl, hl, hm, hz, hc, hw⟩
  · exact .inl ⟨rfl, rfl⟩
  · have e : (zs.take len).length = len := by simp; omega
    refine .inr ⟨x, cap, by rw [e], by omega, hm, fun i hi => ?_⟩
    rw [e] at hi
    rw [hc i (by omega)]
    simp [List.getD_eq_getElem?_getD, hi]


theorem lowN_append (zs ys : List Int) : ∀ n, n ≤ zs.length → lowN (zs ++ ys) n = lowN zs n
  | 0, _ => rfl
  | n + 1, h => by
    have e : (zs ++ ys).getD n 0 = zs.getD n 0 := by
      simp [List.getD_eq_getElem?_getD, List.getElem?_append, show n < zs.length by omega]
    simp only [lowN, e, lowN_append zs ys n (by omega)]

theorem lowN_zeros (zs : List Int) (k : Nat) : ∀ j, j ≤ k → lowN (zs ++ List.replicate k 0) (zs.length + j) = lowN zs zs.length
  | 0, _ => lowN_append zs _ _ (Nat.le_refl _)
  | j + 1, h => by
    have e : (zs ++ List.replicate k (0 : Int)).getD (zs.length + j) 0 = 0 := by
      rw [List.getD_eq_getElem?_getD, List.getElem?_append_right (by omega)]
      simp [show j < k by omega]
    rw [← Nat.add_assoc, lowN_zero e, lowN_zeros zs k j (by omega)]

theorem lowN_last (zs : List Int) (x : Int) (hx : x ≠ 0) : lowN (zs ++ [x]) (zs.length + 1) = zs.length + 1 :=
  lowN_keep (by simpa [List.getD_eq_getElem?_getD] using hx)

theorem lowN_top (zs : List Int) : ∀ n, lowN zs n = 0 ∨ zs.getD (lowN zs n - 1) 0 ≠ 0
  | 0 => .inl rfl
  | n + 1 => by
    by_cases h : zs.getD n 0 = 0
    · rw [lowN_zero h]; exact lowN_top zs n
    · rw [lowN_keep h]; exact .inr (by simpa using h)

theorem lowN_again (zs : List Int) (n : Nat) : lowN zs (lowN zs n) = lowN zs n := by
  rcases lowN_top zs n with h | h
  · rw [h]; rfl
  · match hm : lowN zs n with
    | 0 => rfl
    | m + 1 => rw [hm] at h; exact lowN_keep (by simpa using h)

theorem lowN_take (zs : List Int) (k : Nat) : ∀ n, n ≤ k → lowN (zs.take k) n = lowN zs n
  | 0, _ => rfl
  | n + 1, h => by
    have e : (zs.take k).getD n 0 = zs.getD n 0 := by
      simp [List.getD_eq_getElem?_getD, show n < k by omega]
    simp only [lowN, e, lowN_take zs k n (by omega)]

end Go.Proofs.Ytfdheodkipfpeaa
/-
  Plain mathematics, of no program: lists of 32-bit words as numbers; the one list of a number; how many bits; what adding, taking away and holding against each other do to them. Conditions: each word is in its range.
-/
namespace Go.Proofs.Ytfdheodkipfpeaa

/-- The number of a list of words, the lowest one first. -/
def val : List Int → Nat
  | [] => 0
  | z :: zs => z.toNat + 4294967296 * val zs

/-- Each is a word. -/
def Wd (zs : List Int) : Prop := ∀ z ∈ zs, 0 ≤ z ∧ z < 4294967296

/-- The list of a number, without a 0 at its end. -/
def natOf (n : Nat) : List Int := if h : n = 0 then [] else ((n % 4294967296 : Nat) : Int) :: natOf (n / 4294967296)

/-- How many words a number has. -/
def nl (n : Nat) : Nat := (natOf n).length

/-- How many bits a number has. -/
def nbits (n : Nat) : Nat := if h : n = 0 then 0 else 1 + nbits (n / 2)

theorem natOf_zero : natOf 0 = [] := by rw [natOf]; simp
theorem natOf_pos {n : Nat} (h : n ≠ 0) : natOf n = ((n % 4294967296 : Nat) : Int) :: natOf (n / 4294967296) := by rw [natOf]; simp [h]

theorem val_natOf (n : Nat) : val (natOf n) = n := by
  induction n using Nat.strongRecOn with
  | _ n ih =>
    by_cases h : n = 0
    · rw [h, natOf_zero]; rfl
    · rw [natOf_pos h, val, ih (n / 4294967296) (by omega)]; omega

theorem wd_nil : Wd [] := by intro z hz; simp at hz
theorem wd_cons {z : Int} {zs : List Int} (h : Wd (z :: zs)) : 0 ≤ z ∧ z < 4294967296 ∧ Wd zs :=
  ⟨(h z (by simp)).1, (h z (by simp)).2, fun y hy => h y (by simp [hy])⟩
theorem wd_cons' {z : Int} {zs : List Int} (h0 : 0 ≤ z) (h1 : z < 4294967296) (h : Wd zs) : Wd (z :: zs) := by
  intro y hy
  rcases List.mem_cons.1 hy with rfl | hy
  · exact ⟨h0, h1⟩
  · exact h y hy
theorem wd_append {a b : List Int} (ha : Wd a) (hb : Wd b) : Wd (a ++ b) := by
  intro z hz
  rcases List.mem_append.1 hz with h | h
  · exact ha z h
  · exact hb z h
theorem wd_take {a : List Int} (ha : Wd a) (k : Nat) : Wd (a.take k) := fun z hz => ha z (List.mem_of_mem_take hz)
theorem wd_drop {a : List Int} (ha : Wd a) (k : Nat) : Wd (a.drop k) := fun z hz => ha z (List.mem_of_mem_drop hz)
theorem wd_zeros (k : Nat) : Wd (List.replicate k 0) := fun z hz => by rw [List.eq_of_mem_replicate hz]; omega
theorem wd_set {a : List Int} (ha : Wd a) (k : Nat) {y : Int} (h0 : 0 ≤ y) (h1 : y < 4294967296) : Wd (a.set k y) := by
  intro z hz
  rcases List.mem_or_eq_of_mem_set hz with h | rfl
  · exact ha z h
  · exact ⟨h0, h1⟩
theorem wd_one {z : Int} (h0 : 0 ≤ z) (h1 : z < 4294967296) : Wd [z] := wd_cons' h0 h1 wd_nil
theorem wd_getD {a : List Int} (ha : Wd a) (k : Nat) : 0 ≤ a.getD k 0 ∧ a.getD k 0 < 4294967296 := by
  by_cases h : k < a.length
  · have : a.getD k 0 = a[k] := by simp [List.getD_eq_getElem?_getD, h]
    rw [this]; exact ha _ (List.getElem_mem h)
  · have : a.getD k 0 = 0 := by simp [List.getD_eq_getElem?_getD, List.getElem?_eq_none (Nat.le_of_not_lt h)]
    rw [this]; omega
theorem wd_natOf (n : Nat) : Wd (natOf n) := by
  induction n using Nat.strongRecOn with
  | _ n ih =>
    by_cases h : n = 0
    · rw [h, natOf_zero]; exact wd_nil
    · rw [natOf_pos h]; exact wd_cons' (by omega) (by omega) (ih _ (by omega))

theorem lowN_cons (z : Int) (zs : List Int) : ∀ n, lowN (z :: zs) (n + 1) = if lowN zs n = 0 then (if z = 0 then 0 else 1) else lowN zs n + 1
  | 0 => by simp [lowN]
  | n + 1 => by
    have ih := lowN_cons z zs n
    have e : (z :: zs).getD (n + 1) 0 = zs.getD n 0 := by simp [List.getD_eq_getElem?_getD]
    by_cases h : zs.getD n 0 = 0
    · rw [lowN_zero (n := n + 1) (by rw [e]; exact h), lowN_zero h, ih]
    · rw [lowN_keep (n := n + 1) (by rw [e]; exact h), lowN_keep h]; simp

theorem natOf_val (zs : List Int) (h : Wd zs) : natOf (val zs) = zs.take (lowN zs zs.length) := by
  induction zs with
  | nil => simp [val, natOf_zero]
  | cons z zs ih =>
    obtain ⟨h0, h1, hz⟩ := wd_cons h
    have e := ih hz
    have hle := lowN_le zs zs.length
    rw [List.length_cons, lowN_cons]
    by_cases hl : lowN zs zs.length = 0
    · have hv : val zs = 0 := by rw [← val_natOf (val zs), e, hl]; rfl
      rw [if_pos hl]
      by_cases hz0 : z = 0
      · rw [if_pos hz0]; simp [val, hv, hz0, natOf_zero]
      · rw [if_neg hz0]
        have hn : z.toNat ≠ 0 := by omega
        have e1 : val (z :: zs) = z.toNat := by simp [val, hv]
        rw [e1, natOf_pos hn, show z.toNat / 4294967296 = 0 by omega, natOf_zero]
        simp; omega
    · have hv : val zs ≠ 0 := by
        intro hv
        rw [hv, natOf_zero] at e
        have := congrArg List.length e
        simp [List.length_take] at this
        omega
      rw [if_neg hl]
      have hn : val (z :: zs) ≠ 0 := by simp only [val]; omega
      rw [natOf_pos hn, List.take_succ_cons]
      have e1 : val (z :: zs) % 4294967296 = z.toNat := by simp only [val]; omega
      have e2 : val (z :: zs) / 4294967296 = val zs := by simp only [val]; omega
      rw [e1, e2, e]
      congr 1; omega

theorem nl_val (zs : List Int) (h : Wd zs) : nl (val zs) = lowN zs zs.length := by
  unfold nl; rw [natOf_val zs h, List.length_take]; have := lowN_le zs zs.length; omega
theorem nl_val_le (zs : List Int) (h : Wd zs) : nl (val zs) ≤ zs.length := by rw [nl_val zs h]; exact lowN_le _ _
theorem val_take_low (zs : List Int) (h : Wd zs) : val (zs.take (lowN zs zs.length)) = val zs := by rw [← natOf_val zs h, val_natOf]
theorem natOf_take (zs : List Int) (h : Wd zs) : natOf (val zs) = zs.take (nl (val zs)) := by rw [nl_val zs h]; exact natOf_val zs h

theorem val_lt (zs : List Int) (h : Wd zs) : val zs < 4294967296 ^ zs.length := by
  induction zs with
  | nil => simp [val]
  | cons z zs ih =>
    obtain ⟨h0, h1, hz⟩ := wd_cons h
    have := ih hz
    rw [List.length_cons, Nat.pow_succ, val]
    generalize 4294967296 ^ zs.length = p at this
    omega

theorem nl_zero : nl 0 = 0 := by unfold nl; rw [natOf_zero]; rfl
theorem nl_le : ∀ (k n : Nat), n < 4294967296 ^ k → nl n ≤ k
  | 0, n, h => by rw [Nat.pow_zero] at h; rw [show n = 0 by omega, nl_zero]; omega
  | k + 1, n, h => by
    by_cases h0 : n = 0
    · rw [h0, nl_zero]; omega
    · unfold nl
      rw [natOf_pos h0, List.length_cons]
      have : nl (n / 4294967296) ≤ k := nl_le k _ (by rw [Nat.pow_succ] at h; generalize 4294967296 ^ k = p at h ⊢; omega)
      unfold nl at this; omega
theorem lt_nl (n : Nat) : n < 4294967296 ^ nl n := by
  have := val_lt (natOf n) (wd_natOf n)
  rw [val_natOf] at this; exact this
theorem nl_mono {a b : Nat} (h : a ≤ b) : nl a ≤ nl b := nl_le _ _ (Nat.lt_of_le_of_lt h (lt_nl b))
theorem nl_add (a b : Nat) : nl (a + b) ≤ max (nl a) (nl b) + 1 := by
  refine nl_le _ _ ?_
  have h1 : a < 4294967296 ^ max (nl a) (nl b) := Nat.lt_of_lt_of_le (lt_nl a) (Nat.pow_le_pow_right (by omega) (Nat.le_max_left _ _))
  have h2 : b < 4294967296 ^ max (nl a) (nl b) := Nat.lt_of_lt_of_le (lt_nl b) (Nat.pow_le_pow_right (by omega) (Nat.le_max_right _ _))
  rw [Nat.pow_succ]
  generalize 4294967296 ^ max (nl a) (nl b) = p at h1 h2 ⊢
  omega
theorem lt_of_nl {a b : Nat} (h : nl a < nl b) : a < b := by
  rcases Nat.lt_or_ge a b with h1 | h1
  · exact h1
  · have := nl_mono h1; omega

theorem nl_big (n : Nat) (h : 18446744073709551616 ≤ n) : 2 < nl n := by
  rcases Nat.lt_or_ge 2 (nl n) with h1 | h1
  · exact h1
  · have := lt_nl n
    have : 4294967296 ^ nl n ≤ 4294967296 ^ 2 := Nat.pow_le_pow_right (by omega) h1
    omega

theorem val_append (a b : List Int) : val (a ++ b) = val a + 4294967296 ^ a.length * val b := by
  induction a with
  | nil => simp [val]
  | cons z a ih =>
    rw [List.cons_append, val, val, ih, List.length_cons, Nat.pow_succ, Nat.mul_comm (4294967296 ^ a.length) 4294967296, Nat.mul_assoc, Nat.mul_add]
    omega
theorem val_snoc (a : List Int) (z : Int) : val (a ++ [z]) = val a + z.toNat * 4294967296 ^ a.length := by
  rw [val_append]; simp [val, Nat.mul_comm]
theorem val_zeros (k : Nat) : val (List.replicate k 0) = 0 := by
  induction k with
  | zero => rfl
  | succ k ih => rw [List.replicate_succ, val, ih]; rfl
theorem val_append_zeros (a : List Int) (k : Nat) : val (a ++ List.replicate k 0) = val a := by rw [val_append, val_zeros]; simp
theorem val_split (a : List Int) (m : Nat) : val a = val (a.take m) + 4294967296 ^ m * val (a.drop m) := by
  by_cases h : m ≤ a.length
  · have := val_append (a.take m) (a.drop m)
    rw [List.take_append_drop, List.length_take, Nat.min_eq_left h] at this
    exact this
  · rw [List.take_of_length_le (by omega), List.drop_eq_nil_of_le (by omega)]; simp [val]
theorem val_drop (a : List Int) (m : Nat) : val (a.drop m) = (a.getD m 0).toNat + 4294967296 * val (a.drop (m + 1)) := by
  by_cases h : m < a.length
  · rw [List.drop_eq_getElem_cons h, val]; simp [List.getD_eq_getElem?_getD, h]
  · rw [List.drop_eq_nil_of_le (by omega), List.drop_eq_nil_of_le (by omega)]
    simp [val, List.getD_eq_getElem?_getD, List.getElem?_eq_none (Nat.le_of_not_lt h)]
theorem val_take_succ (a : List Int) (k : Nat) : val (a.take (k + 1)) = val (a.take k) + (a.getD k 0).toNat * 4294967296 ^ k := by
  by_cases h : k < a.length
  · rw [List.take_succ_eq_append_getElem h, val_snoc, List.length_take, Nat.min_eq_left (by omega)]
    simp [List.getD_eq_getElem?_getD, h]
  · rw [List.take_of_length_le (by omega), List.take_of_length_le (by omega)]
    simp [List.getD_eq_getElem?_getD, List.getElem?_eq_none (Nat.le_of_not_lt h)]
theorem val_set : ∀ (a : List Int) (k : Nat) (y : Int), k < a.length → val (a.set k y) + (a.getD k 0).toNat * 4294967296 ^ k = val a + y.toNat * 4294967296 ^ k
  | [], k, y, h => by simp at h
  | z :: a, 0, y, h => by simp [val]; omega
  | z :: a, k + 1, y, h => by
    have ih := val_set a k y (by simpa using h)
    have e : (z :: a).getD (k + 1) 0 = a.getD k 0 := by simp [List.getD_eq_getElem?_getD]
    rw [List.set_cons_succ, val, val, e, Nat.pow_succ, ← Nat.mul_assoc, ← Nat.mul_assoc]
    generalize (a.getD k 0).toNat * 4294967296 ^ k = p at ih ⊢
    generalize y.toNat * 4294967296 ^ k = q at ih ⊢
    omega
theorem val_take_lt (a : List Int) (h : Wd a) (m : Nat) : val (a.take m) < 4294967296 ^ m := by
  have h1 := val_lt (a.take m) (wd_take h m)
  exact Nat.lt_of_lt_of_le h1 (Nat.pow_le_pow_right (by omega) (by rw [List.length_take]; omega))
theorem val_take_all (a : List Int) (m : Nat) (hm : val a < 4294967296 ^ m) : val (a.take m) = val a := by
  have h1 := val_split a m
  have : val (a.drop m) = 0 := by
    rcases Nat.eq_zero_or_pos (val (a.drop m)) with h | h
    · exact h
    · have := Nat.mul_le_mul_left (4294967296 ^ m) h
      omega
  rw [this] at h1; omega
theorem val_take_le (a : List Int) (m : Nat) : val (a.take m) ≤ val a := by
  have h1 := val_split a m; omega

/-- Where the higher words are one, a lower word decides. -/
theorem val_decides (a b : List Int) (ha : Wd a) (m : Nat) (hd : val (a.drop (m + 1)) = val (b.drop (m + 1))) (hm : a.getD m 0 < b.getD m 0) : val a < val b := by
  have h1 := val_split a m
  have h2 := val_split b m
  have h3 := val_take_lt a ha m
  have h4 := (wd_getD ha m).1
  rw [val_drop, hd] at h1
  rw [val_drop b m] at h2
  have h5 : (a.getD m 0).toNat + 4294967296 * val (b.drop (m + 1)) + 1 ≤ (b.getD m 0).toNat + 4294967296 * val (b.drop (m + 1)) := by omega
  have h6 := Nat.mul_le_mul_left (4294967296 ^ m) h5
  rw [Nat.mul_add, Nat.mul_one] at h6
  omega

/-- One word's step of a sum. -/
theorem add_step {p : Nat} {S S' A B x y b c c' : Nat} (hs : S' + x * p = S + y * p) (hi : S + c * p = A + B) (hy : y + 4294967296 * c' = x + b + c) :
    S' + c' * (p * 4294967296) = A + (B + b * p) := by
  have e : (y + 4294967296 * c') * p = (x + b + c) * p := by rw [hy]
  rw [Nat.add_mul, Nat.add_mul, Nat.add_mul] at e
  have e2 : c' * (p * 4294967296) = 4294967296 * c' * p := by rw [Nat.mul_comm p, ← Nat.mul_assoc, Nat.mul_comm c']
  rw [e2]; omega
/-- One word's step of a difference. -/
theorem sub_step {p : Nat} {S S' A B x y b c c' : Nat} (hs : S' + x * p = S + y * p) (hi : S + B = A + c * p) (hy : y + b + c = x + 4294967296 * c') :
    S' + (B + b * p) = A + c' * (p * 4294967296) := by
  have e : (y + b + c) * p = (x + 4294967296 * c') * p := by rw [hy]
  rw [Nat.add_mul, Nat.add_mul, Nat.add_mul] at e
  have e2 : c' * (p * 4294967296) = 4294967296 * c' * p := by rw [Nat.mul_comm p, ← Nat.mul_assoc, Nat.mul_comm c']
  rw [e2]; omega

theorem natOf_inj {a b : Nat} (h : natOf a = natOf b) : a = b := by rw [← val_natOf a, h, val_natOf]

theorem nbits_zero : nbits 0 = 0 := by rw [nbits]; simp
theorem nbits_pos {n : Nat} (h : n ≠ 0) : nbits n = 1 + nbits (n / 2) := by rw [nbits]; simp [h]
theorem nbits_shift : ∀ (k x : Nat), 2 ^ k ≤ x → nbits x = k + nbits (x / 2 ^ k)
  | 0, x, _ => by simp
  | k + 1, x, h => by
    rw [Nat.pow_succ] at h
    have h2 : 2 ^ k ≤ x / 2 := by generalize 2 ^ k = p at h ⊢; omega
    have hp : 0 < 2 ^ k := Nat.pow_pos (by omega)
    rw [nbits_pos (by omega), nbits_shift k (x / 2) h2, Nat.div_div_eq_div_mul, Nat.pow_succ, Nat.mul_comm 2]
    omega
theorem nbits_bitLen (x : Nat) (h : x < 18446744073709551616) : Lib.bitLen x = nbits x := by
  induction x using Nat.strongRecOn with
  | _ x ih =>
    by_cases h0 : x = 0
    · rw [h0, nbits_zero]; rfl
    · rw [nbits_pos h0, Lib.bitLen_half x h0 h, ih (x / 2) (by omega) (by omega)]
theorem lt_nbits (n : Nat) : n < 2 ^ nbits n := by
  induction n using Nat.strongRecOn with
  | _ n ih =>
    by_cases h0 : n = 0
    · rw [h0]; exact Nat.pow_pos (by omega)
    · have := ih (n / 2) (by omega)
      rw [nbits_pos h0, Nat.pow_add]
      generalize 2 ^ nbits (n / 2) = p at this
      omega
theorem nbits_le : ∀ (k n : Nat), n < 2 ^ k → nbits n ≤ k
  | 0, n, h => by rw [Nat.pow_zero] at h; rw [show n = 0 by omega, nbits_zero]; omega
  | k + 1, n, h => by
    by_cases h0 : n = 0
    · rw [h0, nbits_zero]; omega
    · rw [nbits_pos h0]
      have := nbits_le k (n / 2) (by rw [Nat.pow_succ] at h; generalize 2 ^ k = p at h ⊢; omega)
      omega
theorem pow_word (k : Nat) : 4294967296 ^ k = 2 ^ (32 * k) := by rw [Nat.pow_mul]

/-- The bits of a list whose highest word isn't 0. -/
theorem nbits_top (zs : List Int) (h : Wd zs) (k : Nat) (hk : lowN zs zs.length = k + 1) : nbits (val zs) = 32 * k + nbits (zs.getD k 0).toNat := by
  have hl := lowN_le zs zs.length
  have h0 : val zs = val (zs.take (k + 1)) := by rw [← hk, val_take_low zs h]
  have h1 := val_take_succ zs k
  have h2 := val_take_lt zs h k
  have h3 : zs.getD k 0 ≠ 0 := by
    rcases lowN_top zs zs.length with h | h
    · omega
    · rw [hk] at h; simpa using h
  have h4 := (wd_getD h k).1
  have hp : 0 < 4294967296 ^ k := Nat.pow_pos (by omega)
  have h5 : 1 * 4294967296 ^ k ≤ (zs.getD k 0).toNat * 4294967296 ^ k := Nat.mul_le_mul_right _ (by omega)
  have e : val zs / 4294967296 ^ k = (zs.getD k 0).toNat := by
    rw [h0, h1, Nat.add_mul_div_right _ _ hp, Nat.div_eq_of_lt h2]; omega
  rw [nbits_shift (32 * k) (val zs) (by rw [← pow_word]; omega), ← pow_word, e]
theorem nl_pos {A : Nat} (h : 0 < A) : 0 < nl A := by
  rcases Nat.eq_zero_or_pos (nl A) with h0 | h0
  · have := lt_nl A; rw [h0] at this; omega
  · exact h0
end Go.Proofs.Ytfdheodkipfpeaa
/-
  Contracts of package nat's functions right, word, Right and of the standard library's Compare, for every list of words: what each answers; memory stays.
-/
namespace Go.Proofs.Ytfdheodkipfpeaa
open Go.RowKit

theorem IsWords.len {w : World} {a : Option Addr} {n c : Nat} {zs : List Int} (h : IsWords w (.slice a n c) zs) : zs.length = n := h.reads.1.1
theorem IsWords.cap {w : World} {a : Option Addr} {n c : Nat} {zs : List Int} (h : IsWords w (.slice a n c) zs) : n ≤ c ∧ c ≤ 9223372036854775807 := by
  rcases h with ⟨e, rfl⟩ | ⟨x, cap, e, h1, h2, -⟩
  · simp only [Value.slice.injEq] at e; omega
  · simp only [Value.slice.injEq] at e; unfold maxLen at h2; omega

theorem IsWords.take {w : World} {a : Option Addr} {n c : Nat} {zs : List Int} (h : IsWords w (.slice a n c) zs) (k : Nat) (hk : k ≤ n) : IsWords w (.slice a k c) (zs.take k) := by
  have hl := h.len
  rcases h with ⟨e, rfl⟩ | ⟨x, cap, e, h1, h2, hc⟩
  · simp only [Value.slice.injEq] at e
    obtain ⟨rfl, rfl, rfl⟩ := e
    obtain rfl : k = 0 := by omega
    exact .inl ⟨rfl, rfl⟩
  · simp only [Value.slice.injEq] at e
    obtain ⟨rfl, rfl, rfl⟩ := e
    have e2 : (zs.take k).length = k := by rw [List.length_take]; omega
    refine .inr ⟨x, c, by rw [e2], by omega, h2, fun i hi => ?_⟩
    rw [e2] at hi
    rw [hc i (by omega)]
    simp [List.getD_eq_getElem?_getD, hi]

theorem Own.take {W w : World} {a : Option Addr} {n c : Nat} {xs : List Int} (h : Own W w (.slice a n c) n xs) (k : Nat) (hk : k ≤ n) : Own W w (.slice a k c) k (xs.take k) := by
  have hl := h.length
  refine ⟨⟨?_, ?_⟩, h.2⟩
  · simp [List.length_take]; omega
  · rcases h.1.2 with ⟨e, rfl⟩ | ⟨g, cap, cur, e, hb, hg, hnc, hcm, hcs, ht⟩
    · simp only [Value.slice.injEq] at e
      obtain ⟨rfl, -, rfl⟩ := e
      obtain rfl : k = 0 := by omega
      exact .inl ⟨rfl, rfl⟩
    · simp only [Value.slice.injEq] at e
      obtain ⟨rfl, -, rfl⟩ := e
      refine .inr ⟨g, c, cur, rfl, hb, hg, by omega, hcm, hcs, ?_⟩
      rw [Nat.mul_one] at ht ⊢
      rw [List.map_take, ← ht, List.take_take, Nat.min_eq_left hk]

theorem ret_bool {a b : Bool} (h : a = b) : Ending.returned (.bool a) = .returned (.bool b) := by rw [h]


/-- -1, 0 or 1. -/
def sgn (a b : Int) : Int := if a < b then -1 else if b < a then 1 else 0
theorem sgn_lt {a b : Int} (h : a < b) : sgn a b = -1 := by unfold sgn; rw [if_pos h]
theorem sgn_gt {a b : Int} (h : b < a) : sgn a b = 1 := by unfold sgn; rw [if_neg (by omega), if_pos h]
theorem sgn_eq {a b : Int} (h : a = b) : sgn a b = 0 := by unfold sgn; rw [if_neg (by omega), if_neg (by omega)]
theorem sgn_bd (a b : Int) : -1 ≤ sgn a b ∧ sgn a b ≤ 1 := by unfold sgn; split <;> (try split) <;> omega

end Go.Proofs.Ytfdheodkipfpeaa
/-
  Laws of no function, over slices of 32-bit words that a call owns: make, copy, a store into one word; what a callee's growth leaves. Conditions: Go's own limits on sizes.
-/
namespace Go.Proofs.Ytfdheodkipfpeaa
open Go.RowKit

/-- What a call owns stays while a callee makes memory. -/
theorem Own.more {W w w' : World} {v : Value} {n : Nat} {xs : List Int} (h : Own W w v n xs) (hb : Below w.heap.size w w') : Own W w' v n xs := by
  refine ⟨⟨h.1.1, ?_⟩, h.2.trans (hb.mono h.2.size)⟩
  rcases h.1.2 with h0 | ⟨g, cap, cur, e, h1, hg, h2⟩
  · exact .inl h0
  · refine .inr ⟨g, cap, cur, e, h1, ?_, h2⟩
    rw [hb.block g (Array.getElem?_eq_some_iff.1 hg).1]; exact hg

/-- What a callee made, its caller owns. -/
theorem Own.outer {V W w : World} {v : Value} {n : Nat} {xs : List Int} (h : Own W w v n xs) (hb : Below V.heap.size V W) : Own V w v n xs := by
  refine ⟨⟨h.1.1, ?_⟩, below_more hb h.2⟩
  rcases h.1.2 with h0 | ⟨g, cap, cur, e, h1, h2⟩
  · exact .inl h0
  · exact .inr ⟨g, cap, cur, e, Nat.le_trans hb.size h1, h2⟩

theorem Own.nil {W w : World} (h : Below W.heap.size W w) : Own W w (.slice none 0 0) 0 [] := ⟨World.ownsRow_nil _ _ _ _, h⟩

/-- A word of what the call owns: it reads so, and may be written. -/
theorem Own.cell {W w : World} {g n c : Nat} {xs : List Int} (h : Own W w (.slice (some ⟨g, 0, none⟩) n c) n xs) (k : Nat) (hk : k < n) :
    w.cell? ⟨g, k, none⟩ = some (.int .u32 (xs.getD k 0)) ∧ w.frozen? ⟨g, k, none⟩ = false ∧ W.heap.size ≤ g ∧ g < w.heap.size := by
  have hl := h.length
  rcases h.1.2 with ⟨e, -⟩ | ⟨g', cap, cur, e, h1, hg, h2, h3, h4, h5⟩
  · simp at e
  · simp only [Value.slice.injEq, Option.some.injEq, Addr.mk.injEq] at e
    obtain ⟨⟨rfl, -⟩, -, rfl⟩ := e
    have hc := h.1.cells (g := g) rfl k (.int .u32 (xs.getD k 0)) (by simp [List.getD_eq_getElem?_getD, show k < xs.length by omega])
    rw [Go.WideShapes.add_plain, Nat.zero_add] at hc
    refine ⟨hc, ?_, h1, (Array.getElem?_eq_some_iff.1 hg).1⟩
    simp [World.frozen?, hg]

/-- What the call owns is at some block's beginning, where it has a word. -/
theorem Own.at0 {W w : World} {a : Option Addr} {n c : Nat} {xs : List Int} (h : Own W w (.slice a n c) n xs) (hn : 0 < n) : ∃ g, a = some ⟨g, 0, none⟩ := by
  rcases h.1.2 with ⟨e, -⟩ | ⟨g, cap, cur, e, -⟩
  · simp only [Value.slice.injEq] at e; omega
  · simp only [Value.slice.injEq] at e; exact ⟨g, e.1⟩

/-- One word is written. -/
theorem Own.set {W w : World} {g n c : Nat} {xs : List Int} (h : Own W w (.slice (some ⟨g, 0, none⟩) n c) n xs) (k : Nat) (y : Int) :
    Own W (w.setCell ⟨g, k, none⟩ (.int .u32 y)) (.slice (some ⟨g, 0, none⟩) n c) n (xs.set k y) := by
  have hl := h.length
  rcases h.1.2 with ⟨e, -⟩ | ⟨g', cap, cur, e, h1, hg, h2, h3, h4, h5⟩
  · simp at e
  · simp only [Value.slice.injEq, Option.some.injEq, Addr.mk.injEq] at e
    obtain ⟨⟨rfl, -⟩, -, rfl⟩ := e
    refine ⟨⟨by simp; omega, .inr ⟨g, c, cur.setIfInBounds k (.int .u32 y), rfl, h1, ?_, h2, h3, by simpa using h4, ?_⟩⟩, h.2.setCell h1 _⟩
    · have hlt := (Array.getElem?_eq_some_iff.1 hg).1
      have hv := (Array.getElem?_eq_some_iff.1 hg).2
      simp only [World.setCell]
      rw [Array.getElem?_eq_getElem (by simpa using hlt), Array.getElem_modify]
      simp [hv]
    · rw [Array.toList_setIfInBounds, List.take_set, h5, List.map_set]

end Go.Proofs.Ytfdheodkipfpeaa
/-
  Laws of no function: lists of words that a call made, in blocks above its variables'. No conditions of the program.
-/
namespace Go.Proofs.Ytfdheodkipfpeaa
open Go.RowKit

/-- As Own, in blocks from B on alone. -/
def OwnA (W : World) (B : Nat) (w : World) (v : Value) (n : Nat) (xs : List Int) : Prop := w.ownsRow B 76 1 v n (xs.map (Value.int .u32)) ∧ Below W.heap.size W w
theorem Own.above {W V w : World} {v : Value} {n : Nat} {xs : List Int} (h : Own V w v n xs) (hb : Below W.heap.size W V) : OwnA W V.heap.size w v n xs := ⟨h.1, below_more hb h.2⟩
/-- A store into a block below those. -/
theorem OwnA.set {W w : World} {B : Nat} {v : Value} {n : Nat} {xs : List Int} (h : OwnA W B w v n xs) {k : Nat} (h1 : W.heap.size ≤ k) (h2 : k < B) (i : Nat) (x : Value) : OwnA W B (w.setCell ⟨k, i, none⟩ x) v n xs := by
  refine ⟨⟨h.1.1, ?_⟩, h.2.setCell h1 _⟩
  rcases h.1.2 with h0 | ⟨g, cap, cur, e, h3, hg, h4⟩
  · exact .inl h0
  · refine .inr ⟨g, cap, cur, e, h3, ?_, h4⟩
    rw [Below.heap_setCell w ⟨k, i, none⟩ x g (by simp; omega)]; exact hg
theorem OwnA.drew {W w : World} {B : Nat} {v : Value} {n : Nat} {xs : List Int} (h : OwnA W B w v n xs) : OwnA W B w.drew v n xs := ⟨h.1, h.2.drew⟩
theorem OwnA.own {W w : World} {B : Nat} {v : Value} {n : Nat} {xs : List Int} (h : OwnA W B w v n xs) (hB : W.heap.size ≤ B) : Own W w v n xs := by
  refine ⟨⟨h.1.1, ?_⟩, h.2⟩
  rcases h.1.2 with h0 | ⟨g, cap, cur, e, h1, h2⟩
  · exact .inl h0
  · exact .inr ⟨g, cap, cur, e, Nat.le_trans hB h1, h2⟩
end Go.Proofs.Ytfdheodkipfpeaa
/-
  Contracts of the document's own answers of layer 9 (package talwegref09: Name, Place), at every text of up to a million bytes: memory that was there stays.
-/
namespace Go.Proofs.Ytfdheodkipfpeaa
open Go.RowKit Go.Lib

theorem nameF_step {s : ByteArray} {i : Nat} (h : i < s.size) : nameF s (s.size + 1) i = if (kindI (nextR s i) ≠ 1 ∧ kindI (nextR s i) ≠ 2) ∨ (kindI (nextR s i) = 2 ∧ i = 0) then false else nameF s (s.size + 1) (i + nextN s i) := by
  have hn := next_size h
  show (if i < s.size then _ else _) = _
  rw [if_pos h, nameF_more s s.size (i + nextN s i) (by omega) (s.size + 1) (by omega)]
theorem nameF_end {s : ByteArray} {i : Nat} (h : ¬ i < s.size) : nameF s (s.size + 1) i = true := by
  show (if i < s.size then _ else _) = _
  rw [if_neg h]

end Go.Proofs.Ytfdheodkipfpeaa
/-
  Contract of the document's own Place (package talwegref09), at every text of up to a million bytes and every number: memory that was there stays.
-/
namespace Go.Proofs.Ytfdheodkipfpeaa
open Go.RowKit Go.Lib

theorem placeF_step {s : ByteArray} {at_ : Int} {i : Nat} {l c : Int} (h : i < s.size) : placeF s at_ (s.size + 1) i l c = if at_ < i + nextN s i then (l, c) else placeF s at_ (s.size + 1) (i + nextN s i) (if nextR s i = 10 then l + 1 else l) (if nextR s i = 10 then 1 else c + 1) := by
  have hn := next_size h
  show (if i < s.size then _ else _) = _
  rw [if_pos h, placeF_more s at_ s.size (i + nextN s i) _ _ (by omega) (s.size + 1) (by omega)]
theorem placeF_end {s : ByteArray} {at_ : Int} {i : Nat} {l c : Int} (h : ¬ i < s.size) : placeF s at_ (s.size + 1) i l c = (l, c) := by
  show (if i < s.size then _ else _) = _
  rw [if_neg h]

/-- The answer is this place. -/
def AnsL (W : World) (p : Int × Int) (e : Ending) (w' : World) : Prop := e = .returned (.agg #[.int .i64 p.1, .int .i64 p.2]) ∧ Below W.heap.size W w'

set_option maxHeartbeats 8000000 in
theorem ref_splace {s : ByteArray} (hs : s.size ≤ 1000000) (j : Int) (w : World) :
    Calls Try.prog 19 #[.string s, .int .i64 j] w (AnsL w (placeI s j)) := by
  have NX := fun i (h : i < s.size) v => ref_snext hs i h v
  obtain ⟨B4, B5, bV, hb⟩ := boxes2 w #[.int .i64 0, .int .i64 0] #[.int .i64 1, .int .i64 1] 25 25
  have HS : Hid (s.size ≤ 1000000) := hs
  clear hs
  generalize hp : placeI s j = P
  have HP : Hid (placeF s j (s.size + 1) 0 1 1 = P) := hp
  clear hp
  go_enter Try.func19, Try.ntmps19
  go_wp2
  generalize (w.alloc (.cells #[.int .i64 0, .int .i64 0] 25)).alloc (.cells #[.int .i64 1, .int .i64 1] 25) = V at *
  go_loopg [6] s.size (fun g s6 v => ∃ (i : Nat) (l c : Int), s6 = .int .i64 i ∧ i + g = s.size ∧ 1 ≤ l ∧ l ≤ i + 1 ∧ 1 ≤ c ∧ c ≤ i + 1 ∧ placeF s j (s.size + 1) i l c = P ∧ BoxC v (w.heap.size + 1) #[.int .i64 l, .int .i64 c] 25 ∧ BoxC v w.heap.size #[.int .i64 0, .int .i64 0] 25 ∧ Below w.heap.size w v)
  case atStart => exact ⟨0, 1, 1, rfl, by omega, by omega, by omega, by omega, by omega, HP.out, B5, B4, bV⟩
  case round =>
    obtain ⟨i, l, c, rfl, hg, hl1, hl2, hc1, hc2, hF, B5, B4, bv⟩ := hrel
    clear HP
    have HF : Hid (placeF s j (s.size + 1) i l c = P) := hF
    clear hF
    obtain ⟨x0, x1, x2, x3⟩ := B5.cells2
    obtain ⟨y0, y1, y2, y3⟩ := B4.cells2
    rcases Nat.lt_or_ge i s.size with hi | hi
    · have hi' : (i : Int) < s.size := by omega
      have N1 := fun v => NX i hi v
      have hz := next_size hi
      have hS := HS.out
      have hT := placeF_step (at_ := j) (l := l) (c := c) hi
      rw [HF.out] at hT
      have hw : wrap64 ((i : Int) + nextN s i) = (i : Int) + nextN s i := by unfold wrap64; omega
      have wl : wrap64 (l + 1) = l + 1 := by unfold wrap64; omega
      have wc : wrap64 (c + 1) = c + 1 := by unfold wrap64; omega
      have HZ : Hid (1 ≤ nextN s i ∧ i + nextN s i ≤ s.size) := ⟨hz.1, hz.2.2⟩
      have HG : Hid (i + gk = s.size ∧ 1 ≤ l ∧ l ≤ i + 1 ∧ 1 ≤ c ∧ c ≤ i + 1) := ⟨hg, hl1, hl2, hc1, hc2⟩
      have HB : Hid (BoxC wr (w.heap.size + 1) #[.int .i64 l, .int .i64 c] 25 ∧ BoxC wr w.heap.size #[.int .i64 0, .int .i64 0] 25) := ⟨B5, B4⟩
      clear hg hl1 hl2 hc1 hc2 hS hz NX HF B5 B4
      generalize nextR s i = R at *
      generalize nextN s i = M at *
      by_cases hj : j < (i : Int) + M
      · rw [if_pos hj] at hT
        subst hT
        go_wp2_with (go_at_call 35; (with_reducible refine Calls.mono (N1 _) ?_); rintro e v1 ⟨rfl, rfl⟩)
        exact bodyPost_ret (v := .agg #[.int .i64 l, .int .i64 c]) (by simp [results, Try.results19, go_sem, y0, y1]) rfl ⟨rfl, (bv.setCell (p := ⟨w.heap.size, 0, none⟩) (Nat.le_refl _) _).setCell (p := ⟨w.heap.size, 1, none⟩) (Nat.le_refl _) _⟩
      · rw [if_neg hj] at hT
        have HT : Hid (P = placeF s j (s.size + 1) (i + M) (if R = 10 then l + 1 else l) (if R = 10 then 1 else c + 1)) := hT
        clear hT
        by_cases h10 : R = 10
        · have e10 : (R == 10) = true := by rw [beq_iff_eq]; exact h10
          have HT2 : Hid (placeF s j (s.size + 1) (i + M) (l + 1) 1 = P) := by show _ = _; rw [HT.out, if_pos h10, if_pos h10]
          clear HT h10
          go_wp2_with (go_at_call 35; (with_reducible refine Calls.mono (N1 _) ?_); rintro e v1 ⟨rfl, rfl⟩)
          have hZ := HZ.out
          have hG := HG.out
          go_roundg (s.size - (i + M))
          case measure => omega
          case rel => exact ⟨i + M, l + 1, 1, by go_num, by omega, by omega, by omega, by omega, by omega, HT2.out, ((HB.out.1.set 1 (.int .i64 (c + 1))).set 0 (.int .i64 (l + 1))).set 1 (.int .i64 1), ((HB.out.2.other (by omega) _).other (by omega) _).other (by omega) _, ((bv.setCell (p := ⟨w.heap.size + 1, 1, none⟩) (show w.heap.size ≤ w.heap.size + 1 by omega) _).setCell (p := ⟨w.heap.size + 1, 0, none⟩) (show w.heap.size ≤ w.heap.size + 1 by omega) _).setCell (p := ⟨w.heap.size + 1, 1, none⟩) (show w.heap.size ≤ w.heap.size + 1 by omega) _⟩
        · have e10 : (R == 10) = false := by rw [beq_eq_false_iff_ne]; exact h10
          have HT2 : Hid (placeF s j (s.size + 1) (i + M) l (c + 1) = P) := by show _ = _; rw [HT.out, if_neg h10, if_neg h10]
          clear HT h10
          go_wp2_with (go_at_call 35; (with_reducible refine Calls.mono (N1 _) ?_); rintro e v1 ⟨rfl, rfl⟩)
          have hZ := HZ.out
          have hG := HG.out
          go_roundg (s.size - (i + M))
          case measure => omega
          case rel => exact ⟨i + M, l, c + 1, by go_num, by omega, by omega, by omega, by omega, by omega, HT2.out, HB.out.1.set 1 (.int .i64 (c + 1)), HB.out.2.other (by omega) _, bv.setCell (p := ⟨w.heap.size + 1, 1, none⟩) (show w.heap.size ≤ w.heap.size + 1 by omega) _⟩
    · have hi' : ¬ (i : Int) < s.size := by omega
      have hT := placeF_end (s := s) (at_ := j) (l := l) (c := c) (Nat.not_lt.2 hi)
      rw [HF.out] at hT
      subst hT
      clear HF NX B5 B4
      go_wp2
      exact bodyPost_ret (v := .agg #[.int .i64 l, .int .i64 c]) (by simp [results, Try.results19, go_sem, y0, y1]) rfl ⟨rfl, (bv.setCell (p := ⟨w.heap.size, 0, none⟩) (Nat.le_refl _) _).setCell (p := ⟨w.heap.size, 1, none⟩) (Nat.le_refl _) _⟩
end Go.Proofs.Ytfdheodkipfpeaa
/-
  What the statements over runes and places ask of package sign (its contracts), the chapter's examples by them, and the walks of SignKinds, SignNext, SignPlaces and SignNames: for whatever package sign keeps these; memory that was there stays.
-/
namespace Go.Proofs.Ytfdheodkipfpeaa
open Go.RowKit Go.Lib

/-- Package sign's contracts. -/
structure SignOk : Prop where
  kind : ∀ (r : Int) (w : World), -2147483648 ≤ r → r ≤ 2147483647 → ∀ k, kindI r = k → Calls Try.prog 30 #[.int .i32 r] w fun e w' => e = .returned (.int .i64 k) ∧ Below w.heap.size w w'
  next : ∀ (s : ByteArray) (i : Nat) (w : World), s.size ≤ 1000000 → i < s.size → Calls Try.prog 29 #[.string s, .int .i64 i] w fun e w' => e = .returned (.tuple #[.int .i32 (nextR s i), .int .i64 (nextN s i)]) ∧ Below w.heap.size w w'
  next_no : ∀ (s : ByteArray) (j : Int) (w : World), s.size ≤ 1000000 → -9223372036854775808 ≤ j → j < 9223372036854775808 → (j < 0 ∨ (s.size : Int) ≤ j) → Calls Try.prog 29 #[.string s, .int .i64 j] w fun e w' => e = .returned (.tuple #[.int .i32 0, .int .i64 0]) ∧ Below w.heap.size w w'
  place : ∀ (s : ByteArray) (j : Int) (w : World), s.size ≤ 1000000 → -9223372036854775808 ≤ j → j < 9223372036854775808 → Calls Try.prog 14 #[.string s, .int .i64 j] w (AnsL w (placeI s j))

theorem key_list (l : List UInt8) : keyB ⟨l.toArray⟩ = (l == [105, 110] || l == [108, 101, 116] || l == [111, 117, 116]) := by
  unfold keyB; rw [ByteArray.toList_eq]
theorem ex_next : nextR ⟨#[195, 169]⟩ 0 = 233 ∧ nextN ⟨#[195, 169]⟩ 0 = 2 := by decide
theorem ex_place : placeI ⟨#[97, 10, 98, 99]⟩ 3 = (2, 2) := by decide
theorem ex_key : keyB ⟨#[108, 101, 116]⟩ = true := key_list [108, 101, 116]
theorem ex_name1 : nameB ⟨#[120, 49]⟩ = true := by
  unfold nameB; rw [show keyB ⟨#[120, 49]⟩ = false from key_list [120, 49]]; decide
theorem ex_name2 : nameB ⟨#[49, 120]⟩ = false := by
  unfold nameB; rw [show nameF ⟨#[49, 120]⟩ ((⟨#[49, 120]⟩ : ByteArray).size + 1) 0 = false from by decide, Bool.and_false]
theorem ex_name3 : nameB ⟨#[108, 101, 116]⟩ = false := by
  unfold nameB; rw [ex_key, Bool.not_true, Bool.and_false, Bool.false_and]

end Go.Proofs.Ytfdheodkipfpeaa
/-
  Contracts of package sign's functions isLetter, Kind, Key and behind: kinds of all numbers, words of the language, the place behind a rune; memory that was there stays.
-/
namespace Go.Proofs.Ytfdheodkipfpeaa
open Go.RowKit Go.Lib

/-- Letters. -/
def letterP (r : Int) : Prop := 97 ≤ r ∧ r ≤ 122 ∨ 65 ≤ r ∧ r ≤ 90 ∨ r = 95 ∨ 128 ≤ r ∧ r ≤ 1114111 ∧ r ≠ 65533

set_option maxHeartbeats 4000000 in
theorem sign_letter_yes (r : Int) (h : letterP r) (w : World) : Calls Try.prog 44 #[.int .i32 r] w fun e w' => e = .returned (.bool true) ∧ w = w' := by
  rcases h with ⟨g1, g2⟩ | ⟨g1, g2⟩ | rfl | ⟨g1, g2, g3⟩
  · have g3 : ¬ 128 ≤ r := by omega
    go_enter Try.func44, Try.ntmps44
    go_wp2
    go_ret
    exact ⟨rfl, rfl⟩
  · have g3 : ¬ 128 ≤ r := by omega
    have g4 : ¬ 97 ≤ r := by omega
    go_enter Try.func44, Try.ntmps44
    go_wp2
    go_ret
    exact ⟨rfl, rfl⟩
  · go_enter Try.func44, Try.ntmps44
    go_wp2
    go_ret
    exact ⟨rfl, rfl⟩
  · have g4 : (r != 65533) = true := by rw [bne_iff_ne]; exact g3
    clear g3
    go_enter Try.func44, Try.ntmps44
    go_wp2
    go_ret
    exact ⟨rfl, rfl⟩

set_option maxHeartbeats 4000000 in
theorem sign_letter_no (r : Int) (h : ¬ letterP r) (w : World) : Calls Try.prog 44 #[.int .i32 r] w fun e w' => e = .returned (.bool false) ∧ w = w' := by
  unfold letterP at h
  rcases (by omega : r < 65 ∨ (90 < r ∧ r < 97 ∧ r ≠ 95) ∨ (122 < r ∧ r < 128) ∨ r = 65533 ∨ 1114111 < r) with g | ⟨g1, g2, g3⟩ | ⟨g1, g2⟩ | rfl | g
  · have g1 : ¬ 128 ≤ r := by omega
    have g2 : ¬ 97 ≤ r := by omega
    have g3 : ¬ 65 ≤ r := by omega
    have g4 : (r == 95) = false := by rw [beq_eq_false_iff_ne]; omega
    clear h
    go_enter Try.func44, Try.ntmps44
    go_wp2
    go_ret
    exact ⟨rfl, rfl⟩
  · have k1 : ¬ 128 ≤ r := by omega
    have k2 : ¬ 97 ≤ r := by omega
    have k3 : ¬ r ≤ 90 := by omega
    have k5 : 65 ≤ r := by omega
    have k4 : (r == 95) = false := by rw [beq_eq_false_iff_ne]; omega
    clear h
    go_enter Try.func44, Try.ntmps44
    go_wp2
    go_ret
    exact ⟨rfl, rfl⟩
  · have k1 : ¬ 128 ≤ r := by omega
    have k2 : 97 ≤ r := by omega
    have k3 : ¬ r ≤ 122 := by omega
    have k5 : 65 ≤ r := by omega
    have k6 : ¬ r ≤ 90 := by omega
    have k4 : (r == 95) = false := by rw [beq_eq_false_iff_ne]; omega
    clear h
    go_enter Try.func44, Try.ntmps44
    go_wp2
    go_ret
    exact ⟨rfl, rfl⟩
  · clear h
    go_enter Try.func44, Try.ntmps44
    go_wp2
    go_ret
    exact ⟨rfl, rfl⟩
  · have k1 : 128 ≤ r := by omega
    have k2 : ¬ r ≤ 1114111 := by omega
    clear h
    go_enter Try.func44, Try.ntmps44
    go_wp2
    go_ret
    exact ⟨rfl, rfl⟩

theorem kindI_letter {r : Int} (h : letterP r) : kindI r = 1 := if_pos h
theorem kindI_rest {r : Int} (h : ¬ letterP r) : kindI r = if 48 ≤ r ∧ r ≤ 57 then 2 else if r = 9 ∨ r = 10 ∨ r = 13 ∨ r = 32 then 3 else if r = 43 ∨ r = 45 ∨ r = 42 ∨ r = 47 ∨ r = 94 ∨ r = 40 ∨ r = 41 ∨ r = 61 ∨ r = 59 ∨ r = 44 then 4 else 0 := if_neg h
set_option maxHeartbeats 4000000 in
theorem sign_kind (r : Int) (k : Int) (hk : kindI r = k) (w : World) : Calls Try.prog 30 #[.int .i32 r] w fun e w' => e = .returned (.int .i64 k) ∧ w = w' := by
  by_cases hl : letterP r
  · have L := fun v => sign_letter_yes r hl v
    obtain rfl : k = 1 := by rw [← hk]; exact kindI_letter hl
    clear hl hk
    go_enter Try.func30, Try.ntmps30
    go_wp2_with (go_at_call 44; (with_reducible refine Calls.mono (L _) ?_); rintro e v1 ⟨rfl, rfl⟩)
    go_ret
    exact ⟨rfl, rfl⟩
  have L := fun v => sign_letter_no r hl v
  have HK : Hid (kindI r = k) := hk
  rcases (by omega : (48 ≤ r ∧ r ≤ 57) ∨ r = 9 ∨ r = 10 ∨ r = 13 ∨ r = 32 ∨ r = 43 ∨ r = 45 ∨ r = 42 ∨ r = 47 ∨ r = 94 ∨ r = 40 ∨ r = 41 ∨ r = 61 ∨ r = 59 ∨ r = 44 ∨ (¬ (48 ≤ r ∧ r ≤ 57) ∧ r ≠ 9 ∧ r ≠ 10 ∧ r ≠ 13 ∧ r ≠ 32 ∧ r ≠ 43 ∧ r ≠ 45 ∧ r ≠ 42 ∧ r ≠ 47 ∧ r ≠ 94 ∧ r ≠ 40 ∧ r ≠ 41 ∧ r ≠ 61 ∧ r ≠ 59 ∧ r ≠ 44)) with ⟨g1, g2⟩ | rfl | rfl | rfl | rfl | rfl | rfl | rfl | rfl | rfl | rfl | rfl | rfl | rfl | rfl | ⟨g, n9, n10, n13, n32, n43, n45, n42, n47, n94, n40, n41, n61, n59, n44⟩
  · obtain rfl : k = 2 := by
      rw [← HK.out, kindI_rest hl, if_pos ⟨g1, g2⟩]
    clear hl hk HK
    go_enter Try.func30, Try.ntmps30
    go_wp2_with (go_at_call 44; (with_reducible refine Calls.mono (L _) ?_); rintro e v1 ⟨rfl, rfl⟩)
    go_ret
    exact ⟨rfl, rfl⟩
  · obtain rfl : k = 3 := by rw [← HK.out]; decide
    clear hl hk HK
    go_enter Try.func30, Try.ntmps30
    go_wp2_with (go_at_call 44; (with_reducible refine Calls.mono (L _) ?_); rintro e v1 ⟨rfl, rfl⟩)
    go_ret
    exact ⟨rfl, rfl⟩
  · obtain rfl : k = 3 := by rw [← HK.out]; decide
    clear hl hk HK
    go_enter Try.func30, Try.ntmps30
    go_wp2_with (go_at_call 44; (with_reducible refine Calls.mono (L _) ?_); rintro e v1 ⟨rfl, rfl⟩)
    go_ret
    exact ⟨rfl, rfl⟩
  · obtain rfl : k = 3 := by rw [← HK.out]; decide
    clear hl hk HK
    go_enter Try.func30, Try.ntmps30
    go_wp2_with (go_at_call 44; (with_reducible refine Calls.mono (L _) ?_); rintro e v1 ⟨rfl, rfl⟩)
    go_ret
    exact ⟨rfl, rfl⟩
  · obtain rfl : k = 3 := by rw [← HK.out]; decide
    clear hl hk HK
    go_enter Try.func30, Try.ntmps30
    go_wp2_with (go_at_call 44; (with_reducible refine Calls.mono (L _) ?_); rintro e v1 ⟨rfl, rfl⟩)
    go_ret
    exact ⟨rfl, rfl⟩
  · obtain rfl : k = 4 := by rw [← HK.out]; decide
    clear hl hk HK
    go_enter Try.func30, Try.ntmps30
    go_wp2_with (go_at_call 44; (with_reducible refine Calls.mono (L _) ?_); rintro e v1 ⟨rfl, rfl⟩)
    go_ret
    exact ⟨rfl, rfl⟩
  · obtain rfl : k = 4 := by rw [← HK.out]; decide
    clear hl hk HK
    go_enter Try.func30, Try.ntmps30
    go_wp2_with (go_at_call 44; (with_reducible refine Calls.mono (L _) ?_); rintro e v1 ⟨rfl, rfl⟩)
    go_ret
    exact ⟨rfl, rfl⟩
  · obtain rfl : k = 4 := by rw [← HK.out]; decide
    clear hl hk HK
    go_enter Try.func30, Try.ntmps30
    go_wp2_with (go_at_call 44; (with_reducible refine Calls.mono (L _) ?_); rintro e v1 ⟨rfl, rfl⟩)
    go_ret
    exact ⟨rfl, rfl⟩
  · obtain rfl : k = 4 := by rw [← HK.out]; decide
    clear hl hk HK
    go_enter Try.func30, Try.ntmps30
    go_wp2_with (go_at_call 44; (with_reducible refine Calls.mono (L _) ?_); rintro e v1 ⟨rfl, rfl⟩)
    go_ret
    exact ⟨rfl, rfl⟩
  · obtain rfl : k = 4 := by rw [← HK.out]; decide
    clear hl hk HK
    go_enter Try.func30, Try.ntmps30
    go_wp2_with (go_at_call 44; (with_reducible refine Calls.mono (L _) ?_); rintro e v1 ⟨rfl, rfl⟩)
    go_ret
    exact ⟨rfl, rfl⟩
  · obtain rfl : k = 4 := by rw [← HK.out]; decide
    clear hl hk HK
    go_enter Try.func30, Try.ntmps30
    go_wp2_with (go_at_call 44; (with_reducible refine Calls.mono (L _) ?_); rintro e v1 ⟨rfl, rfl⟩)
    go_ret
    exact ⟨rfl, rfl⟩
  · obtain rfl : k = 4 := by rw [← HK.out]; decide
    clear hl hk HK
    go_enter Try.func30, Try.ntmps30
    go_wp2_with (go_at_call 44; (with_reducible refine Calls.mono (L _) ?_); rintro e v1 ⟨rfl, rfl⟩)
    go_ret
    exact ⟨rfl, rfl⟩
  · obtain rfl : k = 4 := by rw [← HK.out]; decide
    clear hl hk HK
    go_enter Try.func30, Try.ntmps30
    go_wp2_with (go_at_call 44; (with_reducible refine Calls.mono (L _) ?_); rintro e v1 ⟨rfl, rfl⟩)
    go_ret
    exact ⟨rfl, rfl⟩
  · obtain rfl : k = 4 := by rw [← HK.out]; decide
    clear hl hk HK
    go_enter Try.func30, Try.ntmps30
    go_wp2_with (go_at_call 44; (with_reducible refine Calls.mono (L _) ?_); rintro e v1 ⟨rfl, rfl⟩)
    go_ret
    exact ⟨rfl, rfl⟩
  · obtain rfl : k = 4 := by rw [← HK.out]; decide
    clear hl hk HK
    go_enter Try.func30, Try.ntmps30
    go_wp2_with (go_at_call 44; (with_reducible refine Calls.mono (L _) ?_); rintro e v1 ⟨rfl, rfl⟩)
    go_ret
    exact ⟨rfl, rfl⟩
  · obtain rfl : k = 0 := by
      rw [← HK.out, kindI_rest hl, if_neg g, if_neg (by omega), if_neg (by omega)]
    have e9 : (r == 9) = false := by rw [beq_eq_false_iff_ne]; exact n9
    have e10 : (r == 10) = false := by rw [beq_eq_false_iff_ne]; exact n10
    have e13 : (r == 13) = false := by rw [beq_eq_false_iff_ne]; exact n13
    have e32 : (r == 32) = false := by rw [beq_eq_false_iff_ne]; exact n32
    have e43 : (r == 43) = false := by rw [beq_eq_false_iff_ne]; exact n43
    have e45 : (r == 45) = false := by rw [beq_eq_false_iff_ne]; exact n45
    have e42 : (r == 42) = false := by rw [beq_eq_false_iff_ne]; exact n42
    have e47 : (r == 47) = false := by rw [beq_eq_false_iff_ne]; exact n47
    have e94 : (r == 94) = false := by rw [beq_eq_false_iff_ne]; exact n94
    have e40 : (r == 40) = false := by rw [beq_eq_false_iff_ne]; exact n40
    have e41 : (r == 41) = false := by rw [beq_eq_false_iff_ne]; exact n41
    have e61 : (r == 61) = false := by rw [beq_eq_false_iff_ne]; exact n61
    have e59 : (r == 59) = false := by rw [beq_eq_false_iff_ne]; exact n59
    have e44 : (r == 44) = false := by rw [beq_eq_false_iff_ne]; exact n44
    clear hl hk HK
    rcases (by omega : r < 48 ∨ 57 < r) with q | q
    · have q1 : ¬ 48 ≤ r := by omega
      clear g q n9 n10 n13 n32 n43 n45 n42 n47 n94 n40 n41 n61 n59 n44
      go_enter Try.func30, Try.ntmps30
      go_wp2_with (go_at_call 44; (with_reducible refine Calls.mono (L _) ?_); rintro e v1 ⟨rfl, rfl⟩)
      go_ret
      exact ⟨rfl, rfl⟩
    · have q1 : 48 ≤ r := by omega
      have q2 : ¬ r ≤ 57 := by omega
      clear g q n9 n10 n13 n32 n43 n45 n42 n47 n94 n40 n41 n61 n59 n44
      go_enter Try.func30, Try.ntmps30
      go_wp2_with (go_at_call 44; (with_reducible refine Calls.mono (L _) ?_); rintro e v1 ⟨rfl, rfl⟩)
      go_ret
      exact ⟨rfl, rfl⟩

set_option maxHeartbeats 4000000 in
theorem sign_behind (l c R : Int) (hl0 : 0 ≤ l) (hl : l < 10000000) (hc0 : 0 ≤ c) (hc : c < 10000000) (w : World) :
    Calls Try.prog 26 #[.agg #[.int .i64 l, .int .i64 c], .int .i32 R] w (AnsL w (if R = 10 then l + 1 else l, if R = 10 then 1 else c + 1)) := by
  have wl : wrap64 (l + 1) = l + 1 := by unfold wrap64; omega
  have wc : wrap64 (c + 1) = c + 1 := by unfold wrap64; omega
  clear hl0 hl hc0 hc
  by_cases h10 : R = 10
  · have e10 : (R == 10) = true := by rw [beq_iff_eq]; exact h10
    rw [if_pos h10, if_pos h10]
    obtain ⟨B2, B4, bV, hb⟩ := boxes2 w #[.int .i64 l, .int .i64 c] #[.int .i64 (l + 1), .int .i64 1] 25 25
    obtain ⟨x0, x1, x2, x3⟩ := B2.cells2
    obtain ⟨y0, y1, y2, y3⟩ := B4.cells2
    clear h10 B2 B4
    go_enter Try.func26, Try.ntmps26
    go_wp2
    exact bodyPost_ret (v := .agg #[.int .i64 (l + 1), .int .i64 1]) (by simp [results, Try.results26, go_sem, y0, y1]) rfl ⟨rfl, bV⟩
  · have e10 : (R == 10) = false := by rw [beq_eq_false_iff_ne]; exact h10
    rw [if_neg h10, if_neg h10]
    obtain ⟨B2, B4, bV, hb⟩ := boxes2 w #[.int .i64 l, .int .i64 c] #[.int .i64 l, .int .i64 (c + 1)] 25 25
    obtain ⟨x0, x1, x2, x3⟩ := B2.cells2
    obtain ⟨y0, y1, y2, y3⟩ := B4.cells2
    clear h10 B2 B4
    go_enter Try.func26, Try.ntmps26
    go_wp2
    exact bodyPost_ret (v := .agg #[.int .i64 l, .int .i64 (c + 1)]) (by simp [results, Try.results26, go_sem, y0, y1]) rfl ⟨rfl, bV⟩
end Go.Proofs.Ytfdheodkipfpeaa
/-
  Laws of no function: ranging over a text while the call makes memory: what the call owns stays while the range goes on; what a sign at a byte is. No conditions of the program.
-/
namespace Go.Proofs.Ytfdheodkipfpeaa
open Go.RowKit Go.Lib

theorem Own.iterAt {W w : World} {v : Value} {n : Nat} {xs : List Int} (h : Own W w v n xs) {k : Nat} {s : ByteArray} {pos : Nat} (hk : w.heap[k]? = some (.stringIter s pos)) (hW : W.heap.size ≤ k) (pos' : Nat) :
    Own W (w.iterAt k s pos') v n xs := by
  refine ⟨⟨h.1.1, ?_⟩, below_iterAt h.2 hW s pos'⟩
  rcases h.1.2 with h0 | ⟨g, cap, cur, e, h1, hg, h2⟩
  · exact .inl h0
  · have hkg : g ≠ k := by
      intro e1
      rw [e1, hk] at hg
      cases hg
    exact .inr ⟨g, cap, cur, e, h1, (iterAt_other w k g s pos' hkg).trans hg, h2⟩

/-- A range's place stays while a callee makes memory. -/
theorem iter_more {w w' : World} {k : Nat} {s : ByteArray} {pos : Nat} (hk : w.heap[k]? = some (.stringIter s pos)) (hb : Below w.heap.size w w') : w'.heap[k]? = some (.stringIter s pos) :=
  (hb.block k (Array.getElem?_eq_some_iff.1 hk).1).trans hk

theorem iter_new (w : World) (s : ByteArray) : (w.iter s 0).heap[w.heap.size]? = some (.stringIter s 0) := World.iter_heap w s 0
theorem below_iter (w : World) (s : ByteArray) (pos : Nat) : Below w.heap.size w (w.iter s pos) := (Below.refl _ w).alloc (Nat.le_refl _) _

/-- A sign above the plain ones at a byte that is not plain. -/
theorem decode_not {s : ByteArray} {pos : Nat} (h : pos < s.size) {a b : Nat} (hb : b < 128) (hc : ¬ (a ≤ (s[pos]'h).toNat ∧ (s[pos]'h).toNat ≤ b)) : (Utf8.decode s pos).1 < a ∨ b < (Utf8.decode s pos).1 := by
  by_cases ha : (s[pos]'h).toNat < 128
  · rw [decode_ascii s pos h ha]; dsimp only; omega
  · have := (decode_high s pos h (by omega)).1; omega
end Go.Proofs.Ytfdheodkipfpeaa
