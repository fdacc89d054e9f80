/-
  Contracts of the document's own answers for products (package talwegref03: One, Mul), for all lists of words: as numbers; memory that was there stays, and what is answered is the call's own.
-/
import Derived.Test.YtlokidddbkdclaaDoorTimesB
import Derived.Test.YtlokidddbkdclaaDoorNatRefC
import Derived.Deep.RegionWith
import Derived.Deep.RegionLaw
import Derived.Deep.DrawnRows
namespace Go.Proofs.YtlokidddbkdclaaDoor
open Go.RowKit

theorem nl_mul (a b : Nat) : nl (a * b) ≤ nl a + nl b := by
  refine nl_le _ _ ?_
  rw [Nat.pow_add]
  exact Nat.mul_lt_mul_of_lt_of_le (lt_nl a) (Nat.le_of_lt (lt_nl b)) (Nat.pow_pos (by omega))

/-- One word's step of the document's product by a word. -/
theorem ref_one_step {p S V A x z y c c' : Nat} (hi : S + c * p = A * x + V) (hy : y + 4294967296 * c' = z * x + c) : (S + y * p) + c' * (p * 4294967296) = (A + z * p) * x + V := by
  have e : (y + 4294967296 * c') * p = (z * x + c) * p := by rw [hy]
  rw [Nat.add_mul, Nat.add_mul] at e
  have e2 : c' * (p * 4294967296) = 4294967296 * c' * p := by rw [Nat.mul_comm p, ← Nat.mul_assoc, Nat.mul_comm c']
  have e3 : (A + z * p) * x = A * x + z * x * p := by rw [Nat.add_mul, Nat.mul_right_comm]
  rw [e2, e3]; omega

set_option maxHeartbeats 2000000 in
theorem ref_one (a : Option Addr) (n c : Nat) (zs : List Int) (x y : Int) (w : World) (h : IsWords w (.slice a n c) zs) (hz : Wd zs) (hn : n ≤ 1000000000) (x0 : 0 ≤ x) (x1 : x < 4294967296) (y0 : 0 ≤ y) (y1 : y < 4294967296) :
    Calls Tryd.prog 25 #[.slice a n c, .int .u32 x, .int .u32 y] w (Ans w (val zs * x.toNat + y.toNat)) := by
  have l1 : Hid (zs.length = n) := h.len
  go_enter Tryd.func25, Tryd.ntmps25
  go_wp2
  go_loopw [7, 8, 9] (fun s cr i v => ∃ (k : Nat) (cy : Int) (oa : Option Addr) (oc : Nat) (ss : List Int), k ≤ n ∧ i = .int .i64 k ∧ cr = .int .u64 cy ∧ 0 ≤ cy ∧ cy < 4294967296 ∧ s = .slice oa k oc ∧ Own w v (.slice oa k oc) k ss ∧ Wd ss ∧ val ss + cy.toNat * 4294967296 ^ k = val (zs.take k) * x.toNat + y.toNat) (fun _ _ i _ => n - (intOf i).toNat)
  case atStart => exact ⟨0, y, none, 0, [], by omega, rfl, rfl, y0, y1, rfl, Own.nil (Below.refl _ _), wd_nil, by simp [val]⟩
  case round =>
    obtain ⟨k, cy, oa, oc, ss, hk, rfl, rfl, c0, c1, rfl, o, wS, hI⟩ := hrel
    have HI : Hid (val ss + cy.toNat * 4294967296 ^ k = val (zs.take k) * x.toNat + y.toNat) := hI
    clear hI
    have HL : Hid (ss.length = k) := o.length
    by_cases hlt : k < n
    · obtain ⟨z0, z1⟩ := wd_getD hz k
      rcases (h.below o.below).reads.1.2 with h0 | ⟨b, off, rfl, hcz⟩
      · omega
      have hck := hcz k hlt
      have T1 : Hid (val (zs.take (k + 1)) = val (zs.take k) + (zs.getD k 0).toNat * 4294967296 ^ k) := val_take_succ zs k
      generalize zs.getD k 0 = z at hck T1 z0 z1
      have m0 : 0 ≤ z * x := Int.mul_nonneg z0 x0
      have m1 : z * x ≤ 4294967295 * 4294967295 := Int.mul_le_mul (by omega) (by omega) x0 (by omega)
      have m2 : (z * x).toNat = z.toNat * x.toNat := Int.toNat_mul z0 x0
      have HN : Hid (val (ss ++ [(z * x + cy) % 4294967296]) + ((z * x + cy) / 4294967296).toNat * 4294967296 ^ (k + 1) = val (zs.take (k + 1)) * x.toNat + y.toNat) := by
        show _ = _
        rw [T1.out, val_snoc, HL.out, Nat.pow_succ]
        refine ref_one_step HI.out ?_
        rw [← m2]
        generalize z * x = p at m0 m1
        omega
      have HC : 0 ≤ (z * x + cy) / 4294967296 ∧ (z * x + cy) / 4294967296 < 4294967296 := by
        generalize z * x = p at m0 m1
        omega
      have WN : Wd (ss ++ [(z * x + cy) % 4294967296]) := wd_append wS (wd_one (by omega) (by omega))
      clear T1 HL HI h hz l1 wS hcz m2
      go_wp2_with (first
        | (at_builtin; refine wpl_append_words (.tmp 29) (.tmp 33) rfl rfl w _ _ _ k 1 ss [(z * x + cy) % 4294967296] rfl rfl (o.alloc _) (lit_words _ [(z * x + cy) % 4294967296] 1 rfl (by decide)) rfl (k + 1) rfl (by omega) ?_; intro a1 c1' w1 o1 g1))
      go_roundw
      case rel => exact ⟨k + 1, (z * x + cy) / 4294967296, a1, c1', _, by omega, by go_num, rfl, HC.1, HC.2, rfl, o1, WN, HN.out⟩
      case measure => simp [intOf]; omega
    · obtain rfl : k = n := by omega
      have HN : Hid (val (ss ++ [cy]) = val zs * x.toNat + y.toNat) := by
        show _ = _
        have h1 := HI.out
        have h2 := l1.out
        rw [List.take_of_length_le (by omega)] at h1
        rw [val_snoc, HL.out, h1]
      have WN : Wd (ss ++ [cy]) := wd_append wS (wd_one c0 c1)
      have R := fun v a1 c1 (p : IsWords v (.slice a1 (k + 1) c1) (ss ++ [cy])) => ref_trim a1 (k + 1) c1 (ss ++ [cy]) v p WN (by omega)
      rw [HN.out] at R
      clear HN HI HL h hz l1 wS
      go_wp2_with (first
        | (at_builtin; refine wpl_append_words (.tmp 37) (.tmp 40) rfl rfl w _ _ _ k 1 ss [cy] rfl rfl (o.alloc _) (lit_words _ [cy] 1 rfl (by decide)) rfl (k + 1) rfl (by omega) ?_; intro a1 c1' w1 o1 g1)
        | (go_at_call 26; (with_reducible refine Calls.mono (R _ _ _ o1.words) ?_); rintro e w2 ⟨a2, c2, rfl, o2⟩))
      go_ret
      exact ⟨_, _, rfl, o2.outer o1.below⟩

theorem nl_word {x : Nat} (h : x < 4294967296) : nl x ≤ 1 := nl_le 1 _ (by simpa using h)
theorem nl_take {ys : List Int} (h : Wd ys) (k : Nat) : nl (val (ys.take k)) ≤ k := nl_le _ _ (val_take_lt ys h k)

/-- make([]uint32, n), as it runs. -/
theorem run_make_words (W w : World) (n : Nat) (hle : n ≤ 35184372088832) (hb : Below W.heap.size W w) :
    ∃ g w', (Instr.makeSlice 23 (.int .i64 n) (.int .i64 n)).run Tryd.prog w = .ok (.slice (some ⟨g, 0, none⟩) n n) w' ∧ Own W w' (.slice (some ⟨g, 0, none⟩) n n) n (List.replicate n 0) ∧ Below w.heap.size w w' := by
  obtain ⟨i, hi, hz, hs1, hby⟩ := info_parts infoU32
  obtain ⟨w', hr, h1, h2⟩ := run_make_full (P := Tryd.prog) w W.heap.size 23 36 i (.int .u32 0) 1 Tryd.underlying23 hi hz hs1 .i64 .i64 n (by rw [hby]; omega) (by unfold maxLen; omega) hb.size
  refine ⟨_, w', hr, ⟨?_, hb.grown h2 hb.size (fun k e => by cases e)⟩, (Below.refl _ _).grown h2 (Nat.le_refl _) (fun k e => by cases e)⟩
  have e : (madeCells (Value.int .u32 0).cells (n * 1)).toList = (List.replicate n (0 : Int)).map (Value.int .u32) := by
    apply List.ext_getElem?
    intro j
    by_cases hj : j < n
    · simp [madeCells, Value.cells, hj, Nat.mod_one]
    · simp [madeCells, Value.cells, hj]
  rw [← e]; exact h1

/-- append(v, vx...), v the call's own: a step of a region that draws its order. -/
theorem stp_append_words {ops : Array Oper} {o : Oper} {a : Act} {K : Act → World → Prop} {Q : Exit → Act → World → Prop} {E : Prop} (s x : Operand)
    (ho : o.op = .call { callee := .builtin .append, args := #[s, x], argTypes := #[23, 23] }) (hgd : Region.wanted o (yielded ops a.tmps) = true)
    (W w : World) (v vx : Value) (n m : Nat) (xs ys : List Int) (hs : a.eval s = v) (hx : a.eval x = vx) (hown : Own W w v n xs) (hsrc : IsWords w vx ys) (hm : ys.length = m) (N : Nat) (hN : n + m = N) (hle : N ≤ 35184372088832)
    (h : ∀ a' c' w', Own W w' (.slice a' N c') N (xs ++ ys) → w.grownBy w' v.ownBlock → K (a.put o.dst (.slice a' N c')) w') : if Region.wanted o (yielded ops a.tmps) = true then Oper.wp Tryd.prog o a w K Q else E := by
  subst hN
  obtain ⟨i, hi, hz, hs1, hby⟩ := info_parts infoU32
  have hmax : n + m ≤ maxLen := by unfold maxLen; omega
  rw [if_pos hgd]
  rcases hsrc with ⟨rfl, rfl⟩ | ⟨ad, c, rfl, -, -, hc⟩
  · have hrun := run_append_owned_none (P := Tryd.prog) (w := w) W.heap.size 23 o.type 36 i 1 Tryd.underlying23 hi v n _ hown.1
    obtain ⟨a', c', rfl⟩ := hown.lit
    subst hm
    have hK' := h a' c' w (by simpa using hown) ⟨rfl, rfl, rfl, Nat.le_refl _, fun _ _ _ => rfl⟩
    unfold Oper.wp
    simp [execOp, ho, resolve, invoke, builtin, hs, hx, hrun, Result.andThen]
    have hK2 : K (a.put o.dst (.slice a' n c')) w := by simpa using hK'
    exact hK2
  · refine wp_append_own (P := Tryd.prog) w s x 23 ho W.heap.size 36 i (.int .u32 0) 1 4 Tryd.underlying23 hi hz hs1 hby rfl (by decide) v n _ hs hown.1 ad ys.length c (ys.map (Value.int .u32)) hx (by simp) ?_ (oneCells ys) (by omega) (by omega) hown.2.size ?_
    · intro j u hj
      rw [List.getElem?_map] at hj
      obtain ⟨y, hy, rfl⟩ := Option.map_eq_some_iff.1 hj
      have hlt : j < ys.length := (List.getElem?_eq_some_iff.1 hy).1
      rw [hc j hlt]
      simp [List.getD_eq_getElem?_getD, hy]
    · intro v' w' h1 h2 _
      subst hm
      have hnew : Own W w' v' (n + ys.length) (xs ++ ys) := ⟨by rw [List.map_append]; exact h1, below_grown hown h2⟩
      obtain ⟨a', c', rfl⟩ := hnew.lit
      exact h a' c' w' hnew h2

end Go.Proofs.YtlokidddbkdclaaDoor
