/-
  Texts of mine in build order. No conditions of their own.
-/
import Derived.Test.YtaeladkcmpdkhaaGreatDoorPack28
import Derived.Test.YtaeladkcmpdkhaaGreatDoorPack45
set_option maxHeartbeats 16000000
namespace Go.Proofs.YtaeladkcmpdkhaaGreatDoor
section
open Go.RowKit Go.Lib
theorem ref_binds (k : Int) (w : World) : Calls Tryz.prog 27 #[.int .i64 k] w fun e w' => e = .returned (.int .i64 (bindK k)) ∧ Below w.heap.size w w' := by
 by_cases h2 : k = 2
 ·subst h2
  go_enter Tryz.func27, Tryz.ntmps27
  go_wp2
  go_ret
  exact ⟨rfl, Below.refl _ _⟩
 by_cases h3 : k = 3
 ·subst h3
  go_enter Tryz.func27, Tryz.ntmps27
  go_wp2
  go_ret
  exact ⟨rfl, Below.refl _ _⟩
 by_cases h4 : k = 4
 ·subst h4
  go_enter Tryz.func27, Tryz.ntmps27
  go_wp2
  go_ret
  exact ⟨rfl, Below.refl _ _⟩
 by_cases h5 : k = 5
 ·subst h5
  go_enter Tryz.func27, Tryz.ntmps27
  go_wp2
  go_ret
  exact ⟨rfl, Below.refl _ _⟩
 by_cases h6 : k = 6
 ·subst h6
  go_enter Tryz.func27, Tryz.ntmps27
  go_wp2
  go_ret
  exact ⟨rfl, Below.refl _ _⟩
 by_cases h7 : k = 7
 ·subst h7
  go_enter Tryz.func27, Tryz.ntmps27
  go_wp2
  go_ret
  exact ⟨rfl, Below.refl _ _⟩
 have hb : bindK k = 5 := by unfold bindK; rw [if_neg (by omega), if_neg (by omega), if_neg h6, if_neg h7]
 rw [hb]
 clear hb
 have e2 : (k == 2) = false := beq_eq_false_iff_ne.2 h2
 have e3 : (k == 3) = false := beq_eq_false_iff_ne.2 h3
 have e4 : (k == 4) = false := beq_eq_false_iff_ne.2 h4
 have e5 : (k == 5) = false := beq_eq_false_iff_ne.2 h5
 have e6 : (k == 6) = false := beq_eq_false_iff_ne.2 h6
 have e7 : (k == 7) = false := beq_eq_false_iff_ne.2 h7
 go_enter Tryz.func27, Tryz.ntmps27
 go_wp2
 go_ret
 exact ⟨rfl, Below.refl _ _⟩
section
variable {w : World} {a : Option Addr} {n c : Nat} {ms : List Mn} {i : Nat} {m : Mn} {ua : Option Addr} {un uc : Nat} {va : Option Addr} {vn vc : Nat}
theorem node_name (h : IsN w a n ms) (hm : ms[i]? = some m) (hu : m.2.1 = .slice ua un uc) (hv : m.2.2 = .slice va vn vc) (hk : m.1.kind = 0) :
  Calls Tryz.prog 11 #[.slice a n c, .int .i64 i] w (AnsB w m.1.name) := by
 have hi : i < n := by rw [← h.1]; exact (List.getElem?_eq_some_iff.1 hm).1
 obtain ⟨g, o, rfl, c0, c1, c2, c3, c4, c5, c6, c7⟩ := h.node hm
 rw [hu] at c6
 rw [hv] at c7
 rw [hk] at c0
 generalize m.1.a = A at *
 generalize m.1.b = C at *
 generalize m.1.exp = X at *
 generalize m.1.name = Y at *
 generalize m.1.neg = G at *
 have k1 : (i : Int) < n := by omega
 have b0 : Below w.heap.size w (w.alloc (.cells #[.int .i64 0, .int .i64 A, .int .i64 C, .int .i64 X, .string Y, .bool G, .slice ua un uc, .slice va vn vc] 47)) := (Below.refl _ w).alloc (Nat.le_refl _) _
 clear h hm hu hv hk hi
 go_enter Tryz.func11, Tryz.ntmps11
 go_wp2
 go_ret
 exact ⟨rfl, b0⟩
theorem node_num (h : IsN w a n ms) (hm : ms[i]? = some m) (hu : m.2.1 = .slice ua un uc) (hv : m.2.2 = .slice va vn vc) (hk : m.1.kind = 1) {q : Rat} (hq : RR 3000 w m.1.neg ua un uc va vn vc q) {y : ByteArray} (hy : ⟨(decR q).toArray⟩ = y) :
  Calls Tryz.prog 11 #[.slice a n c, .int .i64 i] w (AnsB w y) := by
 have hi : i < n := by rw [← h.1]; exact (List.getElem?_eq_some_iff.1 hm).1
 obtain ⟨g, o, rfl, c0, c1, c2, c3, c4, c5, c6, c7⟩ := h.node hm
 rw [hu] at c6
 rw [hv] at c7
 rw [hk] at c0
 have PR := fun (v : World) (d : Below w.heap.size w v) => ref_rprint (hq.below d)
 rw [hy] at PR
 generalize m.1.a = A at *
 generalize m.1.b = C at *
 generalize m.1.exp = X at *
 generalize m.1.name = Y at *
 generalize m.1.neg = G at *
 have k1 : (i : Int) < n := by omega
 have NB := BoxC.new w #[.int .i64 1, .int .i64 A, .int .i64 C, .int .i64 X, .string Y, .bool G, .slice ua un uc, .slice va vn vc] 47
 have z5 := (NB.cell 5).1
 have z6 := (NB.cell 6).1
 have z7 := (NB.cell 7).1
 have b0 : Below w.heap.size w (w.alloc (.cells #[.int .i64 1, .int .i64 A, .int .i64 C, .int .i64 X, .string Y, .bool G, .slice ua un uc, .slice va vn vc] 47)) := (Below.refl _ w).alloc (Nat.le_refl _) _
 clear h hm hu hv hk hi hq hy
 go_enter Tryz.func11, Tryz.ntmps11
 go_wp2_with (go_at_call 24; (with_reducible refine Calls.mono (PR _ b0) ?_); rintro e w1 ⟨rfl, d1⟩)
 go_ret
 exact ⟨rfl, below_more b0 d1⟩
theorem node_neg (h : IsN w a n ms) (hm : ms[i]? = some m) (hu : m.2.1 = .slice ua un uc) (hv : m.2.2 = .slice va vn vc) (hk : m.1.kind = 6) {x : ByteArray} (hx : x.size ≤ 60000)
  (CA : ∀ u, Below w.heap.size w u → Calls Tryz.prog 25 #[.slice a n c, .int .i64 m.1.a, .int .i64 3] u (AnsB u x)) :
  Calls Tryz.prog 11 #[.slice a n c, .int .i64 i] w (AnsB w (⟨#[45]⟩ ++ x)) := by
 have hi : i < n := by rw [← h.1]; exact (List.getElem?_eq_some_iff.1 hm).1
 obtain ⟨g, o, rfl, c0, c1, c2, c3, c4, c5, c6, c7⟩ := h.node hm
 rw [hu] at c6
 rw [hv] at c7
 rw [hk] at c0
 generalize m.1.a = A at *
 generalize m.1.b = C at *
 generalize m.1.exp = X at *
 generalize m.1.name = Y at *
 generalize m.1.neg = G at *
 have k1 : (i : Int) < n := by omega
 have hx' : (x.size : Int) ≤ 60000 := by omega
 have NB := BoxC.new w #[.int .i64 6, .int .i64 A, .int .i64 C, .int .i64 X, .string Y, .bool G, .slice ua un uc, .slice va vn vc] 47
 have z1 := (NB.cell 1).1
 have b0 : Below w.heap.size w (w.alloc (.cells #[.int .i64 6, .int .i64 A, .int .i64 C, .int .i64 X, .string Y, .bool G, .slice ua un uc, .slice va vn vc] 47)) := (Below.refl _ w).alloc (Nat.le_refl _) _
 unfold AnsB at CA
 clear h hm hu hv hk hi hx
 go_enter Tryz.func11, Tryz.ntmps11
 go_wp2_with (go_at_call 25; (with_reducible refine Calls.mono (CA _ b0) ?_); rintro e w1 ⟨rfl, d1⟩)
 go_ret
 exact ⟨rfl, below_more b0 d1⟩
end
end
section
open Go.RowKit Go.Lib
theorem ref_dtext (k : Nat) (hk : k ≤ 1000000) (w : World) :
  Calls Tryz.prog 26 #[.int .i64 k] w fun e w' => e = .returned (.string (exX k)) ∧ Below w.heap.size w w' := by
 have hnl : nl k ≤ 1000000 := Nat.le_trans (nl_le 1 k (by omega)) (by omega)
 have P1 := fun (v : World) (a : Option Addr) (c : Nat) (p : IsWords v (.slice a (nl k) c) (natOf k)) => ref_print p (wd_natOf _) hnl k (val_natOf _)
 have O := fun (v : World) => ref_of (k : Int) v (by omega) (by omega)
 rw [Int.toNat_natCast] at O
 unfold exX
 unfold Ans at O
 rcases Nat.eq_zero_or_pos k with rfl | h0
 ·rw [decOf_zero]
  clear P1 O hnl hk
  go_enter Tryz.func26, Tryz.ntmps26
  go_wp2
  go_ret
  exact ⟨rfl, Below.refl _ _⟩
 ·have p0 : ¬ (k : Int) ≤ 0 := by omega
  have W0 : IntKind.u64.wrap (k : Int) = (k : Int) := by simp [IntKind.wrap, IntKind.bits, IntKind.signed]; omega
  clear hnl hk h0
  go_enter Tryz.func26, Tryz.ntmps26
  go_wp2_with (first
   | (go_at_call 52; (with_reducible refine Calls.mono (O _) ?_); rintro e w1 ⟨a1, c1, rfl, o1⟩)
   | (go_at_call 44; (with_reducible refine Calls.mono (P1 _ _ _ o1.words) ?_); rintro e w2 ⟨rfl, b2⟩))
  go_ret
  exact ⟨rfl, below_more o1.below b2⟩
section
variable {w : World} {a : Option Addr} {n c : Nat} {ms : List Mn} {i : Nat} {m : Mn} {ua : Option Addr} {un uc : Nat} {va : Option Addr} {vn vc : Nat}
theorem neg_walk {x : Int} {k : Nat} (h0 : -1000 ≤ x) (h1 : x < 0) (hk : x.natAbs = k) : wrap64 (-x) = (k : Int) ∧ wrap64 (0 - x) = (k : Int) := by
 have e1 : -x = (k : Int) := by omega
 have e2 : 0 - x = (k : Int) := by omega
 rw [e1, e2]
 exact ⟨wrap_smalls (by omega) (by omega), wrap_smalls (by omega) (by omega)⟩
end
end
section
open Go.RowKit Go.Lib
section
variable {w : World} {a : Option Addr} {n c : Nat} {ms : List Mn} {i : Nat} {m : Mn} {ua : Option Addr} {un uc : Nat} {va : Option Addr} {vn vc : Nat}
theorem node_pow (h : IsN w a n ms) (hm : ms[i]? = some m) (hu : m.2.1 = .slice ua un uc) (hv : m.2.2 = .slice va vn vc) (hk : m.1.kind = 7) (he : m.1.exp.natAbs ≤ 20) {x : ByteArray} (hx : x.size ≤ 60000)
  (CA : ∀ u, Below w.heap.size w u → Calls Tryz.prog 25 #[.slice a n c, .int .i64 m.1.a, .int .i64 5] u (AnsB u x)) :
  Calls Tryz.prog 11 #[.slice a n c, .int .i64 i] w (AnsB w (x ++ (⟨#[94]⟩ ++ ((if m.1.exp < 0 then ⟨#[45]⟩ else ⟨#[]⟩) ++ exX m.1.exp.natAbs)))) := by
 have hi : i < n := by rw [← h.1]; exact (List.getElem?_eq_some_iff.1 hm).1
 obtain ⟨g, o, rfl, c0, c1, c2, c3, c4, c5, c6, c7⟩ := h.node hm
 rw [hu] at c6
 rw [hv] at c7
 rw [hk] at c0
 have TXQ := ref_dtext m.1.exp.natAbs (by omega)
 have hT0 : (exX m.1.exp.natAbs).size ≤ 90 := (numbR (exp_text _ he).2).2
 generalize m.1.a = A at *
 generalize m.1.b = C at *
 generalize m.1.exp = X at *
 generalize m.1.name = Y at *
 generalize m.1.neg = G at *
 have k1 : (i : Int) < n := by omega
 generalize hK : X.natAbs = K at *
 generalize exX K = T at *
 have hx' : (x.size : Int) ≤ 60000 := by omega
 have hT : (T.size : Int) ≤ 90 := by omega
 have NB := BoxC.new w #[.int .i64 7, .int .i64 A, .int .i64 C, .int .i64 X, .string Y, .bool G, .slice ua un uc, .slice va vn vc] 47
 have z1 := (NB.cell 1).1
 have b0 : Below w.heap.size w (w.alloc (.cells #[.int .i64 7, .int .i64 A, .int .i64 C, .int .i64 X, .string Y, .bool G, .slice ua un uc, .slice va vn vc] 47)) := (Below.refl _ w).alloc (Nat.le_refl _) _
 unfold AnsB at CA ⊢
 rcases Int.lt_or_le X 0 with h1 | h1
 ·rw [if_pos h1]
  have WN : Hid (wrap64 (-X) = (K : Int) ∧ wrap64 (0 - X) = (K : Int)) := neg_walk (by omega) h1 hK
  clear h hm hu hv hk hi hx hT0 hK he
  obtain ⟨wn, wn'⟩ := WN.out
  go_enter Tryz.func11, Tryz.ntmps11
  go_wp2_with (first
   | (go_at_call 25; (with_reducible refine Calls.mono (CA _ b0) ?_); rintro e w1 ⟨rfl, d1⟩; have z3 := ((NB.more d1).cell 3).1)
   | (go_at_call 26; (with_reducible refine Calls.mono (TXQ _) ?_); rintro e w2 ⟨rfl, d2⟩))
  go_ret
  exact ⟨by simp only [ByteArray.append_assoc]; rfl, below_more b0 (below_more d1 d2)⟩
 ·rw [if_neg (by omega), show (⟨#[]⟩ : ByteArray) ++ T = T from ByteArray.empty_append]
  have eX : X = (K : Int) := by omega
  subst eX
  have p0 : ¬ (K : Int) < 0 := by omega
  clear h hm hu hv hk hi hx hT0 hK he
  go_enter Tryz.func11, Tryz.ntmps11
  go_wp2_with (first
   | (go_at_call 25; (with_reducible refine Calls.mono (CA _ b0) ?_); rintro e w1 ⟨rfl, d1⟩; have z3 := ((NB.more d1).cell 3).1)
   | (go_at_call 26; (with_reducible refine Calls.mono (TXQ _) ?_); rintro e w2 ⟨rfl, d2⟩))
  go_ret
  exact ⟨by simp only [ByteArray.append_assoc]; rfl, below_more b0 (below_more d1 d2)⟩
theorem node_two_2 (h : IsN w a n ms) (hm : ms[i]? = some m) (hu : m.2.1 = .slice ua un uc) (hv : m.2.2 = .slice va vn vc) (hk : m.1.kind = 2) {x y : ByteArray} (hx : x.size ≤ 60000) (hy : y.size ≤ 60000)
  (CA : ∀ u, Below w.heap.size w u → Calls Tryz.prog 25 #[.slice a n c, .int .i64 m.1.a, .int .i64 1] u (AnsB u x))
  (CB : ∀ u, Below w.heap.size w u → Calls Tryz.prog 25 #[.slice a n c, .int .i64 m.1.b, .int .i64 2] u (AnsB u y)) :
  Calls Tryz.prog 11 #[.slice a n c, .int .i64 i] w (AnsB w (x ++ (opS 2 ++ y))) := by
 have hi : i < n := by rw [← h.1]; exact (List.getElem?_eq_some_iff.1 hm).1
 obtain ⟨g, o, rfl, c0, c1, c2, c3, c4, c5, c6, c7⟩ := h.node hm
 rw [hu] at c6
 rw [hv] at c7
 rw [hk] at c0
 generalize m.1.a = A at *
 generalize m.1.b = C at *
 generalize m.1.exp = X at *
 generalize m.1.name = Y at *
 generalize m.1.neg = G at *
 have k1 : (i : Int) < n := by omega
 have hx' : (x.size : Int) ≤ 60000 := by omega
 have hy' : (y.size : Int) ≤ 60000 := by omega
 have b1 : Below w.heap.size w (w.alloc (.cells #[.int .i64 2, .int .i64 A, .int .i64 C, .int .i64 X, .string Y, .bool G, .slice ua un uc, .slice va vn vc] 47)) := (Below.refl _ w).alloc (Nat.le_refl _) _
 have b0 : Below w.heap.size w ((w.alloc (.cells #[.int .i64 2, .int .i64 A, .int .i64 C, .int .i64 X, .string Y, .bool G, .slice ua un uc, .slice va vn vc] 47)).alloc (.cells #[.string ⟨#[32, 43, 32]⟩, .string ⟨#[32, 45, 32]⟩, .string ⟨#[32, 42, 32]⟩, .string ⟨#[32, 47, 32]⟩] 9)) := b1.alloc (by simp) _
 have NB := (BoxC.new w #[.int .i64 2, .int .i64 A, .int .i64 C, .int .i64 X, .string Y, .bool G, .slice ua un uc, .slice va vn vc] 47).alloc (.cells #[.string ⟨#[32, 43, 32]⟩, .string ⟨#[32, 45, 32]⟩, .string ⟨#[32, 42, 32]⟩, .string ⟨#[32, 47, 32]⟩] 9)
 have SG := BoxC.new1 w (.cells #[.int .i64 2, .int .i64 A, .int .i64 C, .int .i64 X, .string Y, .bool G, .slice ua un uc, .slice va vn vc] 47) #[.string ⟨#[32, 43, 32]⟩, .string ⟨#[32, 45, 32]⟩, .string ⟨#[32, 42, 32]⟩, .string ⟨#[32, 47, 32]⟩] 9
 have wi : IntKind.i64.wrap 0 = 0 := by decide
 have wb : IntKind.i64.wrap 2 = 2 := by decide
 have BD := ref_binds 2
 rw [show bindK 2 = 1 from rfl] at BD
 unfold AnsB at CA CB ⊢
 clear h hm hu hv hk hi hx hy b1
 go_enter Tryz.func11, Tryz.ntmps11
 go_wp2_with (go_at_call 27; (with_reducible refine Calls.mono (BD _) ?_); rintro e w1 ⟨rfl, d1⟩)
 replace NB := NB.more d1
 replace SG := SG.more d1
 replace b0 := below_more b0 d1
 clear d1 BD
 generalize w1 = V at *
 have SO : ∀ u, Below V.heap.size V u → u.cell? ⟨w.heap.size, 0, none⟩ = some (.int .i64 2) ∧ u.cell? ⟨w.heap.size, 1, none⟩ = some (.int .i64 A) ∧ u.cell? ⟨w.heap.size, 2, none⟩ = some (.int .i64 C) ∧ u.cell? ⟨w.heap.size + 1, 0, none⟩ = some (.string ⟨#[32, 43, 32]⟩) := fun u hu => ⟨((NB.more hu).cell 0).1, ((NB.more hu).cell 1).1, ((NB.more hu).cell 2).1, ((SG.more hu).cell 0).1⟩
 have fz1 : (9223372036854775807 < x.size + 3) = False := eq_false (by omega)
 have fz2 : (9223372036854775807 < x.size + 3 + y.size) = False := eq_false (by omega)
 have bs : Below V.heap.size V V.drew := (Below.refl _ _).drew
 have HB : Hid (Below w.heap.size w V) := b0
 clear NB SG b0
 go_region_held3 (fun u => u.cell? ⟨w.heap.size, 0, none⟩ = some (.int .i64 2) ∧ u.cell? ⟨w.heap.size, 1, none⟩ = some (.int .i64 A) ∧ u.cell? ⟨w.heap.size, 2, none⟩ = some (.int .i64 C) ∧ u.cell? ⟨w.heap.size + 1, 0, none⟩ = some (.string ⟨#[32, 43, 32]⟩)) (exact SO _ bs) (first
  | (go_at_call 25; (with_reducible refine Calls.mono (CB _ (below_more HB.out bs)) ?_); rintro e w2 ⟨rfl, d2⟩; replace bs := below_more bs d2)
  | (go_at_call 25; (with_reducible refine Calls.mono (CA _ (below_more HB.out bs)) ?_); rintro e w1 ⟨rfl, dA⟩; replace bs := below_more bs dA))
 all_goals go_wp2
 all_goals go_ret
 all_goals exact ⟨by simp only [opS, ByteArray.append_assoc]; rfl, below_more HB.out bs⟩
theorem node_two_3 (h : IsN w a n ms) (hm : ms[i]? = some m) (hu : m.2.1 = .slice ua un uc) (hv : m.2.2 = .slice va vn vc) (hk : m.1.kind = 3) {x y : ByteArray} (hx : x.size ≤ 60000) (hy : y.size ≤ 60000)
  (CA : ∀ u, Below w.heap.size w u → Calls Tryz.prog 25 #[.slice a n c, .int .i64 m.1.a, .int .i64 1] u (AnsB u x))
  (CB : ∀ u, Below w.heap.size w u → Calls Tryz.prog 25 #[.slice a n c, .int .i64 m.1.b, .int .i64 2] u (AnsB u y)) :
  Calls Tryz.prog 11 #[.slice a n c, .int .i64 i] w (AnsB w (x ++ (opS 3 ++ y))) := by
 have hi : i < n := by rw [← h.1]; exact (List.getElem?_eq_some_iff.1 hm).1
 obtain ⟨g, o, rfl, c0, c1, c2, c3, c4, c5, c6, c7⟩ := h.node hm
 rw [hu] at c6
 rw [hv] at c7
 rw [hk] at c0
 generalize m.1.a = A at *
 generalize m.1.b = C at *
 generalize m.1.exp = X at *
 generalize m.1.name = Y at *
 generalize m.1.neg = G at *
 have k1 : (i : Int) < n := by omega
 have hx' : (x.size : Int) ≤ 60000 := by omega
 have hy' : (y.size : Int) ≤ 60000 := by omega
 have b1 : Below w.heap.size w (w.alloc (.cells #[.int .i64 3, .int .i64 A, .int .i64 C, .int .i64 X, .string Y, .bool G, .slice ua un uc, .slice va vn vc] 47)) := (Below.refl _ w).alloc (Nat.le_refl _) _
 have b0 : Below w.heap.size w ((w.alloc (.cells #[.int .i64 3, .int .i64 A, .int .i64 C, .int .i64 X, .string Y, .bool G, .slice ua un uc, .slice va vn vc] 47)).alloc (.cells #[.string ⟨#[32, 43, 32]⟩, .string ⟨#[32, 45, 32]⟩, .string ⟨#[32, 42, 32]⟩, .string ⟨#[32, 47, 32]⟩] 9)) := b1.alloc (by simp) _
 have NB := (BoxC.new w #[.int .i64 3, .int .i64 A, .int .i64 C, .int .i64 X, .string Y, .bool G, .slice ua un uc, .slice va vn vc] 47).alloc (.cells #[.string ⟨#[32, 43, 32]⟩, .string ⟨#[32, 45, 32]⟩, .string ⟨#[32, 42, 32]⟩, .string ⟨#[32, 47, 32]⟩] 9)
 have SG := BoxC.new1 w (.cells #[.int .i64 3, .int .i64 A, .int .i64 C, .int .i64 X, .string Y, .bool G, .slice ua un uc, .slice va vn vc] 47) #[.string ⟨#[32, 43, 32]⟩, .string ⟨#[32, 45, 32]⟩, .string ⟨#[32, 42, 32]⟩, .string ⟨#[32, 47, 32]⟩] 9
 have wi : IntKind.i64.wrap 1 = 1 := by decide
 have wb : IntKind.i64.wrap 2 = 2 := by decide
 have BD := ref_binds 3
 rw [show bindK 3 = 1 from rfl] at BD
 unfold AnsB at CA CB ⊢
 clear h hm hu hv hk hi hx hy b1
 go_enter Tryz.func11, Tryz.ntmps11
 go_wp2_with (go_at_call 27; (with_reducible refine Calls.mono (BD _) ?_); rintro e w1 ⟨rfl, d1⟩)
 replace NB := NB.more d1
 replace SG := SG.more d1
 replace b0 := below_more b0 d1
 clear d1 BD
 generalize w1 = V at *
 have SO : ∀ u, Below V.heap.size V u → u.cell? ⟨w.heap.size, 0, none⟩ = some (.int .i64 3) ∧ u.cell? ⟨w.heap.size, 1, none⟩ = some (.int .i64 A) ∧ u.cell? ⟨w.heap.size, 2, none⟩ = some (.int .i64 C) ∧ u.cell? ⟨w.heap.size + 1, 1, none⟩ = some (.string ⟨#[32, 45, 32]⟩) := fun u hu => ⟨((NB.more hu).cell 0).1, ((NB.more hu).cell 1).1, ((NB.more hu).cell 2).1, ((SG.more hu).cell 1).1⟩
 have fz1 : (9223372036854775807 < x.size + 3) = False := eq_false (by omega)
 have fz2 : (9223372036854775807 < x.size + 3 + y.size) = False := eq_false (by omega)
 have bs : Below V.heap.size V V.drew := (Below.refl _ _).drew
 have HB : Hid (Below w.heap.size w V) := b0
 clear NB SG b0
 go_region_held3 (fun u => u.cell? ⟨w.heap.size, 0, none⟩ = some (.int .i64 3) ∧ u.cell? ⟨w.heap.size, 1, none⟩ = some (.int .i64 A) ∧ u.cell? ⟨w.heap.size, 2, none⟩ = some (.int .i64 C) ∧ u.cell? ⟨w.heap.size + 1, 1, none⟩ = some (.string ⟨#[32, 45, 32]⟩)) (exact SO _ bs) (first
  | (go_at_call 25; (with_reducible refine Calls.mono (CB _ (below_more HB.out bs)) ?_); rintro e w2 ⟨rfl, d2⟩; replace bs := below_more bs d2)
  | (go_at_call 25; (with_reducible refine Calls.mono (CA _ (below_more HB.out bs)) ?_); rintro e w1 ⟨rfl, dA⟩; replace bs := below_more bs dA))
 all_goals go_wp2
 all_goals go_ret
 all_goals exact ⟨by simp only [opS, ByteArray.append_assoc]; rfl, below_more HB.out bs⟩
theorem node_two_4 (h : IsN w a n ms) (hm : ms[i]? = some m) (hu : m.2.1 = .slice ua un uc) (hv : m.2.2 = .slice va vn vc) (hk : m.1.kind = 4) {x y : ByteArray} (hx : x.size ≤ 60000) (hy : y.size ≤ 60000)
  (CA : ∀ u, Below w.heap.size w u → Calls Tryz.prog 25 #[.slice a n c, .int .i64 m.1.a, .int .i64 2] u (AnsB u x))
  (CB : ∀ u, Below w.heap.size w u → Calls Tryz.prog 25 #[.slice a n c, .int .i64 m.1.b, .int .i64 3] u (AnsB u y)) :
  Calls Tryz.prog 11 #[.slice a n c, .int .i64 i] w (AnsB w (x ++ (opS 4 ++ y))) := by
 have hi : i < n := by rw [← h.1]; exact (List.getElem?_eq_some_iff.1 hm).1
 obtain ⟨g, o, rfl, c0, c1, c2, c3, c4, c5, c6, c7⟩ := h.node hm
 rw [hu] at c6
 rw [hv] at c7
 rw [hk] at c0
 generalize m.1.a = A at *
 generalize m.1.b = C at *
 generalize m.1.exp = X at *
 generalize m.1.name = Y at *
 generalize m.1.neg = G at *
 have k1 : (i : Int) < n := by omega
 have hx' : (x.size : Int) ≤ 60000 := by omega
 have hy' : (y.size : Int) ≤ 60000 := by omega
 have b1 : Below w.heap.size w (w.alloc (.cells #[.int .i64 4, .int .i64 A, .int .i64 C, .int .i64 X, .string Y, .bool G, .slice ua un uc, .slice va vn vc] 47)) := (Below.refl _ w).alloc (Nat.le_refl _) _
 have b0 : Below w.heap.size w ((w.alloc (.cells #[.int .i64 4, .int .i64 A, .int .i64 C, .int .i64 X, .string Y, .bool G, .slice ua un uc, .slice va vn vc] 47)).alloc (.cells #[.string ⟨#[32, 43, 32]⟩, .string ⟨#[32, 45, 32]⟩, .string ⟨#[32, 42, 32]⟩, .string ⟨#[32, 47, 32]⟩] 9)) := b1.alloc (by simp) _
 have NB := (BoxC.new w #[.int .i64 4, .int .i64 A, .int .i64 C, .int .i64 X, .string Y, .bool G, .slice ua un uc, .slice va vn vc] 47).alloc (.cells #[.string ⟨#[32, 43, 32]⟩, .string ⟨#[32, 45, 32]⟩, .string ⟨#[32, 42, 32]⟩, .string ⟨#[32, 47, 32]⟩] 9)
 have SG := BoxC.new1 w (.cells #[.int .i64 4, .int .i64 A, .int .i64 C, .int .i64 X, .string Y, .bool G, .slice ua un uc, .slice va vn vc] 47) #[.string ⟨#[32, 43, 32]⟩, .string ⟨#[32, 45, 32]⟩, .string ⟨#[32, 42, 32]⟩, .string ⟨#[32, 47, 32]⟩] 9
 have wi : IntKind.i64.wrap 2 = 2 := by decide
 have wb : IntKind.i64.wrap 3 = 3 := by decide
 have BD := ref_binds 4
 rw [show bindK 4 = 2 from rfl] at BD
 unfold AnsB at CA CB ⊢
 clear h hm hu hv hk hi hx hy b1
 go_enter Tryz.func11, Tryz.ntmps11
 go_wp2_with (go_at_call 27; (with_reducible refine Calls.mono (BD _) ?_); rintro e w1 ⟨rfl, d1⟩)
 replace NB := NB.more d1
 replace SG := SG.more d1
 replace b0 := below_more b0 d1
 clear d1 BD
 generalize w1 = V at *
 have SO : ∀ u, Below V.heap.size V u → u.cell? ⟨w.heap.size, 0, none⟩ = some (.int .i64 4) ∧ u.cell? ⟨w.heap.size, 1, none⟩ = some (.int .i64 A) ∧ u.cell? ⟨w.heap.size, 2, none⟩ = some (.int .i64 C) ∧ u.cell? ⟨w.heap.size + 1, 2, none⟩ = some (.string ⟨#[32, 42, 32]⟩) := fun u hu => ⟨((NB.more hu).cell 0).1, ((NB.more hu).cell 1).1, ((NB.more hu).cell 2).1, ((SG.more hu).cell 2).1⟩
 have fz1 : (9223372036854775807 < x.size + 3) = False := eq_false (by omega)
 have fz2 : (9223372036854775807 < x.size + 3 + y.size) = False := eq_false (by omega)
 have bs : Below V.heap.size V V.drew := (Below.refl _ _).drew
 have HB : Hid (Below w.heap.size w V) := b0
 clear NB SG b0
 go_region_held3 (fun u => u.cell? ⟨w.heap.size, 0, none⟩ = some (.int .i64 4) ∧ u.cell? ⟨w.heap.size, 1, none⟩ = some (.int .i64 A) ∧ u.cell? ⟨w.heap.size, 2, none⟩ = some (.int .i64 C) ∧ u.cell? ⟨w.heap.size + 1, 2, none⟩ = some (.string ⟨#[32, 42, 32]⟩)) (exact SO _ bs) (first
  | (go_at_call 25; (with_reducible refine Calls.mono (CB _ (below_more HB.out bs)) ?_); rintro e w2 ⟨rfl, d2⟩; replace bs := below_more bs d2)
  | (go_at_call 25; (with_reducible refine Calls.mono (CA _ (below_more HB.out bs)) ?_); rintro e w1 ⟨rfl, dA⟩; replace bs := below_more bs dA))
 all_goals go_wp2
 all_goals go_ret
 all_goals exact ⟨by simp only [opS, ByteArray.append_assoc]; rfl, below_more HB.out bs⟩
theorem node_two_5 (h : IsN w a n ms) (hm : ms[i]? = some m) (hu : m.2.1 = .slice ua un uc) (hv : m.2.2 = .slice va vn vc) (hk : m.1.kind = 5) {x y : ByteArray} (hx : x.size ≤ 60000) (hy : y.size ≤ 60000)
  (CA : ∀ u, Below w.heap.size w u → Calls Tryz.prog 25 #[.slice a n c, .int .i64 m.1.a, .int .i64 2] u (AnsB u x))
  (CB : ∀ u, Below w.heap.size w u → Calls Tryz.prog 25 #[.slice a n c, .int .i64 m.1.b, .int .i64 3] u (AnsB u y)) :
  Calls Tryz.prog 11 #[.slice a n c, .int .i64 i] w (AnsB w (x ++ (opS 5 ++ y))) := by
 have hi : i < n := by rw [← h.1]; exact (List.getElem?_eq_some_iff.1 hm).1
 obtain ⟨g, o, rfl, c0, c1, c2, c3, c4, c5, c6, c7⟩ := h.node hm
 rw [hu] at c6
 rw [hv] at c7
 rw [hk] at c0
 generalize m.1.a = A at *
 generalize m.1.b = C at *
 generalize m.1.exp = X at *
 generalize m.1.name = Y at *
 generalize m.1.neg = G at *
 have k1 : (i : Int) < n := by omega
 have hx' : (x.size : Int) ≤ 60000 := by omega
 have hy' : (y.size : Int) ≤ 60000 := by omega
 have b1 : Below w.heap.size w (w.alloc (.cells #[.int .i64 5, .int .i64 A, .int .i64 C, .int .i64 X, .string Y, .bool G, .slice ua un uc, .slice va vn vc] 47)) := (Below.refl _ w).alloc (Nat.le_refl _) _
 have b0 : Below w.heap.size w ((w.alloc (.cells #[.int .i64 5, .int .i64 A, .int .i64 C, .int .i64 X, .string Y, .bool G, .slice ua un uc, .slice va vn vc] 47)).alloc (.cells #[.string ⟨#[32, 43, 32]⟩, .string ⟨#[32, 45, 32]⟩, .string ⟨#[32, 42, 32]⟩, .string ⟨#[32, 47, 32]⟩] 9)) := b1.alloc (by simp) _
 have NB := (BoxC.new w #[.int .i64 5, .int .i64 A, .int .i64 C, .int .i64 X, .string Y, .bool G, .slice ua un uc, .slice va vn vc] 47).alloc (.cells #[.string ⟨#[32, 43, 32]⟩, .string ⟨#[32, 45, 32]⟩, .string ⟨#[32, 42, 32]⟩, .string ⟨#[32, 47, 32]⟩] 9)
 have SG := BoxC.new1 w (.cells #[.int .i64 5, .int .i64 A, .int .i64 C, .int .i64 X, .string Y, .bool G, .slice ua un uc, .slice va vn vc] 47) #[.string ⟨#[32, 43, 32]⟩, .string ⟨#[32, 45, 32]⟩, .string ⟨#[32, 42, 32]⟩, .string ⟨#[32, 47, 32]⟩] 9
 have wi : IntKind.i64.wrap 3 = 3 := by decide
 have wb : IntKind.i64.wrap 3 = 3 := by decide
 have BD := ref_binds 5
 rw [show bindK 5 = 2 from rfl] at BD
 unfold AnsB at CA CB ⊢
 clear h hm hu hv hk hi hx hy b1
 go_enter Tryz.func11, Tryz.ntmps11
 go_wp2_with (go_at_call 27; (with_reducible refine Calls.mono (BD _) ?_); rintro e w1 ⟨rfl, d1⟩)
 replace NB := NB.more d1
 replace SG := SG.more d1
 replace b0 := below_more b0 d1
 clear d1 BD
 generalize w1 = V at *
 have SO : ∀ u, Below V.heap.size V u → u.cell? ⟨w.heap.size, 0, none⟩ = some (.int .i64 5) ∧ u.cell? ⟨w.heap.size, 1, none⟩ = some (.int .i64 A) ∧ u.cell? ⟨w.heap.size, 2, none⟩ = some (.int .i64 C) ∧ u.cell? ⟨w.heap.size + 1, 3, none⟩ = some (.string ⟨#[32, 47, 32]⟩) := fun u hu => ⟨((NB.more hu).cell 0).1, ((NB.more hu).cell 1).1, ((NB.more hu).cell 2).1, ((SG.more hu).cell 3).1⟩
 have fz1 : (9223372036854775807 < x.size + 3) = False := eq_false (by omega)
 have fz2 : (9223372036854775807 < x.size + 3 + y.size) = False := eq_false (by omega)
 have bs : Below V.heap.size V V.drew := (Below.refl _ _).drew
 have HB : Hid (Below w.heap.size w V) := b0
 clear NB SG b0
 go_region_held3 (fun u => u.cell? ⟨w.heap.size, 0, none⟩ = some (.int .i64 5) ∧ u.cell? ⟨w.heap.size, 1, none⟩ = some (.int .i64 A) ∧ u.cell? ⟨w.heap.size, 2, none⟩ = some (.int .i64 C) ∧ u.cell? ⟨w.heap.size + 1, 3, none⟩ = some (.string ⟨#[32, 47, 32]⟩)) (exact SO _ bs) (first
  | (go_at_call 25; (with_reducible refine Calls.mono (CB _ (below_more HB.out bs)) ?_); rintro e w2 ⟨rfl, d2⟩; replace bs := below_more bs d2)
  | (go_at_call 25; (with_reducible refine Calls.mono (CA _ (below_more HB.out bs)) ?_); rintro e w1 ⟨rfl, dA⟩; replace bs := below_more bs dA))
 all_goals go_wp2
 all_goals go_ret
 all_goals exact ⟨by simp only [opS, ByteArray.append_assoc]; rfl, below_more HB.out bs⟩
theorem ref_part (h : IsN w a n ms) (hm : ms[i]? = some m) (least : Nat) {x : ByteArray} (hx : x.size ≤ 60000)
  (CN : Calls Tryz.prog 11 #[.slice a n c, .int .i64 i] w (AnsB w x)) :
  Calls Tryz.prog 25 #[.slice a n c, .int .i64 i, .int .i64 least] w (AnsB w (if bindK m.1.kind < least then ⟨#[40]⟩ ++ (x ++ ⟨#[41]⟩) else x)) := by
 have hi : i < n := by rw [← h.1]; exact (List.getElem?_eq_some_iff.1 hm).1
 have ND := fun (v : World) (b : Below w.heap.size w v) => (h.below b).node hm
 obtain ⟨g, o, rfl, -⟩ := h.node hm
 have CE : ∀ v, Below w.heap.size w v → v.cell? ⟨g, o + i * 8, none⟩ = some (.int .i64 m.1.kind) := fun v b => by
  obtain ⟨g', o', e, c0, -⟩ := ND v b
  injection e with e
  injection e with e1 e2
  subst e1; subst e2
  exact c0
 have BD := ref_binds m.1.kind
 have hr := bindK_range m.1.kind
 generalize m.1.kind = K at *
 generalize bindK K = B at *
 have k1 : (i : Int) < n := by omega
 have hx' : (x.size : Int) ≤ 60000 := by omega
 unfold AnsB at CN ⊢
 clear h hm hi ND hx
 rcases Nat.lt_or_ge B least with hb | hb
 ·rw [if_pos hb]
  have hb' : (B : Int) < least := by omega
  clear hr hb
  go_enter Tryz.func25, Tryz.ntmps25
  go_wp2_with (first
   | (go_at_call 11; (with_reducible refine Calls.mono CN ?_); rintro e w1 ⟨rfl, d1⟩; have c0 := CE _ d1)
   | (go_at_call 27; (with_reducible refine Calls.mono (BD _) ?_); rintro e w2 ⟨rfl, d2⟩))
  go_ret
  exact ⟨by simp only [ByteArray.append_assoc]; rfl, below_more d1 d2⟩
 ·rw [if_neg (by omega)]
  have hb' : ¬ (B : Int) < least := by omega
  clear hr hb
  go_enter Tryz.func25, Tryz.ntmps25
  go_wp2_with (first
   | (go_at_call 11; (with_reducible refine Calls.mono CN ?_); rintro e w1 ⟨rfl, d1⟩; have c0 := CE _ d1)
   | (go_at_call 27; (with_reducible refine Calls.mono (BD _) ?_); rintro e w2 ⟨rfl, d2⟩))
  go_ret
  exact ⟨rfl, below_more d1 d2⟩
end
end
section
open Go.RowKit Go.Lib
/-- A NODE's TEXT. -/
theorem ref_node {w : World} {a : Option Addr} {n c : Nat} {ms : List Mn} (h : FillM w a n ms) {b i : Nat} (hs : Seg ((ms.map (·.1)).map Nw.nd) b i) : ∀ u, Below w.heap.size w u → Calls Tryz.prog 11 #[.slice a n c, .int .i64 i] u (AnsB u (nodeX ((ms.map (·.1)).map Nw.nd) i)) := by
 have hlen : (ms.map (·.1)).length = n := by rw [List.length_map]; exact h.all.1
 have hfew := h.few
 have sl : ∀ m ∈ ms, ∃ ua un uc va vn vc, m.2.1 = .slice ua un uc ∧ m.2.2 = .slice va vn vc := fun m hm => by
  obtain ⟨⟨x, y, e1, -⟩, ⟨x', y', e2, -⟩, -⟩ := h.nodes m hm
  exact ⟨_, _, _, _, _, _, e1, e2⟩
 have szN : ∀ {b i : Nat}, Seg ((ms.map (·.1)).map Nw.nd) b i → (nodeX ((ms.map (·.1)).map Nw.nd) i).size ≤ 60000 := fun s => by
  have := nodeX_size h.fill s
  omega
 have szP : ∀ {b i : Nat} {x : Nd}, Seg ((ms.map (·.1)).map Nw.nd) b i → ((ms.map (·.1)).map Nw.nd)[i]? = some x → ∀ least, (partX ((ms.map (·.1)).map Nw.nd) i x.kind least).size ≤ 60000 := fun s hx least => by
  have := partX_size h.fill s hx least
  omega
 have part : ∀ {b i : Nat} {m : Mn}, Seg ((ms.map (·.1)).map Nw.nd) b i → ms[i]? = some m → (∀ u, Below w.heap.size w u → Calls Tryz.prog 11 #[.slice a n c, .int .i64 i] u (AnsB u (nodeX ((ms.map (·.1)).map Nw.nd) i))) → ∀ least : Nat, ∀ u, Below w.heap.size w u → Calls Tryz.prog 25 #[.slice a n c, .int .i64 i, .int .i64 least] u (AnsB u (partX ((ms.map (·.1)).map Nw.nd) i m.1.kind least)) := fun s hm hc least u hu => ref_part (h.all.below hu) hm least (szN s) (hc u hu)
 refine (hs (fun b i => Seg ((ms.map (·.1)).map Nw.nd) b i ∧ ∀ u, Below w.heap.size w u → Calls Tryz.prog 11 #[.slice a n c, .int .i64 i] u (AnsB u (nodeX ((ms.map (·.1)).map Nw.nd) i))) ?_ ?_ ?_).2
 ·intro i x hx hk
  refine ⟨Seg.leaf hx hk, fun u hu => ?_⟩
  have hx0 := hx
  obtain ⟨m, hm, rfl⟩ := nd_at hx
  obtain ⟨ua, un, uc, va, vn, vc, hu1, hv1⟩ := sl m (List.mem_of_getElem? hm)
  rcases hk with k | k
  ·rw [nodeX_ref hx0 k]
   exact node_name (h.all.below hu) hm hu1 hv1 k
  ·rw [nodeX_num hx0 k]
   exact node_num (h.all.below hu) hm hu1 hv1 k ((h.below hu).num (List.mem_of_getElem? hm) (by decide) k hu1 hv1) rfl
 ·intro b i x ⟨s, ih⟩ hx hk ha
  refine ⟨s.one hx hk ha, fun u hu => ?_⟩
  have hx0 := hx
  obtain ⟨m, hm, rfl⟩ := nd_at hx
  obtain ⟨ua, un, uc, va, vn, vc, hu1, hv1⟩ := sl m (List.mem_of_getElem? hm)
  obtain ⟨y, hy⟩ : ∃ y, ((ms.map (·.1)).map Nw.nd)[i]? = some y := ⟨_, List.getElem?_eq_getElem s.le.2⟩
  have hy0 := hy
  obtain ⟨m', hm', rfl⟩ := nd_at hy
  have ha' : m.1.a = (i : Int) := ha
  have P := part s hm' ih
  rcases hk with k | k
  ·rw [nodeX_neg s hx0 hy0 k ha]
   exact node_neg (h.all.below hu) hm hu1 hv1 k (szP s hy0 3) (fun v hv => by rw [ha']; exact P 3 v (below_more hu hv))
  ·rw [nodeX_pow s hx0 hy0 k ha]
   exact node_pow (h.all.below hu) hm hu1 hv1 k (fill_pow (h.fill m.1 (List.mem_map_of_mem (List.mem_of_getElem? hm))) k) (szP s hy0 5) (fun v hv => by rw [ha']; exact P 5 v (below_more hu hv))
 ·intro b j i x ⟨s, ih⟩ ⟨t, ih2⟩ hx h2 h5 ha hb
  refine ⟨s.two t hx h2 h5 ha hb, fun u hu => ?_⟩
  have hx0 := hx
  obtain ⟨m, hm, rfl⟩ := nd_at hx
  obtain ⟨ua, un, uc, va, vn, vc, hu1, hv1⟩ := sl m (List.mem_of_getElem? hm)
  obtain ⟨y, hy⟩ : ∃ y, ((ms.map (·.1)).map Nw.nd)[j]? = some y := ⟨_, List.getElem?_eq_getElem s.le.2⟩
  obtain ⟨z, hz⟩ : ∃ z, ((ms.map (·.1)).map Nw.nd)[i]? = some z := ⟨_, List.getElem?_eq_getElem t.le.2⟩
  have hy0 := hy
  have hz0 := hz
  obtain ⟨m1, hm1, rfl⟩ := nd_at hy
  obtain ⟨m2, hm2, rfl⟩ := nd_at hz
  have ha' : m.1.a = (j : Int) := ha
  have hb' : m.1.b = (i : Int) := hb
  have P := part s hm1 ih
  have Q := part t hm2 ih2
  rw [nodeX_two s t hx0 hy0 hz0 h2 h5 ha hb]
  have hk4 : m.1.kind = 2 ∨ m.1.kind = 3 ∨ m.1.kind = 4 ∨ m.1.kind = 5 := by
   have : 2 ≤ m.1.kind := h2
   have : m.1.kind ≤ 5 := h5
   omega
  rcases hk4 with k | k | k | k
  ·rw [show m.1.nd.kind = 2 from k]
   exact node_two_2 (h.all.below hu) hm hu1 hv1 k (szP s hy0 1) (szP t hz0 2) (fun v hv => by rw [ha']; exact P 1 v (below_more hu hv)) (fun v hv => by rw [hb']; exact Q 2 v (below_more hu hv))
  ·rw [show m.1.nd.kind = 3 from k]
   exact node_two_3 (h.all.below hu) hm hu1 hv1 k (szP s hy0 1) (szP t hz0 2) (fun v hv => by rw [ha']; exact P 1 v (below_more hu hv)) (fun v hv => by rw [hb']; exact Q 2 v (below_more hu hv))
  ·rw [show m.1.nd.kind = 4 from k]
   exact node_two_4 (h.all.below hu) hm hu1 hv1 k (szP s hy0 2) (szP t hz0 3) (fun v hv => by rw [ha']; exact P 2 v (below_more hu hv)) (fun v hv => by rw [hb']; exact Q 3 v (below_more hu hv))
  ·rw [show m.1.nd.kind = 5 from k]
   exact node_two_5 (h.all.below hu) hm hu1 hv1 k (szP s hy0 2) (szP t hz0 3) (fun v hv => by rw [ha']; exact P 2 v (below_more hu hv)) (fun v hv => by rw [hb']; exact Q 3 v (below_more hu hv))
end
section
open Go.RowKit Go.Lib
theorem mrX_app (l : List ByteArray) (x : ByteArray) : mrX (l ++ [x]) = mrX l ++ (⟨#[44, 32]⟩ ++ x) := by
 induction l with
 | nil =>
  show ⟨#[44, 32]⟩ ++ (x ++ ⟨#[]⟩) = ⟨#[]⟩ ++ (⟨#[44, 32]⟩ ++ x)
  rw [show x ++ (⟨#[]⟩ : ByteArray) = x from ByteArray.append_empty]
  exact ByteArray.empty_append.symm
 | cons y l ih => show ⟨#[44, 32]⟩ ++ (y ++ mrX (l ++ [x])) = (⟨#[44, 32]⟩ ++ (y ++ mrX l)) ++ _; rw [ih]; simp only [ByteArray.append_assoc]
theorem nmX_step {xs : List ByteArray} {i : Nat} {x : ByteArray} (h : xs[i]? = some x) : nmX (xs.take (i + 1)) = if 0 < i then nmX (xs.take i) ++ ⟨#[44, 32]⟩ ++ x else x := by
 rw [List.take_add_one, h, Option.toList_some]
 cases xs with
 | nil => exact absurd h (by simp)
 | cons y l =>
  cases i with
  | zero =>
   obtain rfl : y = x := by simpa using h
   rw [if_neg (by omega)]
   show nmX [y] = y
   unfold nmX mrX
   exact ByteArray.append_empty
  | succ i =>
   rw [if_pos (Nat.succ_pos _), List.take_succ_cons, List.cons_append]
   show y ++ mrX (l.take i ++ [x]) = (y ++ mrX (l.take i)) ++ ⟨#[44, 32]⟩ ++ x
   rw [mrX_app]
   simp only [ByteArray.append_assoc]
theorem ref_snames {w : World} {a : Option Addr} {n c : Nat} {xs : List ByteArray} (h : IsS w a n xs) (hn : n ≤ 1000) (hz : ∀ x ∈ xs, x.size ≤ 40) : Calls Tryz.prog 31 #[.slice a n c] w (AnsB w (nmX xs)) := by
 have HH : Hid (IsS w a n xs ∧ n ≤ 1000 ∧ xs.length = n ∧ ∀ x ∈ xs, x.size ≤ 40) := ⟨h, hn, h.1, hz⟩
 unfold AnsB
 clear h hn hz
 go_enter Tryz.func31, Tryz.ntmps31
 go_wp2
 go_loopg [3, 4] n (fun g s3 s4 v => ∃ (t : Nat) (y : ByteArray), s3 = .string y ∧ s4 = .int .i64 t ∧ t + g = n ∧ y = nmX (xs.take t) ∧ Below w.heap.size w v)
 case atStart => exact ⟨0, ⟨#[]⟩, rfl, rfl, by omega, rfl, Below.refl _ _⟩
 case round =>
  obtain ⟨t, y, rfl, rfl, hg, hy, bw⟩ := hrel
  obtain ⟨hI, hn, hl, hz⟩ := HH.out
  rcases Nat.lt_or_ge t n with ht | ht
  ·have p1 : (t : Int) < n := by omega
   obtain ⟨g1, o1, rfl, c1⟩ := (hI.below bw).2.resolve_left (by omega)
   obtain ⟨x, hx⟩ : ∃ x, xs[t]? = some x := ⟨_, List.getElem?_eq_getElem (by omega)⟩
   have hcx := c1 t x hx
   have WT : Hid (wrap64 ((t : Int) + 1) = (t : Int) + 1) := wrap_smalls (by omega) (by omega)
   have hxz : (x.size : Int) ≤ 40 := by have := hz x (List.mem_of_getElem? hx); omega
   have hyz : (y.size : Int) ≤ 42000 := by
    have := nmX_size (xs := xs.take t) (fun z hz' => hz z (List.mem_of_mem_take hz'))
    rw [List.length_take] at this
    rw [hy]; omega
   have st := nmX_step hx
   rw [← hy] at st
   by_cases h0 : t = 0
   ·have p0 : ¬ 0 < (t : Int) := by omega
    rw [if_neg (by omega)] at st
    have hy0 : y = ⟨#[]⟩ := by rw [hy, h0]; rfl
    have HQ : Hid (t + 1 + (n - (t + 1)) = n ∧ n - (t + 1) < gk ∧ y ++ x = nmX (xs.take (t + 1))) := ⟨by omega, by omega, by rw [st, hy0]; exact ByteArray.empty_append⟩
    clear hg hI hn hl hz c1 hx hy ht HH h0 st hy0
    have wT := WT.out
    go_wp2
    obtain ⟨j1, j2, j3⟩ := HQ.out
    go_roundg (n - (t + 1))
    case measure => exact j2
    case rel => exact ⟨t + 1, _, rfl, by first | rfl | (rw [wT]; rfl), j1, j3, bw⟩
   ·have p0 : 0 < (t : Int) := by omega
    rw [if_pos (by omega)] at st
    have HQ : Hid (t + 1 + (n - (t + 1)) = n ∧ n - (t + 1) < gk ∧ y ++ ⟨#[44, 32]⟩ ++ x = nmX (xs.take (t + 1))) := ⟨by omega, by omega, st.symm⟩
    clear hg hI hn hl hz c1 hx hy ht HH h0 st
    have wT := WT.out
    go_wp2
    obtain ⟨j1, j2, j3⟩ := HQ.out
    go_roundg (n - (t + 1))
    case measure => exact j2
    case rel => exact ⟨t + 1, _, rfl, by first | rfl | (rw [wT]; rfl), j1, j3, bw⟩
  ·have p1 : ¬ (t : Int) < n := by omega
   have e : y = nmX xs := by rw [hy, List.take_of_length_le (by omega)]
   clear hg hI hn hl hz hy ht HH
   go_wp2
   go_ret
   exact ⟨rfl, bw⟩
end
end Go.Proofs.YtaeladkcmpdkhaaGreatDoor
