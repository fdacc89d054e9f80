/-
  Texts of mine in build order. No conditions of their own.
-/
import Derived.Shelf.LaysM
import Derived.Shelf.Strings.OnBuilder
import Derived.Shelf.Strconv.Itoa3
import Derived.Test.YtaeladkcmpdkhaaGreatDoorPack26
set_option maxHeartbeats 16000000
namespace Go.Proofs.YtaeladkcmpdkhaaGreatDoor
section
open Go.RowKit Go.Lib
theorem show_tight (k : Int) (w : World) : Calls Tryz.prog 57 #[.int .i64 k] w fun e w' => e = .returned (.int .i64 ((bindK k : Int) - 1)) ∧ Below w.heap.size w w' := by
 by_cases h2 : k = 2
 ·subst h2
  go_enter Tryz.func57, Tryz.ntmps57
  go_wp2
  go_ret
  exact ⟨rfl, Below.refl _ _⟩
 by_cases h3 : k = 3
 ·subst h3
  go_enter Tryz.func57, Tryz.ntmps57
  go_wp2
  go_ret
  exact ⟨rfl, Below.refl _ _⟩
 by_cases h4 : k = 4
 ·subst h4
  go_enter Tryz.func57, Tryz.ntmps57
  go_wp2
  go_ret
  exact ⟨rfl, Below.refl _ _⟩
 by_cases h5 : k = 5
 ·subst h5
  go_enter Tryz.func57, Tryz.ntmps57
  go_wp2
  go_ret
  exact ⟨rfl, Below.refl _ _⟩
 by_cases h6 : k = 6
 ·subst h6
  go_enter Tryz.func57, Tryz.ntmps57
  go_wp2
  go_ret
  exact ⟨rfl, Below.refl _ _⟩
 by_cases h7 : k = 7
 ·subst h7
  go_enter Tryz.func57, Tryz.ntmps57
  go_wp2
  go_ret
  exact ⟨rfl, Below.refl _ _⟩
 have hb : bindK k = 5 := by unfold bindK; rw [if_neg (by omega), if_neg (by omega), if_neg h6, if_neg h7]
 rw [hb]
 clear hb
 go_enter Tryz.func57, Tryz.ntmps57
 go_wp2
 go_ret
 exact ⟨rfl, Below.refl _ _⟩
theorem show_between (k : Int) (w : World) : Calls Tryz.prog 60 #[.int .i64 k] w (AnsB w (opB k)) := by
 by_cases h2 : k = 2
 ·subst h2
  go_enter Tryz.func60, Tryz.ntmps60
  go_wp2
  go_ret
  exact ⟨rfl, Below.refl _ _⟩
 by_cases h3 : k = 3
 ·subst h3
  go_enter Tryz.func60, Tryz.ntmps60
  go_wp2
  go_ret
  exact ⟨rfl, Below.refl _ _⟩
 by_cases h4 : k = 4
 ·subst h4
  go_enter Tryz.func60, Tryz.ntmps60
  go_wp2
  go_ret
  exact ⟨rfl, Below.refl _ _⟩
 have hb : opB k = ⟨#[47]⟩ := by unfold opB; rw [if_neg h2, if_neg h3, if_neg h4]
 rw [hb]
 clear hb
 go_enter Tryz.func60, Tryz.ntmps60
 go_wp2
 go_ret
 exact ⟨rfl, Below.refl _ _⟩
theorem show_line (x y : ByteArray) (hx : x.size ≤ 90) (hy : y.size ≤ 60000) (w : World) : Calls Tryz.prog 28 #[.string x, .string y] w (AnsB w (x ++ (⟨#[32]⟩ ++ (y ++ ⟨#[59, 10]⟩)))) := by
 have hx' : (x.size : Int) ≤ 90 := by omega
 have hy' : (y.size : Int) ≤ 60000 := by omega
 clear hx hy
 go_enter Tryz.func28, Tryz.ntmps28
 go_wp2
 go_ret
 exact ⟨by simp only [ByteArray.append_assoc]; rfl, Below.refl _ _⟩
def Clo (w : World) (p q : Nat) (a : Option Addr) (n c : Nat) : Prop := BoxC w p #[.slice a n c] 24 ∧ BoxC w q #[(.func (.func 56) #[] #[.pointer (some ⟨p, 0, none⟩), .pointer (some ⟨q, 0, none⟩)])] 98
theorem Clo.more {w w' : World} {p q : Nat} {a : Option Addr} {n c : Nat} (h : Clo w p q a n c) (hb : Below w.heap.size w w') : Clo w' p q a n c := ⟨h.1.more hb, h.2.more hb⟩
theorem Clo.cells {w : World} {p q : Nat} {a : Option Addr} {n c : Nat} (h : Clo w p q a n c) : w.cell? ⟨p, 0, none⟩ = some (.slice a n c) ∧ w.cell? ⟨q, 0, none⟩ = some (.func (.func 56) #[] #[.pointer (some ⟨p, 0, none⟩), .pointer (some ⟨q, 0, none⟩)]) := ⟨(h.1.cell 0).1, (h.2.cell 0).1⟩
section
variable {w : World} {a : Option Addr} {n c : Nat} {ms : List Mn} {i : Nat} {m : Mn} {ua : Option Addr} {un uc : Nat} {va : Option Addr} {vn vc : Nat} {p q : Nat}
theorem clo_wrap (h : IsN w a n ms) (hm : ms[i]? = some m) (hu : m.2.1 = .slice ua un uc) (hv : m.2.2 = .slice va vn vc) (HC : Clo w p q a n c) (M : Int) (hM : (bindK m.1.kind : Int) - 1 < M) {x : ByteArray} (hx : x.size ≤ 60000)
  (CS : ∀ u, Below w.heap.size w u → Calls Tryz.prog 56 #[.int .i64 i, .int .i64 ((bindK m.1.kind : Int) - 1), .pointer (some ⟨p, 0, none⟩), .pointer (some ⟨q, 0, none⟩)] u (AnsB u x)) :
  Calls Tryz.prog 56 #[.int .i64 i, .int .i64 M, .pointer (some ⟨p, 0, none⟩), .pointer (some ⟨q, 0, none⟩)] w (AnsB w (⟨#[40]⟩ ++ (x ++ ⟨#[41]⟩))) := by
 have hi : i < n := by rw [← h.1]; exact (List.getElem?_eq_some_iff.1 hm).1
 obtain ⟨g, o, rfl, c0, c1, c2, c3, c4, c5, c6, c7⟩ := h.node hm
 rw [hu] at c6
 rw [hv] at c7
 have BD := show_tight m.1.kind
 generalize m.1.kind = K at *
 generalize (bindK K : Int) - 1 = T at *
 generalize m.1.a = A at *
 generalize m.1.b = C at *
 generalize m.1.exp = X at *
 generalize m.1.name = Y at *
 generalize m.1.neg = G at *
 have k1 : (i : Int) < n := by omega
 have hx' : (x.size : Int) ≤ 60000 := by omega
 have NB := BoxC.new w #[.int .i64 K, .int .i64 A, .int .i64 C, .int .i64 X, .string Y, .bool G, .slice ua un uc, .slice va vn vc] 47
 have b0 : Below w.heap.size w (w.alloc (.cells #[.int .i64 K, .int .i64 A, .int .i64 C, .int .i64 X, .string Y, .bool G, .slice ua un uc, .slice va vn vc] 47)) := (Below.refl _ w).alloc (Nat.le_refl _) _
 have z0 := (NB.cell 0).1
 obtain ⟨y0, y1⟩ := HC.cells
 have HC' := fun (u : World) (b : Below w.heap.size w u) => (HC.more b).cells
 unfold AnsB at CS ⊢
 clear h hm hu hv hi hx
 go_enter Tryz.func56, Tryz.ntmps56
 go_wp2_with (first
  | (go_at_call 57; (with_reducible refine Calls.mono (BD _) ?_); rintro e w1 ⟨rfl, d1⟩; obtain ⟨x0, x1⟩ := HC' _ (below_more b0 d1))
  | (go_at_call 56; (with_reducible refine Calls.mono (CS _ (below_more b0 d1)) ?_); rintro e w2 ⟨rfl, d2⟩))
 go_ret
 exact ⟨by simp only [ByteArray.append_assoc]; rfl, below_more b0 (below_more d1 d2)⟩
theorem clo_name (h : IsN w a n ms) (hm : ms[i]? = some m) (hu : m.2.1 = .slice ua un uc) (hv : m.2.2 = .slice va vn vc) (HC : Clo w p q a n c) (hk : m.1.kind = 0) (M : Int) (hM : M ≤ 4) :
  Calls Tryz.prog 56 #[.int .i64 i, .int .i64 M, .pointer (some ⟨p, 0, none⟩), .pointer (some ⟨q, 0, none⟩)] w (AnsB w m.1.name) := by
 have hi : i < n := by rw [← h.1]; exact (List.getElem?_eq_some_iff.1 hm).1
 obtain ⟨g, o, rfl, c0, c1, c2, c3, c4, c5, c6, c7⟩ := h.node hm
 rw [hu] at c6
 rw [hv] at c7
 rw [hk] at c0
 generalize m.1.a = A at *
 generalize m.1.b = C at *
 generalize m.1.exp = X at *
 generalize m.1.name = Y at *
 generalize m.1.neg = G at *
 have k1 : (i : Int) < n := by omega
 have hM' : ¬ (4 : Int) < M := by omega
 have BD := show_tight 0
 rw [show (bindK 0 : Int) - 1 = 4 from rfl] at BD
 have NB := BoxC.new w #[.int .i64 0, .int .i64 A, .int .i64 C, .int .i64 X, .string Y, .bool G, .slice ua un uc, .slice va vn vc] 47
 have b0 : Below w.heap.size w (w.alloc (.cells #[.int .i64 0, .int .i64 A, .int .i64 C, .int .i64 X, .string Y, .bool G, .slice ua un uc, .slice va vn vc] 47)) := (Below.refl _ w).alloc (Nat.le_refl _) _
 have z0 := (NB.cell 0).1
 obtain ⟨y0, y1⟩ := HC.cells
 have HC' := fun (u : World) (b : Below w.heap.size w u) => (HC.more b).cells
 unfold AnsB
 clear h hm hu hv hk hi hM
 go_enter Tryz.func56, Tryz.ntmps56
 go_wp2_with (first
  | (go_at_call 57; (with_reducible refine Calls.mono (BD _) ?_); rintro e w1 ⟨rfl, d1⟩; obtain ⟨x0, x1⟩ := HC' _ (below_more b0 d1); have u0 := ((NB.more d1).cell 0).1; have u4 := ((NB.more d1).cell 4).1))
 go_ret
 exact ⟨rfl, below_more b0 d1⟩
theorem clo_num (h : IsN w a n ms) (hm : ms[i]? = some m) (hu : m.2.1 = .slice ua un uc) (hv : m.2.2 = .slice va vn vc) (HC : Clo w p q a n c) (hk : m.1.kind = 1) (M : Int) (hM : M ≤ 4) {r : Rat} (hq : RR 10000 w m.1.neg ua un uc va vn vc r) {y : ByteArray} (hy : ⟨(decR r).toArray⟩ = y) :
  Calls Tryz.prog 56 #[.int .i64 i, .int .i64 M, .pointer (some ⟨p, 0, none⟩), .pointer (some ⟨q, 0, none⟩)] w (AnsB w y) := by
 have hi : i < n := by rw [← h.1]; exact (List.getElem?_eq_some_iff.1 hm).1
 obtain ⟨g, o, rfl, c0, c1, c2, c3, c4, c5, c6, c7⟩ := h.node hm
 rw [hu] at c6
 rw [hv] at c7
 rw [hk] at c0
 have PR := fun (v : World) (d : Below w.heap.size w v) => rat_print (hq.below d)
 rw [hy] at PR
 generalize m.1.a = A at *
 generalize m.1.b = C at *
 generalize m.1.exp = X at *
 generalize m.1.name = Y at *
 generalize m.1.neg = G at *
 have k1 : (i : Int) < n := by omega
 have hM' : ¬ (4 : Int) < M := by omega
 have BD := show_tight 1
 rw [show (bindK 1 : Int) - 1 = 4 from rfl] at BD
 have NB := BoxC.new w #[.int .i64 1, .int .i64 A, .int .i64 C, .int .i64 X, .string Y, .bool G, .slice ua un uc, .slice va vn vc] 47
 have b0 : Below w.heap.size w (w.alloc (.cells #[.int .i64 1, .int .i64 A, .int .i64 C, .int .i64 X, .string Y, .bool G, .slice ua un uc, .slice va vn vc] 47)) := (Below.refl _ w).alloc (Nat.le_refl _) _
 have z0 := (NB.cell 0).1
 obtain ⟨y0, y1⟩ := HC.cells
 have HC' := fun (u : World) (b : Below w.heap.size w u) => (HC.more b).cells
 unfold AnsB
 clear h hm hu hv hk hi hM hq hy
 go_enter Tryz.func56, Tryz.ntmps56
 go_wp2_with (first
  | (go_at_call 57; (with_reducible refine Calls.mono (BD _) ?_); rintro e w1 ⟨rfl, d1⟩; obtain ⟨x0, x1⟩ := HC' _ (below_more b0 d1); have u0 := ((NB.more d1).cell 0).1; have u5 := ((NB.more d1).cell 5).1; have u6 := ((NB.more d1).cell 6).1; have u7 := ((NB.more d1).cell 7).1)
  | (go_at_call 58; (with_reducible refine Calls.mono (PR _ (below_more b0 d1)) ?_); rintro e w2 ⟨rfl, d2⟩))
 go_ret
 exact ⟨rfl, below_more b0 (below_more d1 d2)⟩
theorem clo_neg (h : IsN w a n ms) (hm : ms[i]? = some m) (hu : m.2.1 = .slice ua un uc) (hv : m.2.2 = .slice va vn vc) (HC : Clo w p q a n c) (hk : m.1.kind = 6) (M : Int) (hM : M ≤ 2) {x : ByteArray} (hx : x.size ≤ 60000)
  (CA : ∀ u, Below w.heap.size w u → Calls Tryz.prog 56 #[.int .i64 m.1.a, .int .i64 2, .pointer (some ⟨p, 0, none⟩), .pointer (some ⟨q, 0, none⟩)] u (AnsB u x)) :
  Calls Tryz.prog 56 #[.int .i64 i, .int .i64 M, .pointer (some ⟨p, 0, none⟩), .pointer (some ⟨q, 0, none⟩)] w (AnsB w (⟨#[45]⟩ ++ x)) := by
 have hi : i < n := by rw [← h.1]; exact (List.getElem?_eq_some_iff.1 hm).1
 obtain ⟨g, o, rfl, c0, c1, c2, c3, c4, c5, c6, c7⟩ := h.node hm
 rw [hu] at c6
 rw [hv] at c7
 rw [hk] at c0
 generalize m.1.a = A at *
 generalize m.1.b = C at *
 generalize m.1.exp = X at *
 generalize m.1.name = Y at *
 generalize m.1.neg = G at *
 have k1 : (i : Int) < n := by omega
 have hx' : (x.size : Int) ≤ 60000 := by omega
 unfold AnsB at CA
 have hM' : ¬ (2 : Int) < M := by omega
 have BD := show_tight 6
 rw [show (bindK 6 : Int) - 1 = 2 from rfl] at BD
 have NB := BoxC.new w #[.int .i64 6, .int .i64 A, .int .i64 C, .int .i64 X, .string Y, .bool G, .slice ua un uc, .slice va vn vc] 47
 have b0 : Below w.heap.size w (w.alloc (.cells #[.int .i64 6, .int .i64 A, .int .i64 C, .int .i64 X, .string Y, .bool G, .slice ua un uc, .slice va vn vc] 47)) := (Below.refl _ w).alloc (Nat.le_refl _) _
 have z0 := (NB.cell 0).1
 obtain ⟨y0, y1⟩ := HC.cells
 have HC' := fun (u : World) (b : Below w.heap.size w u) => (HC.more b).cells
 unfold AnsB
 clear h hm hu hv hk hi hM hx
 go_enter Tryz.func56, Tryz.ntmps56
 go_wp2_with (first
  | (go_at_call 57; (with_reducible refine Calls.mono (BD _) ?_); rintro e w1 ⟨rfl, d1⟩; obtain ⟨x0, x1⟩ := HC' _ (below_more b0 d1); have u0 := ((NB.more d1).cell 0).1; have u1 := ((NB.more d1).cell 1).1)
  | (go_at_call 56; (with_reducible refine Calls.mono (CA _ (below_more b0 d1)) ?_); rintro e w2 ⟨rfl, d2⟩))
 go_ret
 exact ⟨rfl, below_more b0 (below_more d1 d2)⟩
theorem clo_pow (h : IsN w a n ms) (hm : ms[i]? = some m) (hu : m.2.1 = .slice ua un uc) (hv : m.2.2 = .slice va vn vc) (HC : Clo w p q a n c) (hk : m.1.kind = 7) (M : Int) (hM : M ≤ 3) {x z : ByteArray} (hx : x.size ≤ 60000) (hz : z.size ≤ 90)
  (IT : ∀ u, Below w.heap.size w u → Calls Tryz.prog 59 #[.int .i64 m.1.exp] u (AnsB u z))
  (CA : ∀ u, Below w.heap.size w u → Calls Tryz.prog 56 #[.int .i64 m.1.a, .int .i64 4, .pointer (some ⟨p, 0, none⟩), .pointer (some ⟨q, 0, none⟩)] u (AnsB u x)) :
  Calls Tryz.prog 56 #[.int .i64 i, .int .i64 M, .pointer (some ⟨p, 0, none⟩), .pointer (some ⟨q, 0, none⟩)] w (AnsB w (x ++ (⟨#[94]⟩ ++ z))) := by
 have hi : i < n := by rw [← h.1]; exact (List.getElem?_eq_some_iff.1 hm).1
 obtain ⟨g, o, rfl, c0, c1, c2, c3, c4, c5, c6, c7⟩ := h.node hm
 rw [hu] at c6
 rw [hv] at c7
 rw [hk] at c0
 generalize m.1.a = A at *
 generalize m.1.b = C at *
 generalize m.1.exp = X at *
 generalize m.1.name = Y at *
 generalize m.1.neg = G at *
 have k1 : (i : Int) < n := by omega
 have hx' : (x.size : Int) ≤ 60000 := by omega
 have hz' : (z.size : Int) ≤ 90 := by omega
 unfold AnsB at IT
 have hM' : ¬ (3 : Int) < M := by omega
 have BD := show_tight 7
 rw [show (bindK 7 : Int) - 1 = 3 from rfl] at BD
 have NB := BoxC.new w #[.int .i64 7, .int .i64 A, .int .i64 C, .int .i64 X, .string Y, .bool G, .slice ua un uc, .slice va vn vc] 47
 have b0 : Below w.heap.size w (w.alloc (.cells #[.int .i64 7, .int .i64 A, .int .i64 C, .int .i64 X, .string Y, .bool G, .slice ua un uc, .slice va vn vc] 47)) := (Below.refl _ w).alloc (Nat.le_refl _) _
 have z0 := (NB.cell 0).1
 obtain ⟨y0, y1⟩ := HC.cells
 unfold AnsB at CA ⊢
 clear h hm hu hv hk hi hM
 go_enter Tryz.func56, Tryz.ntmps56
 go_wp2_with (go_at_call 57; (with_reducible refine Calls.mono (BD _) ?_); rintro e w1 ⟨rfl, d1⟩; have u0 := ((NB.more d1).cell 0).1)
 replace NB := NB.more d1
 replace HC := HC.more (below_more b0 d1)
 replace b0 := below_more b0 d1
 clear d1 BD z0 y0 y1 u0
 generalize w1 = V at *
 have SO : ∀ u, Below V.heap.size V u → u.cell? ⟨q, 0, none⟩ = some (.func (.func 56) #[] #[.pointer (some ⟨p, 0, none⟩), .pointer (some ⟨q, 0, none⟩)]) ∧ u.cell? ⟨w.heap.size, 1, none⟩ = some (.int .i64 A) ∧ u.cell? ⟨w.heap.size, 3, none⟩ = some (.int .i64 X) := fun u hu => ⟨(HC.more hu).cells.2, ((NB.more hu).cell 1).1, ((NB.more hu).cell 3).1⟩
 have fz0 : (9223372036854775807 < x.size + 1) = False := eq_false (by omega)
 have fz1 : (9223372036854775807 < x.size + 1 + z.size) = False := eq_false (by omega)
 have bs : Below V.heap.size V V.drew := (Below.refl _ _).drew
 have HB : Hid (Below w.heap.size w V) := b0
 clear NB HC b0
 go_region_held3 (fun u => u.cell? ⟨q, 0, none⟩ = some (.func (.func 56) #[] #[.pointer (some ⟨p, 0, none⟩), .pointer (some ⟨q, 0, none⟩)]) ∧ u.cell? ⟨w.heap.size, 1, none⟩ = some (.int .i64 A) ∧ u.cell? ⟨w.heap.size, 3, none⟩ = some (.int .i64 X)) (exact SO _ bs) (first
  | (go_at_call 56; (with_reducible refine Calls.mono (CA _ (below_more HB.out bs)) ?_); rintro e w2 ⟨rfl, d2⟩; replace bs := below_more bs d2)
  | (go_at_call 59; (with_reducible refine Calls.mono (IT _ (below_more HB.out bs)) ?_); rintro e w3 ⟨rfl, d3⟩; replace bs := below_more bs d3))
 all_goals go_wp2
 all_goals go_ret
 all_goals exact ⟨by simp only [ByteArray.append_assoc]; rfl, below_more HB.out bs⟩
theorem clo_two_2 (h : IsN w a n ms) (hm : ms[i]? = some m) (hu : m.2.1 = .slice ua un uc) (hv : m.2.2 = .slice va vn vc) (HC : Clo w p q a n c) (hk : m.1.kind = 2) (M : Int) (hM : M ≤ 0) {x y : ByteArray} (hx : x.size ≤ 60000) (hy : y.size ≤ 60000)
  (CA : ∀ u, Below w.heap.size w u → Calls Tryz.prog 56 #[.int .i64 m.1.a, .int .i64 0, .pointer (some ⟨p, 0, none⟩), .pointer (some ⟨q, 0, none⟩)] u (AnsB u x))
  (CB : ∀ u, Below w.heap.size w u → Calls Tryz.prog 56 #[.int .i64 m.1.b, .int .i64 1, .pointer (some ⟨p, 0, none⟩), .pointer (some ⟨q, 0, none⟩)] u (AnsB u y)) :
  Calls Tryz.prog 56 #[.int .i64 i, .int .i64 M, .pointer (some ⟨p, 0, none⟩), .pointer (some ⟨q, 0, none⟩)] w (AnsB w (x ++ (opS 2 ++ y))) := by
 have hi : i < n := by rw [← h.1]; exact (List.getElem?_eq_some_iff.1 hm).1
 obtain ⟨g, o, rfl, c0, c1, c2, c3, c4, c5, c6, c7⟩ := h.node hm
 rw [hu] at c6
 rw [hv] at c7
 rw [hk] at c0
 generalize m.1.a = A at *
 generalize m.1.b = C at *
 generalize m.1.exp = X at *
 generalize m.1.name = Y at *
 generalize m.1.neg = G at *
 have k1 : (i : Int) < n := by omega
 have hx' : (x.size : Int) ≤ 60000 := by omega
 have hy' : (y.size : Int) ≤ 60000 := by omega
 have wb : IntKind.i64.wrap 1 = 1 := by decide
 have BT := show_between 2
 rw [show opB 2 = ⟨#[43]⟩ from rfl] at BT
 unfold AnsB at CB BT
 have hM' : ¬ (0 : Int) < M := by omega
 have BD := show_tight 2
 rw [show (bindK 2 : Int) - 1 = 0 from rfl] at BD
 have NB := BoxC.new w #[.int .i64 2, .int .i64 A, .int .i64 C, .int .i64 X, .string Y, .bool G, .slice ua un uc, .slice va vn vc] 47
 have b0 : Below w.heap.size w (w.alloc (.cells #[.int .i64 2, .int .i64 A, .int .i64 C, .int .i64 X, .string Y, .bool G, .slice ua un uc, .slice va vn vc] 47)) := (Below.refl _ w).alloc (Nat.le_refl _) _
 have z0 := (NB.cell 0).1
 obtain ⟨y0, y1⟩ := HC.cells
 unfold AnsB at CA ⊢
 clear h hm hu hv hk hi hM
 go_enter Tryz.func56, Tryz.ntmps56
 go_wp2_with (go_at_call 57; (with_reducible refine Calls.mono (BD _) ?_); rintro e w1 ⟨rfl, d1⟩; have u0 := ((NB.more d1).cell 0).1)
 replace NB := NB.more d1
 replace HC := HC.more (below_more b0 d1)
 replace b0 := below_more b0 d1
 clear d1 BD z0 y0 y1 u0
 generalize w1 = V at *
 have SO : ∀ u, Below V.heap.size V u → u.cell? ⟨q, 0, none⟩ = some (.func (.func 56) #[] #[.pointer (some ⟨p, 0, none⟩), .pointer (some ⟨q, 0, none⟩)]) ∧ u.cell? ⟨w.heap.size, 0, none⟩ = some (.int .i64 2) ∧ u.cell? ⟨w.heap.size, 1, none⟩ = some (.int .i64 A) ∧ u.cell? ⟨w.heap.size, 2, none⟩ = some (.int .i64 C) := fun u hu => ⟨(HC.more hu).cells.2, ((NB.more hu).cell 0).1, ((NB.more hu).cell 1).1, ((NB.more hu).cell 2).1⟩
 have fz0 : (9223372036854775807 < x.size + 1) = False := eq_false (by omega)
 have fz1 : (9223372036854775807 < x.size + 2) = False := eq_false (by omega)
 have fz2 : (9223372036854775807 < x.size + 3) = False := eq_false (by omega)
 have fz3 : (9223372036854775807 < x.size + 3 + y.size) = False := eq_false (by omega)
 have bs : Below V.heap.size V V.drew := (Below.refl _ _).drew
 have HB : Hid (Below w.heap.size w V) := b0
 clear NB HC b0
 go_region_held3 (fun u => u.cell? ⟨q, 0, none⟩ = some (.func (.func 56) #[] #[.pointer (some ⟨p, 0, none⟩), .pointer (some ⟨q, 0, none⟩)]) ∧ u.cell? ⟨w.heap.size, 0, none⟩ = some (.int .i64 2) ∧ u.cell? ⟨w.heap.size, 1, none⟩ = some (.int .i64 A) ∧ u.cell? ⟨w.heap.size, 2, none⟩ = some (.int .i64 C)) (exact SO _ bs) (first
  | (go_at_call 56; (with_reducible refine Calls.mono (CB _ (below_more HB.out bs)) ?_); rintro e w2 ⟨rfl, d2⟩; replace bs := below_more bs d2)
  | (go_at_call 56; (with_reducible refine Calls.mono (CA _ (below_more HB.out bs)) ?_); rintro e w3 ⟨rfl, d3⟩; replace bs := below_more bs d3)
  | (go_at_call 60; (with_reducible refine Calls.mono (BT _) ?_); rintro e w4 ⟨rfl, d4⟩; replace bs := below_more bs d4))
 all_goals go_wp2
 all_goals go_ret
 all_goals exact ⟨by simp only [opS, ByteArray.append_assoc]; rfl, below_more HB.out bs⟩
theorem clo_two_3 (h : IsN w a n ms) (hm : ms[i]? = some m) (hu : m.2.1 = .slice ua un uc) (hv : m.2.2 = .slice va vn vc) (HC : Clo w p q a n c) (hk : m.1.kind = 3) (M : Int) (hM : M ≤ 0) {x y : ByteArray} (hx : x.size ≤ 60000) (hy : y.size ≤ 60000)
  (CA : ∀ u, Below w.heap.size w u → Calls Tryz.prog 56 #[.int .i64 m.1.a, .int .i64 0, .pointer (some ⟨p, 0, none⟩), .pointer (some ⟨q, 0, none⟩)] u (AnsB u x))
  (CB : ∀ u, Below w.heap.size w u → Calls Tryz.prog 56 #[.int .i64 m.1.b, .int .i64 1, .pointer (some ⟨p, 0, none⟩), .pointer (some ⟨q, 0, none⟩)] u (AnsB u y)) :
  Calls Tryz.prog 56 #[.int .i64 i, .int .i64 M, .pointer (some ⟨p, 0, none⟩), .pointer (some ⟨q, 0, none⟩)] w (AnsB w (x ++ (opS 3 ++ y))) := by
 have hi : i < n := by rw [← h.1]; exact (List.getElem?_eq_some_iff.1 hm).1
 obtain ⟨g, o, rfl, c0, c1, c2, c3, c4, c5, c6, c7⟩ := h.node hm
 rw [hu] at c6
 rw [hv] at c7
 rw [hk] at c0
 generalize m.1.a = A at *
 generalize m.1.b = C at *
 generalize m.1.exp = X at *
 generalize m.1.name = Y at *
 generalize m.1.neg = G at *
 have k1 : (i : Int) < n := by omega
 have hx' : (x.size : Int) ≤ 60000 := by omega
 have hy' : (y.size : Int) ≤ 60000 := by omega
 have wb : IntKind.i64.wrap 1 = 1 := by decide
 have BT := show_between 3
 rw [show opB 3 = ⟨#[45]⟩ from rfl] at BT
 unfold AnsB at CB BT
 have hM' : ¬ (0 : Int) < M := by omega
 have BD := show_tight 3
 rw [show (bindK 3 : Int) - 1 = 0 from rfl] at BD
 have NB := BoxC.new w #[.int .i64 3, .int .i64 A, .int .i64 C, .int .i64 X, .string Y, .bool G, .slice ua un uc, .slice va vn vc] 47
 have b0 : Below w.heap.size w (w.alloc (.cells #[.int .i64 3, .int .i64 A, .int .i64 C, .int .i64 X, .string Y, .bool G, .slice ua un uc, .slice va vn vc] 47)) := (Below.refl _ w).alloc (Nat.le_refl _) _
 have z0 := (NB.cell 0).1
 obtain ⟨y0, y1⟩ := HC.cells
 unfold AnsB at CA ⊢
 clear h hm hu hv hk hi hM
 go_enter Tryz.func56, Tryz.ntmps56
 go_wp2_with (go_at_call 57; (with_reducible refine Calls.mono (BD _) ?_); rintro e w1 ⟨rfl, d1⟩; have u0 := ((NB.more d1).cell 0).1)
 replace NB := NB.more d1
 replace HC := HC.more (below_more b0 d1)
 replace b0 := below_more b0 d1
 clear d1 BD z0 y0 y1 u0
 generalize w1 = V at *
 have SO : ∀ u, Below V.heap.size V u → u.cell? ⟨q, 0, none⟩ = some (.func (.func 56) #[] #[.pointer (some ⟨p, 0, none⟩), .pointer (some ⟨q, 0, none⟩)]) ∧ u.cell? ⟨w.heap.size, 0, none⟩ = some (.int .i64 3) ∧ u.cell? ⟨w.heap.size, 1, none⟩ = some (.int .i64 A) ∧ u.cell? ⟨w.heap.size, 2, none⟩ = some (.int .i64 C) := fun u hu => ⟨(HC.more hu).cells.2, ((NB.more hu).cell 0).1, ((NB.more hu).cell 1).1, ((NB.more hu).cell 2).1⟩
 have fz0 : (9223372036854775807 < x.size + 1) = False := eq_false (by omega)
 have fz1 : (9223372036854775807 < x.size + 2) = False := eq_false (by omega)
 have fz2 : (9223372036854775807 < x.size + 3) = False := eq_false (by omega)
 have fz3 : (9223372036854775807 < x.size + 3 + y.size) = False := eq_false (by omega)
 have bs : Below V.heap.size V V.drew := (Below.refl _ _).drew
 have HB : Hid (Below w.heap.size w V) := b0
 clear NB HC b0
 go_region_held3 (fun u => u.cell? ⟨q, 0, none⟩ = some (.func (.func 56) #[] #[.pointer (some ⟨p, 0, none⟩), .pointer (some ⟨q, 0, none⟩)]) ∧ u.cell? ⟨w.heap.size, 0, none⟩ = some (.int .i64 3) ∧ u.cell? ⟨w.heap.size, 1, none⟩ = some (.int .i64 A) ∧ u.cell? ⟨w.heap.size, 2, none⟩ = some (.int .i64 C)) (exact SO _ bs) (first
  | (go_at_call 56; (with_reducible refine Calls.mono (CB _ (below_more HB.out bs)) ?_); rintro e w2 ⟨rfl, d2⟩; replace bs := below_more bs d2)
  | (go_at_call 56; (with_reducible refine Calls.mono (CA _ (below_more HB.out bs)) ?_); rintro e w3 ⟨rfl, d3⟩; replace bs := below_more bs d3)
  | (go_at_call 60; (with_reducible refine Calls.mono (BT _) ?_); rintro e w4 ⟨rfl, d4⟩; replace bs := below_more bs d4))
 all_goals go_wp2
 all_goals go_ret
 all_goals exact ⟨by simp only [opS, ByteArray.append_assoc]; rfl, below_more HB.out bs⟩
theorem clo_two_4 (h : IsN w a n ms) (hm : ms[i]? = some m) (hu : m.2.1 = .slice ua un uc) (hv : m.2.2 = .slice va vn vc) (HC : Clo w p q a n c) (hk : m.1.kind = 4) (M : Int) (hM : M ≤ 1) {x y : ByteArray} (hx : x.size ≤ 60000) (hy : y.size ≤ 60000)
  (CA : ∀ u, Below w.heap.size w u → Calls Tryz.prog 56 #[.int .i64 m.1.a, .int .i64 1, .pointer (some ⟨p, 0, none⟩), .pointer (some ⟨q, 0, none⟩)] u (AnsB u x))
  (CB : ∀ u, Below w.heap.size w u → Calls Tryz.prog 56 #[.int .i64 m.1.b, .int .i64 2, .pointer (some ⟨p, 0, none⟩), .pointer (some ⟨q, 0, none⟩)] u (AnsB u y)) :
  Calls Tryz.prog 56 #[.int .i64 i, .int .i64 M, .pointer (some ⟨p, 0, none⟩), .pointer (some ⟨q, 0, none⟩)] w (AnsB w (x ++ (opS 4 ++ y))) := by
 have hi : i < n := by rw [← h.1]; exact (List.getElem?_eq_some_iff.1 hm).1
 obtain ⟨g, o, rfl, c0, c1, c2, c3, c4, c5, c6, c7⟩ := h.node hm
 rw [hu] at c6
 rw [hv] at c7
 rw [hk] at c0
 generalize m.1.a = A at *
 generalize m.1.b = C at *
 generalize m.1.exp = X at *
 generalize m.1.name = Y at *
 generalize m.1.neg = G at *
 have k1 : (i : Int) < n := by omega
 have hx' : (x.size : Int) ≤ 60000 := by omega
 have hy' : (y.size : Int) ≤ 60000 := by omega
 have wb : IntKind.i64.wrap 2 = 2 := by decide
 have BT := show_between 4
 rw [show opB 4 = ⟨#[42]⟩ from rfl] at BT
 unfold AnsB at CB BT
 have hM' : ¬ (1 : Int) < M := by omega
 have BD := show_tight 4
 rw [show (bindK 4 : Int) - 1 = 1 from rfl] at BD
 have NB := BoxC.new w #[.int .i64 4, .int .i64 A, .int .i64 C, .int .i64 X, .string Y, .bool G, .slice ua un uc, .slice va vn vc] 47
 have b0 : Below w.heap.size w (w.alloc (.cells #[.int .i64 4, .int .i64 A, .int .i64 C, .int .i64 X, .string Y, .bool G, .slice ua un uc, .slice va vn vc] 47)) := (Below.refl _ w).alloc (Nat.le_refl _) _
 have z0 := (NB.cell 0).1
 obtain ⟨y0, y1⟩ := HC.cells
 unfold AnsB at CA ⊢
 clear h hm hu hv hk hi hM
 go_enter Tryz.func56, Tryz.ntmps56
 go_wp2_with (go_at_call 57; (with_reducible refine Calls.mono (BD _) ?_); rintro e w1 ⟨rfl, d1⟩; have u0 := ((NB.more d1).cell 0).1)
 replace NB := NB.more d1
 replace HC := HC.more (below_more b0 d1)
 replace b0 := below_more b0 d1
 clear d1 BD z0 y0 y1 u0
 generalize w1 = V at *
 have SO : ∀ u, Below V.heap.size V u → u.cell? ⟨q, 0, none⟩ = some (.func (.func 56) #[] #[.pointer (some ⟨p, 0, none⟩), .pointer (some ⟨q, 0, none⟩)]) ∧ u.cell? ⟨w.heap.size, 0, none⟩ = some (.int .i64 4) ∧ u.cell? ⟨w.heap.size, 1, none⟩ = some (.int .i64 A) ∧ u.cell? ⟨w.heap.size, 2, none⟩ = some (.int .i64 C) := fun u hu => ⟨(HC.more hu).cells.2, ((NB.more hu).cell 0).1, ((NB.more hu).cell 1).1, ((NB.more hu).cell 2).1⟩
 have fz0 : (9223372036854775807 < x.size + 1) = False := eq_false (by omega)
 have fz1 : (9223372036854775807 < x.size + 2) = False := eq_false (by omega)
 have fz2 : (9223372036854775807 < x.size + 3) = False := eq_false (by omega)
 have fz3 : (9223372036854775807 < x.size + 3 + y.size) = False := eq_false (by omega)
 have bs : Below V.heap.size V V.drew := (Below.refl _ _).drew
 have HB : Hid (Below w.heap.size w V) := b0
 clear NB HC b0
 go_region_held3 (fun u => u.cell? ⟨q, 0, none⟩ = some (.func (.func 56) #[] #[.pointer (some ⟨p, 0, none⟩), .pointer (some ⟨q, 0, none⟩)]) ∧ u.cell? ⟨w.heap.size, 0, none⟩ = some (.int .i64 4) ∧ u.cell? ⟨w.heap.size, 1, none⟩ = some (.int .i64 A) ∧ u.cell? ⟨w.heap.size, 2, none⟩ = some (.int .i64 C)) (exact SO _ bs) (first
  | (go_at_call 56; (with_reducible refine Calls.mono (CB _ (below_more HB.out bs)) ?_); rintro e w2 ⟨rfl, d2⟩; replace bs := below_more bs d2)
  | (go_at_call 56; (with_reducible refine Calls.mono (CA _ (below_more HB.out bs)) ?_); rintro e w3 ⟨rfl, d3⟩; replace bs := below_more bs d3)
  | (go_at_call 60; (with_reducible refine Calls.mono (BT _) ?_); rintro e w4 ⟨rfl, d4⟩; replace bs := below_more bs d4))
 all_goals go_wp2
 all_goals go_ret
 all_goals exact ⟨by simp only [opS, ByteArray.append_assoc]; rfl, below_more HB.out bs⟩
theorem clo_two_5 (h : IsN w a n ms) (hm : ms[i]? = some m) (hu : m.2.1 = .slice ua un uc) (hv : m.2.2 = .slice va vn vc) (HC : Clo w p q a n c) (hk : m.1.kind = 5) (M : Int) (hM : M ≤ 1) {x y : ByteArray} (hx : x.size ≤ 60000) (hy : y.size ≤ 60000)
  (CA : ∀ u, Below w.heap.size w u → Calls Tryz.prog 56 #[.int .i64 m.1.a, .int .i64 1, .pointer (some ⟨p, 0, none⟩), .pointer (some ⟨q, 0, none⟩)] u (AnsB u x))
  (CB : ∀ u, Below w.heap.size w u → Calls Tryz.prog 56 #[.int .i64 m.1.b, .int .i64 2, .pointer (some ⟨p, 0, none⟩), .pointer (some ⟨q, 0, none⟩)] u (AnsB u y)) :
  Calls Tryz.prog 56 #[.int .i64 i, .int .i64 M, .pointer (some ⟨p, 0, none⟩), .pointer (some ⟨q, 0, none⟩)] w (AnsB w (x ++ (opS 5 ++ y))) := by
 have hi : i < n := by rw [← h.1]; exact (List.getElem?_eq_some_iff.1 hm).1
 obtain ⟨g, o, rfl, c0, c1, c2, c3, c4, c5, c6, c7⟩ := h.node hm
 rw [hu] at c6
 rw [hv] at c7
 rw [hk] at c0
 generalize m.1.a = A at *
 generalize m.1.b = C at *
 generalize m.1.exp = X at *
 generalize m.1.name = Y at *
 generalize m.1.neg = G at *
 have k1 : (i : Int) < n := by omega
 have hx' : (x.size : Int) ≤ 60000 := by omega
 have hy' : (y.size : Int) ≤ 60000 := by omega
 have wb : IntKind.i64.wrap 2 = 2 := by decide
 have BT := show_between 5
 rw [show opB 5 = ⟨#[47]⟩ from rfl] at BT
 unfold AnsB at CB BT
 have hM' : ¬ (1 : Int) < M := by omega
 have BD := show_tight 5
 rw [show (bindK 5 : Int) - 1 = 1 from rfl] at BD
 have NB := BoxC.new w #[.int .i64 5, .int .i64 A, .int .i64 C, .int .i64 X, .string Y, .bool G, .slice ua un uc, .slice va vn vc] 47
 have b0 : Below w.heap.size w (w.alloc (.cells #[.int .i64 5, .int .i64 A, .int .i64 C, .int .i64 X, .string Y, .bool G, .slice ua un uc, .slice va vn vc] 47)) := (Below.refl _ w).alloc (Nat.le_refl _) _
 have z0 := (NB.cell 0).1
 obtain ⟨y0, y1⟩ := HC.cells
 unfold AnsB at CA ⊢
 clear h hm hu hv hk hi hM
 go_enter Tryz.func56, Tryz.ntmps56
 go_wp2_with (go_at_call 57; (with_reducible refine Calls.mono (BD _) ?_); rintro e w1 ⟨rfl, d1⟩; have u0 := ((NB.more d1).cell 0).1)
 replace NB := NB.more d1
 replace HC := HC.more (below_more b0 d1)
 replace b0 := below_more b0 d1
 clear d1 BD z0 y0 y1 u0
 generalize w1 = V at *
 have SO : ∀ u, Below V.heap.size V u → u.cell? ⟨q, 0, none⟩ = some (.func (.func 56) #[] #[.pointer (some ⟨p, 0, none⟩), .pointer (some ⟨q, 0, none⟩)]) ∧ u.cell? ⟨w.heap.size, 0, none⟩ = some (.int .i64 5) ∧ u.cell? ⟨w.heap.size, 1, none⟩ = some (.int .i64 A) ∧ u.cell? ⟨w.heap.size, 2, none⟩ = some (.int .i64 C) := fun u hu => ⟨(HC.more hu).cells.2, ((NB.more hu).cell 0).1, ((NB.more hu).cell 1).1, ((NB.more hu).cell 2).1⟩
 have fz0 : (9223372036854775807 < x.size + 1) = False := eq_false (by omega)
 have fz1 : (9223372036854775807 < x.size + 2) = False := eq_false (by omega)
 have fz2 : (9223372036854775807 < x.size + 3) = False := eq_false (by omega)
 have fz3 : (9223372036854775807 < x.size + 3 + y.size) = False := eq_false (by omega)
 have bs : Below V.heap.size V V.drew := (Below.refl _ _).drew
 have HB : Hid (Below w.heap.size w V) := b0
 clear NB HC b0
 go_region_held3 (fun u => u.cell? ⟨q, 0, none⟩ = some (.func (.func 56) #[] #[.pointer (some ⟨p, 0, none⟩), .pointer (some ⟨q, 0, none⟩)]) ∧ u.cell? ⟨w.heap.size, 0, none⟩ = some (.int .i64 5) ∧ u.cell? ⟨w.heap.size, 1, none⟩ = some (.int .i64 A) ∧ u.cell? ⟨w.heap.size, 2, none⟩ = some (.int .i64 C)) (exact SO _ bs) (first
  | (go_at_call 56; (with_reducible refine Calls.mono (CB _ (below_more HB.out bs)) ?_); rintro e w2 ⟨rfl, d2⟩; replace bs := below_more bs d2)
  | (go_at_call 56; (with_reducible refine Calls.mono (CA _ (below_more HB.out bs)) ?_); rintro e w3 ⟨rfl, d3⟩; replace bs := below_more bs d3)
  | (go_at_call 60; (with_reducible refine Calls.mono (BT _) ?_); rintro e w4 ⟨rfl, d4⟩; replace bs := below_more bs d4))
 all_goals go_wp2
 all_goals go_ret
 all_goals exact ⟨by simp only [opS, ByteArray.append_assoc]; rfl, below_more HB.out bs⟩
end
end
section
open Go.Shelf
def seat_joinR : Go.Shelf.Ren := ⟨fun | 156 => 29 | 165 => 53 | 166 => 54 | 169 => 55 | 240 => 80 | 241 => 81 | 276 => 109 | 277 => 110 | n => n, fun | 31 => 22 | 9 => 9 | 3 => 3 | 4 => 4 | 0 => 0 | 20 => 20 | 72 => 91 | 76 => 95 | 70 => 88 | 37 => 89 | 75 => 94 | 127 => 119 | 164 => 137 | 5 => 5 | 80 => 97 | n => n, fun | n => n⟩
theorem seat_joinL : Go.Proofs.Lays.n156 Tryz.prog seat_joinR := {
 mixed := by kernel_rfl
 f156 := Tryz.func29.trans (congrArg some (by kernel_rfl))
 f165 := Tryz.func53.trans (congrArg some (by kernel_rfl))
 f166 := Tryz.func54.trans (congrArg some (by kernel_rfl))
 f169 := Tryz.func55.trans (congrArg some (by kernel_rfl))
 f240 := Tryz.func80.trans (congrArg some (by kernel_rfl))
 f241 := Tryz.func81.trans (congrArg some (by kernel_rfl))
 f276 := Tryz.func109.trans (congrArg some (by kernel_rfl))
 f277 := Tryz.func110.trans (congrArg some (by kernel_rfl))
 t0 := Tryz.underlying0
 a0 := Tryz.isAgg0
 z0 := Tryz.sizeOf0
 v0 := Tryz.zeroValue0
 t3 := Tryz.underlying3
 a3 := Tryz.isAgg3
 z3 := Tryz.sizeOf3
 v3 := Tryz.zeroValue3
 t4 := Tryz.underlying4
 a4 := Tryz.isAgg4
 z4 := Tryz.sizeOf4
 v4 := Tryz.zeroValue4
 t9 := Tryz.underlying9
 a9 := Tryz.isAgg9
 z9 := Tryz.sizeOf9
 v9 := Tryz.zeroValue9
 t20 := Tryz.underlying20
 a20 := Tryz.isAgg20
 z20 := Tryz.sizeOf20
 v20 := Tryz.zeroValue20
 t31 := Tryz.underlying22
 a31 := Tryz.isAgg22
 z31 := Tryz.sizeOf22
 v31 := Tryz.zeroValue22
 t37 := Tryz.underlying89
 a37 := Tryz.isAgg89
 z37 := Tryz.sizeOf89
 v37 := Tryz.zeroValue89
 t70 := Tryz.underlying88
 a70 := Tryz.isAgg88
 z70 := Tryz.sizeOf88
 v70 := Tryz.zeroValue88
 t72 := Tryz.underlying91
 a72 := Tryz.isAgg91
 z72 := Tryz.sizeOf91
 v72 := Tryz.zeroValue91
 t75 := Tryz.underlying94
 a75 := Tryz.isAgg94
 z75 := Tryz.sizeOf94
 v75 := Tryz.zeroValue94
 t76 := Tryz.underlying95
 a76 := Tryz.isAgg95
 z76 := Tryz.sizeOf95
 v76 := Tryz.zeroValue95
 t127 := Tryz.underlying119
 a127 := Tryz.isAgg119
 z127 := Tryz.sizeOf119
 v127 := Tryz.zeroValue119
 t164 := Tryz.underlying137
 a164 := Tryz.isAgg137
 z164 := Tryz.sizeOf137
 v164 := Tryz.zeroValue137 }
theorem seat_joinX : Builder.Extra Tryz.prog seat_joinR := {
 sizeBuilder := by kernel_rfl
 liesBuilder := by kernel_rfl
 t5 := Tryz.underlying5
 a5 := Tryz.isAgg5
 z5 := Tryz.sizeOf5
 v5 := Tryz.zeroValue5
 infoByte := by kernel_rfl
 cellsByte := by kernel_rfl
 sizeByte := by kernel_rfl
 neB5 := by decide }
open Go.RowKit in
theorem seat_strings_Join_none (a : Option Addr) (c : Nat) (sep : ByteArray) (w : World) :
  Calls Tryz.prog 29 #[.slice a 0 c, .string sep] w fun e w' => e = .returned (.string ⟨#[]⟩) ∧ w' = w := Any.strings_Join_none seat_joinL seat_joinX a c sep w
open Go.RowKit in
theorem seat_strings_Join (bk o c : Nat) (xs : List ByteArray) (sep : ByteArray) (w : World) (hcells : ∀ (j : Nat) x, xs[j]? = some x → w.cell? ⟨bk, o + j, none⟩ = some (.string x)) (hbk : bk < w.heap.size) (hN : xs.length ≤ 140737488355328) (hcap : xs.length ≤ c) (hlen : (Lib.join (xs.map (·.data.toList)) sep.data.toList).length ≤ 140737488355328) :
  Calls Tryz.prog 29 #[.slice (some ⟨bk, o, none⟩) xs.length c, .string sep] w fun e w' => e = .returned (.string ⟨(Lib.join (xs.map (·.data.toList)) sep.data.toList).toArray⟩) ∧ Below w.heap.size w w' := Any.strings_Join seat_joinL seat_joinX bk o c xs sep w hcells hbk hN hcap hlen
def seat_itoaR : Go.Shelf.Ren := ⟨fun | 171 => 59 | 243 => 88 | 246 => 121 | 283 => 151 | 284 => 152 | 285 => 153 | 286 => 154 | 129 => 178 | 317 => 177 | 318 => 179 | 319 => 180 | 320 => 181 | 337 => 198 | 338 => 199 | n => n, fun | 3 => 3 | 9 => 9 | 2 => 2 | 4 => 4 | 171 => 177 | 0 => 0 | 53 => 87 | 37 => 89 | 5 => 5 | 173 => 180 | 212 => 203 | 51 => 85 | 20 => 20 | 213 => 204 | 46 => 144 | 232 => 241 | 233 => 242 | n => n, fun | 17 => 1 | 18 => 4 | 19 => 5 | n => n⟩
theorem seat_itoaL : Go.Proofs.LaysM.n171 Tryz.prog seat_itoaR := {
 mixed := by kernel_rfl
 f129 := Tryz.func178.trans (congrArg some (by kernel_rfl))
 f171 := Tryz.func59.trans (congrArg some (by kernel_rfl))
 f243 := Tryz.func88.trans (congrArg some (by kernel_rfl))
 f246 := Tryz.func121.trans (congrArg some (by kernel_rfl))
 f283 := Tryz.func151.trans (congrArg some (by kernel_rfl))
 f284 := Tryz.func152.trans (congrArg some (by kernel_rfl))
 f285 := Tryz.func153.trans (congrArg some (by kernel_rfl))
 f286 := Tryz.func154.trans (congrArg some (by kernel_rfl))
 f317 := Tryz.func177.trans (congrArg some (by kernel_rfl))
 f318 := Tryz.func179.trans (congrArg some (by kernel_rfl))
 f319 := Tryz.func180.trans (congrArg some (by kernel_rfl))
 f320 := Tryz.func181.trans (congrArg some (by kernel_rfl))
 f337 := Tryz.func198.trans (congrArg some (by kernel_rfl))
 f338 := Tryz.func199.trans (congrArg some (by kernel_rfl))
 t0 := Tryz.underlying0
 a0 := Tryz.isAgg0
 z0 := Tryz.sizeOf0
 v0 := Tryz.zeroValue0
 t2 := Tryz.underlying2
 a2 := Tryz.isAgg2
 z2 := Tryz.sizeOf2
 v2 := Tryz.zeroValue2
 t3 := Tryz.underlying3
 a3 := Tryz.isAgg3
 z3 := Tryz.sizeOf3
 v3 := Tryz.zeroValue3
 t4 := Tryz.underlying4
 a4 := Tryz.isAgg4
 z4 := Tryz.sizeOf4
 v4 := Tryz.zeroValue4
 t5 := Tryz.underlying5
 a5 := Tryz.isAgg5
 z5 := Tryz.sizeOf5
 v5 := Tryz.zeroValue5
 t9 := Tryz.underlying9
 a9 := Tryz.isAgg9
 z9 := Tryz.sizeOf9
 v9 := Tryz.zeroValue9
 t20 := Tryz.underlying20
 a20 := Tryz.isAgg20
 z20 := Tryz.sizeOf20
 v20 := Tryz.zeroValue20
 t37 := Tryz.underlying89
 a37 := Tryz.isAgg89
 z37 := Tryz.sizeOf89
 v37 := Tryz.zeroValue89
 t46 := Tryz.underlying144
 a46 := Tryz.isAgg144
 z46 := Tryz.sizeOf144
 v46 := Tryz.zeroValue144
 t51 := Tryz.underlying85
 a51 := Tryz.isAgg85
 z51 := Tryz.sizeOf85
 v51 := Tryz.zeroValue85
 t53 := Tryz.underlying87
 a53 := Tryz.isAgg87
 z53 := Tryz.sizeOf87
 v53 := Tryz.zeroValue87
 t171 := Tryz.underlying177
 a171 := Tryz.isAgg177
 z171 := Tryz.sizeOf177
 v171 := Tryz.zeroValue177
 t173 := Tryz.underlying180
 a173 := Tryz.isAgg180
 z173 := Tryz.sizeOf180
 v173 := Tryz.zeroValue180
 t212 := Tryz.underlying203
 a212 := Tryz.isAgg203
 z212 := Tryz.sizeOf203
 v212 := Tryz.zeroValue203
 t213 := Tryz.underlying204
 a213 := Tryz.isAgg204
 z213 := Tryz.sizeOf204
 t232 := Tryz.underlying241
 a232 := Tryz.isAgg241
 z232 := Tryz.sizeOf241
 v232 := Tryz.zeroValue241
 t233 := Tryz.underlying242
 a233 := Tryz.isAgg242
 z233 := Tryz.sizeOf242
 v233 := Tryz.zeroValue242
 g17 := by kernel_rfl
 g18 := by kernel_rfl
 g19 := by kernel_rfl
 i0 := by kernel_rfl
 i2 := by kernel_rfl
 i3 := by kernel_rfl
 i4 := by kernel_rfl
 i5 := by kernel_rfl
 i9 := by kernel_rfl
 i20 := by kernel_rfl
 i37 := by kernel_rfl
 i46 := by kernel_rfl
 i51 := by kernel_rfl
 i53 := by kernel_rfl
 i171 := by kernel_rfl
 i173 := by kernel_rfl
 i212 := by kernel_rfl
 i232 := by kernel_rfl
 i233 := by kernel_rfl
 m17 := by kernel_rfl
 m18 := by kernel_rfl
 m19 := by kernel_rfl }
open Go.RowKit in
def PowV (w : World) : Prop := ∃ T d, w.heap[1]? = some (.cells (Lib.pow10Tab.map fun z => Value.int .u64 z).toArray T d)
open Go.RowKit in
theorem PowV.below {W w : World} (h : PowV W) (hb : Below W.heap.size W w) : PowV w := by
 obtain ⟨T, d, h1⟩ := h
 exact ⟨T, d, by rw [hb.block _ (Array.getElem?_eq_some_iff.1 h1).1]; exact h1⟩
open Go.RowKit in
theorem below_itoa (w : World) (k : Nat) (os : Array Obj) : Below w.heap.size w (Go.Sort.grow (w.drewN k) os) :=
 ⟨rfl, rfl, rfl, by show w.heap.size ≤ (w.heap ++ os).size; rw [Array.size_append]; omega, fun j hj => by show (w.heap ++ os)[j]? = _; rw [Array.getElem?_append_left hj]⟩
open Go.RowKit in
theorem str_itoa (n : Int) (h0 : -9223372036854775808 ≤ n) (h1 : n ≤ 9223372036854775807) (w : World) (h : PowV w) :
  Calls Tryz.prog 59 #[.int .i64 n] w fun e w' => e = .returned (.string ⟨(Lib.itoa n).toArray⟩) ∧ Below w.heap.size w w' := by
 obtain ⟨T, d, hb⟩ := h
 refine (Any.strconv_Itoa seat_itoaL n h0 h1 w (var_block (by kernel_rfl) hb)).mono ?_
 rintro e w' ⟨rfl, k, os, rfl⟩
 exact ⟨rfl, below_itoa w k os⟩
end
section
open Go.RowKit Go.Lib
theorem decOf_digits : ∀ (k n : Nat), n ≤ k → decOf n = Lib.decDigits n := by
 intro k
 induction k with
 | zero =>
  intro n hn
  obtain rfl : n = 0 := by omega
  rw [dec_one_digit (by decide)]; unfold Lib.decDigits; rfl
 | succ k ih =>
  intro n hn
  unfold Lib.decDigits
  by_cases h : n < 10
  ·rw [dif_pos h, dec_one_digit h, Nat.mod_eq_of_lt h]
  ·rw [dif_neg h, ← ih (n / 10) (by omega), decOf_pos (show 0 < n by omega), dg_pos (by omega), decOf_pos (show 0 < n / 10 by omega)]
def expX (x : Int) : ByteArray := (if x < 0 then ⟨#[45]⟩ else ⟨#[]⟩) ++ exX x.natAbs
theorem itoa_exp (x : Int) : (⟨(Lib.itoa x).toArray⟩ : ByteArray) = expX x := by
 unfold Lib.itoa expX exX
 rw [decOf_digits _ _ (Nat.le_refl _)]
 by_cases h : x < 0
 ·rw [if_pos h, if_pos h]
  rw [show (⟨#[45]⟩ : ByteArray) = ⟨[45].toArray⟩ from rfl, ByteArray.mk_append_mk]
  rfl
 ·rw [if_neg h, if_neg h, show x.toNat = x.natAbs by omega]
  exact ByteArray.empty_append.symm
theorem show_itoa (x : Int) (h : x.natAbs ≤ 1000) (w : World) (hp : PowV w) : Calls Tryz.prog 59 #[.int .i64 x] w (AnsB w (expX x)) := by
 refine (str_itoa x (by omega) (by omega) w hp).mono ?_
 rintro e w' ⟨rfl, hb⟩
 exact ⟨by rw [itoa_exp], hb⟩
theorem join_more : ∀ xs : List ByteArray, (⟨(Lib.joinTail [44, 32] (xs.map (·.data.toList))).toArray⟩ : ByteArray) = mrX xs := by
 intro xs
 induction xs with
 | nil => rfl
 | cons x xs ih =>
  unfold mrX
  rw [← ih]
  unfold Lib.joinTail
  apply ByteArray.ext
  simp only [List.map_cons, List.flatten_cons, ByteArray.data_append]
  apply Array.toList_inj.1
  simp [Array.toList_append]
theorem join_names (xs : List ByteArray) : (⟨(Lib.join (xs.map (·.data.toList)) [44, 32]).toArray⟩ : ByteArray) = nmX xs := by
 cases xs with
 | nil => rfl
 | cons x xs =>
  rw [List.map_cons, Lib.join_cons]
  show _ = x ++ mrX xs
  rw [← join_more]
  apply ByteArray.ext
  apply Array.toList_inj.1
  simp [ByteArray.data_append, Array.toList_append]
theorem mrX_size {xs : List ByteArray} (h : ∀ x ∈ xs, x.size ≤ 40) : (mrX xs).size ≤ 42 * xs.length := by
 induction xs with
 | nil => exact Nat.le_refl _
 | cons x xs ih =>
  have := ih fun y hy => h y (List.mem_cons_of_mem _ hy)
  have hx := h x (List.mem_cons_self ..)
  unfold mrX
  rw [ByteArray.size_append, ByteArray.size_append, List.length_cons]
  show 2 + (x.size + (mrX xs).size) ≤ _
  omega
theorem nmX_size {xs : List ByteArray} (h : ∀ x ∈ xs, x.size ≤ 40) : (nmX xs).size ≤ 42 * xs.length := by
 cases xs with
 | nil => exact Nat.le_refl _
 | cons x xs =>
  have := mrX_size fun y hy => h y (List.mem_cons_of_mem _ hy)
  have hx := h x (List.mem_cons_self ..)
  unfold nmX
  rw [ByteArray.size_append, List.length_cons]
  omega
theorem show_join {a : Option Addr} {n c : Nat} {xs : List ByteArray} {w : World} (h : IsS w a n xs) (hc : n ≤ c) (hz : ∀ x ∈ xs, x.size ≤ 40) (hn : n ≤ 40) : Calls Tryz.prog 29 #[.slice a n c, .string ⟨#[44, 32]⟩] w (AnsB w (nmX xs)) := by
 obtain ⟨hl, h0 | ⟨g, o, rfl, hcell⟩⟩ := h
 ·subst h0
  obtain rfl : xs = [] := List.length_eq_zero_iff.1 hl
  refine (seat_strings_Join_none a c ⟨#[44, 32]⟩ w).mono ?_
  rintro e w' ⟨rfl, rfl⟩
  exact ⟨rfl, Below.refl _ _⟩
 ·subst hl
  have hN : (nmX xs).size ≤ 1680 := Nat.le_trans (nmX_size hz) (by omega)
  have hlen : (Lib.join (xs.map (·.data.toList)) (⟨#[44, 32]⟩ : ByteArray).data.toList).length ≤ 140737488355328 := by
   have e : (⟨(Lib.join (xs.map (·.data.toList)) [44, 32]).toArray⟩ : ByteArray).size = (nmX xs).size := by rw [join_names]
   have e2 : (⟨(Lib.join (xs.map (·.data.toList)) [44, 32]).toArray⟩ : ByteArray).size = (Lib.join (xs.map (·.data.toList)) [44, 32]).length := List.size_toArray
   show (Lib.join (xs.map (·.data.toList)) [44, 32]).length ≤ _
   omega
  rcases Nat.eq_zero_or_pos xs.length with hz0 | hp
  ·obtain rfl : xs = [] := List.length_eq_zero_iff.1 hz0
   refine (seat_strings_Join_none _ c ⟨#[44, 32]⟩ w).mono ?_
   rintro e w' ⟨rfl, rfl⟩
   exact ⟨rfl, Below.refl _ _⟩
  ·have hg : g < w.heap.size := by
    have := hcell 0 xs[0] (List.getElem?_eq_getElem hp)
    exact World.block_lt_of_cell? w ⟨g, o + 0, none⟩ this
   refine (seat_strings_Join g o c xs ⟨#[44, 32]⟩ w hcell hg (by omega) hc hlen).mono ?_
   rintro e w' ⟨rfl, hb⟩
   exact ⟨by rw [← join_names], hb⟩
end
end Go.Proofs.YtaeladkcmpdkhaaGreatDoor
