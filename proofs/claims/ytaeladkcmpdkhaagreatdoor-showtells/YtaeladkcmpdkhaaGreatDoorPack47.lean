/-
  Texts of mine in build order. No conditions of their own.
-/
import Derived.Test.YtaeladkcmpdkhaaGreatDoorPack23
import Derived.Test.YtaeladkcmpdkhaaGreatDoorPack45
set_option maxHeartbeats 64000000
namespace Go.Proofs.YtaeladkcmpdkhaaGreatDoor
section
open Go.RowKit Go.Lib
def fillD (m : Nw) : Bool :=
 if m.kind = 0 then nameB m.name && noneB m && (m.a == 0) && (m.b == 0) && (m.exp == 0)
 else if m.kind = 1 then rghB m.neg m.xs m.ys && !m.neg && emptyB m.name && (m.a == 0) && (m.b == 0) && (m.exp == 0) && decide ((decOf (val m.xs)).length ≤ 40) && decide ((decOf (val m.ys)).length ≤ 40)
 else if m.kind = 2 ∨ m.kind = 3 ∨ m.kind = 4 ∨ m.kind = 5 then emptyB m.name && noneB m && (m.exp == 0)
 else if m.kind = 6 then emptyB m.name && noneB m && (m.b == 0) && (m.exp == 0)
 else if m.kind = 7 then emptyB m.name && noneB m && (m.b == 0) && decide (-20 ≤ m.exp) && decide (m.exp ≤ 20)
 else false
theorem rgh_short {s : Bool} {xs ys : List Int} (h : rghB s xs ys = true) : (decOf (val xs)).length ≤ 40 → shortB xs = true := fun hA => by
 unfold rghB at h
 have h := (decide_eq_true_iff.1 h).2.1
 have hl : val xs < 4294967296 ^ 5 := Nat.lt_of_lt_of_le (lt_decOf (val xs)) (Nat.le_trans (Nat.pow_le_pow_right (by decide) hA) (by decide))
 have e : xs.length ≤ 5 := by
  have e1 : val xs = (rv s (val xs) (val ys)).num.natAbs := by
   have := congrArg val h
   rw [val_natOf] at this
   exact this.symm
  rw [← h, ← e1]
  exact nl_le 5 _ hl
 unfold shortB
 rw [decide_eq_true e, decide_eq_true hA]; rfl
theorem rgh_short2 {s : Bool} {xs ys : List Int} (h : rghB s xs ys = true) : (decOf (val ys)).length ≤ 40 → shortB ys = true := fun hA => by
 unfold rghB at h
 have h := (decide_eq_true_iff.1 h).2.2
 have hl : val ys < 4294967296 ^ 5 := Nat.lt_of_lt_of_le (lt_decOf (val ys)) (Nat.le_trans (Nat.pow_le_pow_right (by decide) hA) (by decide))
 have e : ys.length ≤ 5 := by
  have e1 : val ys = (rv s (val xs) (val ys)).den := by
   have := congrArg val h
   rw [val_natOf] at this
   exact this.symm
  rw [← h, ← e1]
  exact nl_le 5 _ hl
 unfold shortB
 rw [decide_eq_true e, decide_eq_true hA]; rfl
theorem num_doc (s : Bool) (xs ys : List Int) : numR s xs ys = (rghB s xs ys && !s && decide ((decOf (val xs)).length ≤ 40) && decide ((decOf (val ys)).length ≤ 40)) := by
 unfold numR
 cases hr : rghB s xs ys with
 | false => simp
 | true =>
  have e1 : shortB xs = decide ((decOf (val xs)).length ≤ 40) := by
   by_cases h : (decOf (val xs)).length ≤ 40
   ·rw [rgh_short hr h, decide_eq_true h]
   ·unfold shortB; rw [decide_eq_false h]; simp
  have e2 : shortB ys = decide ((decOf (val ys)).length ≤ 40) := by
   by_cases h : (decOf (val ys)).length ≤ 40
   ·rw [rgh_short2 hr h, decide_eq_true h]
   ·unfold shortB; rw [decide_eq_false h]; simp
  rw [e1, e2]; simp
theorem fill_doc (m : Nw) : fillD m = fillR m := by
 unfold fillD fillR
 rw [num_doc]
 by_cases k0 : m.kind = 0
 ·rw [if_pos k0, if_pos k0]
  cases nameB m.name <;> cases noneB m <;> cases (m.a == 0) <;> cases (m.b == 0) <;> cases (m.exp == 0) <;> rfl
 rw [if_neg k0, if_neg k0]
 by_cases k1 : m.kind = 1
 ·rw [if_pos k1, if_pos k1]
  cases rghB m.neg m.xs m.ys <;> cases m.neg <;> cases emptyB m.name <;> cases (m.a == 0) <;> cases (m.b == 0) <;> cases (m.exp == 0) <;> simp
 rw [if_neg k1, if_neg k1]
 by_cases k2 : m.kind = 2 ∨ m.kind = 3 ∨ m.kind = 4 ∨ m.kind = 5
 ·rw [if_pos k2, if_pos k2]
  cases emptyB m.name <;> cases noneB m <;> cases (m.exp == 0) <;> rfl
 rw [if_neg k2, if_neg k2]
 by_cases k6 : m.kind = 6
 ·rw [if_pos k6, if_pos k6]
  cases emptyB m.name <;> cases noneB m <;> cases (m.b == 0) <;> cases (m.exp == 0) <;> rfl
 rw [if_neg k6, if_neg k6]
 by_cases k7 : m.kind = 7
 ·rw [if_pos k7, if_pos k7]
  rw [show decide (-20 ≤ m.exp ∧ m.exp ≤ 20) = (decide (-20 ≤ m.exp) && decide (m.exp ≤ 20)) from Bool.decide_and ..]
  cases emptyB m.name <;> cases noneB m <;> cases (m.b == 0) <;> simp
 ·rw [if_neg k7, if_neg k7]
theorem none_dec (m : Nw) : noneB m = decide (m.neg = false ∧ m.xs = [] ∧ m.ys = []) := by
 unfold noneB
 rw [Bool.decide_and, Bool.decide_and, Bool.and_assoc]
 congr 1
 ·cases m.neg <;> rfl
 ·congr 1
  ·cases m.xs <;> simp
  ·cases m.ys <;> simp
theorem ref_tfields {w : World} {k a b x : Int} {nm : ByteArray} {ng : Bool} {ua va : Option Addr} {uc vc : Nat} {xs ys : List Int} (hu : IsWords w (.slice ua xs.length uc) xs) (hx : Wd xs) (hv : IsWords w (.slice va ys.length vc) ys) (hy : Wd ys) (hn : xs.length ≤ 3000) (hm : ys.length ≤ 3000) (hs : nm.size ≤ 1000000) (r : Bool) (hr : fillR ⟨k, a, b, x, nm, ng, xs, ys⟩ = r) :
  Calls Tryz.prog 20 #[.agg #[.int .i64 k, .int .i64 a, .int .i64 b, .int .i64 x, .string nm, .bool ng, .slice ua xs.length uc, .slice va ys.length vc]] w fun e w' => e = .returned (.bool r) ∧ Below w.heap.size w w' := by
 rw [← fill_doc] at hr
 have EQ := fun (v : World) (dv : Below w.heap.size w v) (q : Bool) (hq : noneB ⟨k, a, b, x, nm, ng, xs, ys⟩ = q) => ref_requal (s := ng) (s' := false) (xs' := []) (ys' := []) (hu.below dv) (hv.below dv) (Own.nil (Below.refl _ v)).words (Own.nil (Below.refl _ v)).words q (by rw [← hq, none_dec])
 have RT := fun (v : World) (dv : Below w.heap.size w v) (q : Bool) (hq : rghB ng xs ys = q) => ref_rright (s := ng) (hu.below dv) hx (hv.below dv) hy hn hm _ rfl q (by rw [← hq]; rfl)
 have P1 := fun (v : World) (dv : Below w.heap.size w v) => ref_print (hu.below dv) hx (by omega) _ rfl
 have P2 := fun (v : World) (dv : Below w.heap.size w v) => ref_print (hv.below dv) hy (by omega) _ rfl
 have SN := fun (v : World) (q : Bool) (hq : nameB nm = q) => ref_sname hs q hq v
 obtain ⟨b1, bV, hV⟩ := boxes1 w #[.int .i64 k, .int .i64 a, .int .i64 b, .int .i64 x, .string nm, .bool ng, .slice ua xs.length uc, .slice va ys.length vc] 47
 have HB : Hid (BoxC _ _ _ _ ∧ Below w.heap.size w _ ∧ w.heap.size < _) := ⟨b1, bV, hV⟩
 have HE : ∀ y : ByteArray, emptyB y = (y.toList == []) := fun _ => rfl
 unfold fillD at hr
 dsimp only at hr
 generalize hnone : noneB ⟨k, a, b, x, nm, ng, xs, ys⟩ = nb at *
 generalize hrgh : rghB ng xs ys = qb at *
 generalize hname : nameB nm = sb at *
 generalize hP : decOf (val xs) = X at *
 generalize hQ : decOf (val ys) = Y at *
 have z1 : (ByteArray.size ⟨X.toArray⟩ : Int) = (X.length : Int) := by show ((X.toArray.size : Nat) : Int) = _; rw [List.size_toArray]
 have z2 : (ByteArray.size ⟨Y.toArray⟩ : Int) = (Y.length : Int) := by show ((Y.toArray.size : Nat) : Int) = _; rw [List.size_toArray]
 rw [HE] at hr
 clear b1 bV hV hu hx hv hy hn hm hs HE hP hQ
 by_cases k0 : k = 0
 ·subst k0
  rw [if_pos (by decide)] at hr
  cases hs0 : sb with
  | false =>
   have hr' : r = false := by rw [← hr]; simp [hs0]
   subst hr'
   clear hr
   go_enter Tryz.func20, Tryz.ntmps20
   go_wp2_with (first
    | (go_at_call 42; (with_reducible refine Calls.mono (EQ _ HB.out.2.1 _ rfl) ?_); rintro e w1 ⟨rfl, d1⟩; have D := HB.out.1.more d1; have e0 := (D.cell 0).1; have e1 := (D.cell 1).1; have e2 := (D.cell 2).1; have e3 := (D.cell 3).1; have e4 := (D.cell 4).1; have e5 := (D.cell 5).1; have e6 := (D.cell 6).1; have e7 := (D.cell 7).1; have bb := below_more HB.out.2.1 d1; have hw1 := Nat.lt_of_lt_of_le HB.out.2.2 d1.size)
    | (go_at_call 21; (with_reducible refine Calls.mono (SN _ _ rfl) ?_); rintro e w2 ⟨rfl, rfl⟩))
   go_ret
   exact ⟨by first | rfl | simp | (simp; omega), bb⟩
  | true =>
   cases hn0 : nb with
   | false =>
    have hr' : r = false := by rw [← hr]; simp [hs0, hn0]
    subst hr'
    clear hr
    go_enter Tryz.func20, Tryz.ntmps20
    go_wp2_with (first
     | (go_at_call 42; (with_reducible refine Calls.mono (EQ _ HB.out.2.1 _ rfl) ?_); rintro e w1 ⟨rfl, d1⟩; have D := HB.out.1.more d1; have e0 := (D.cell 0).1; have e1 := (D.cell 1).1; have e2 := (D.cell 2).1; have e3 := (D.cell 3).1; have e4 := (D.cell 4).1; have e5 := (D.cell 5).1; have e6 := (D.cell 6).1; have e7 := (D.cell 7).1; have bb := below_more HB.out.2.1 d1; have hw1 := Nat.lt_of_lt_of_le HB.out.2.2 d1.size)
     | (go_at_call 21; (with_reducible refine Calls.mono (SN _ _ rfl) ?_); rintro e w2 ⟨rfl, rfl⟩))
    go_ret
    exact ⟨by first | rfl | simp | (simp; omega), bb⟩
   | true =>
    cases ha : (a == 0) with
    | false =>
     have hr' : r = false := by rw [← hr]; simp [hs0, hn0, ha]
     subst hr'
     clear hr
     go_enter Tryz.func20, Tryz.ntmps20
     go_wp2_with (first
      | (go_at_call 42; (with_reducible refine Calls.mono (EQ _ HB.out.2.1 _ rfl) ?_); rintro e w1 ⟨rfl, d1⟩; have D := HB.out.1.more d1; have e0 := (D.cell 0).1; have e1 := (D.cell 1).1; have e2 := (D.cell 2).1; have e3 := (D.cell 3).1; have e4 := (D.cell 4).1; have e5 := (D.cell 5).1; have e6 := (D.cell 6).1; have e7 := (D.cell 7).1; have bb := below_more HB.out.2.1 d1; have hw1 := Nat.lt_of_lt_of_le HB.out.2.2 d1.size)
      | (go_at_call 21; (with_reducible refine Calls.mono (SN _ _ rfl) ?_); rintro e w2 ⟨rfl, rfl⟩))
     go_ret
     exact ⟨by first | rfl | simp | (simp; omega), bb⟩
    | true =>
     cases hb : (b == 0) with
     | false =>
      have hr' : r = false := by rw [← hr]; simp [hs0, hn0, ha, hb]
      subst hr'
      clear hr
      go_enter Tryz.func20, Tryz.ntmps20
      go_wp2_with (first
       | (go_at_call 42; (with_reducible refine Calls.mono (EQ _ HB.out.2.1 _ rfl) ?_); rintro e w1 ⟨rfl, d1⟩; have D := HB.out.1.more d1; have e0 := (D.cell 0).1; have e1 := (D.cell 1).1; have e2 := (D.cell 2).1; have e3 := (D.cell 3).1; have e4 := (D.cell 4).1; have e5 := (D.cell 5).1; have e6 := (D.cell 6).1; have e7 := (D.cell 7).1; have bb := below_more HB.out.2.1 d1; have hw1 := Nat.lt_of_lt_of_le HB.out.2.2 d1.size)
       | (go_at_call 21; (with_reducible refine Calls.mono (SN _ _ rfl) ?_); rintro e w2 ⟨rfl, rfl⟩))
      go_ret
      exact ⟨by first | rfl | simp | (simp; omega), bb⟩
     | true =>
      cases hx0 : (x == 0) with
      | false =>
       have hr' : r = false := by rw [← hr]; simp [hs0, hn0, ha, hb, hx0]
       subst hr'
       clear hr
       go_enter Tryz.func20, Tryz.ntmps20
       go_wp2_with (first
        | (go_at_call 42; (with_reducible refine Calls.mono (EQ _ HB.out.2.1 _ rfl) ?_); rintro e w1 ⟨rfl, d1⟩; have D := HB.out.1.more d1; have e0 := (D.cell 0).1; have e1 := (D.cell 1).1; have e2 := (D.cell 2).1; have e3 := (D.cell 3).1; have e4 := (D.cell 4).1; have e5 := (D.cell 5).1; have e6 := (D.cell 6).1; have e7 := (D.cell 7).1; have bb := below_more HB.out.2.1 d1; have hw1 := Nat.lt_of_lt_of_le HB.out.2.2 d1.size)
        | (go_at_call 21; (with_reducible refine Calls.mono (SN _ _ rfl) ?_); rintro e w2 ⟨rfl, rfl⟩))
       go_ret
       exact ⟨by first | rfl | simp | (simp; omega), bb⟩
      | true =>
       have hr' : r = true := by rw [← hr]; simp [hs0, hn0, ha, hb, hx0]
       subst hr'
       clear hr
       go_enter Tryz.func20, Tryz.ntmps20
       go_wp2_with (first
        | (go_at_call 42; (with_reducible refine Calls.mono (EQ _ HB.out.2.1 _ rfl) ?_); rintro e w1 ⟨rfl, d1⟩; have D := HB.out.1.more d1; have e0 := (D.cell 0).1; have e1 := (D.cell 1).1; have e2 := (D.cell 2).1; have e3 := (D.cell 3).1; have e4 := (D.cell 4).1; have e5 := (D.cell 5).1; have e6 := (D.cell 6).1; have e7 := (D.cell 7).1; have bb := below_more HB.out.2.1 d1; have hw1 := Nat.lt_of_lt_of_le HB.out.2.2 d1.size)
        | (go_at_call 21; (with_reducible refine Calls.mono (SN _ _ rfl) ?_); rintro e w2 ⟨rfl, rfl⟩))
       go_ret
       exact ⟨by first | rfl | simp | (simp; omega), bb⟩
 by_cases k1 : k = 1
 ·subst k1
  rw [if_neg (by decide), if_pos (by decide)] at hr
  cases hq0 : qb with
  | false =>
   have hr' : r = false := by rw [← hr]; simp [hq0]
   subst hr'
   clear hr
   go_enter Tryz.func20, Tryz.ntmps20
   go_wp2_with (first
    | (go_at_call 42; (with_reducible refine Calls.mono (EQ _ HB.out.2.1 _ rfl) ?_); rintro e w1 ⟨rfl, d1⟩; have D := HB.out.1.more d1; have e0 := (D.cell 0).1; have e1 := (D.cell 1).1; have e2 := (D.cell 2).1; have e3 := (D.cell 3).1; have e4 := (D.cell 4).1; have e5 := (D.cell 5).1; have e6 := (D.cell 6).1; have e7 := (D.cell 7).1; have bb := below_more HB.out.2.1 d1; have hw1 := Nat.lt_of_lt_of_le HB.out.2.2 d1.size)
    | (go_at_call 43; (with_reducible refine Calls.mono (RT _ bb _ rfl) ?_); rintro e w2 ⟨rfl, d2⟩; replace D := D.more d2; replace e0 := (D.cell 0).1; replace e1 := (D.cell 1).1; replace e2 := (D.cell 2).1; replace e3 := (D.cell 3).1; replace e4 := (D.cell 4).1; replace e5 := (D.cell 5).1; replace e6 := (D.cell 6).1; replace e7 := (D.cell 7).1; replace bb := below_more bb d2))
   go_ret
   exact ⟨by first | rfl | simp | (simp; omega), bb⟩
  | true =>
   cases ng with
   | true =>
    have hr' : r = false := by rw [← hr]; simp [hq0]
    subst hr'
    clear hr
    go_enter Tryz.func20, Tryz.ntmps20
    go_wp2_with (first
     | (go_at_call 42; (with_reducible refine Calls.mono (EQ _ HB.out.2.1 _ rfl) ?_); rintro e w1 ⟨rfl, d1⟩; have D := HB.out.1.more d1; have e0 := (D.cell 0).1; have e1 := (D.cell 1).1; have e2 := (D.cell 2).1; have e3 := (D.cell 3).1; have e4 := (D.cell 4).1; have e5 := (D.cell 5).1; have e6 := (D.cell 6).1; have e7 := (D.cell 7).1; have bb := below_more HB.out.2.1 d1; have hw1 := Nat.lt_of_lt_of_le HB.out.2.2 d1.size)
     | (go_at_call 43; (with_reducible refine Calls.mono (RT _ bb _ rfl) ?_); rintro e w2 ⟨rfl, d2⟩; replace D := D.more d2; replace e0 := (D.cell 0).1; replace e1 := (D.cell 1).1; replace e2 := (D.cell 2).1; replace e3 := (D.cell 3).1; replace e4 := (D.cell 4).1; replace e5 := (D.cell 5).1; replace e6 := (D.cell 6).1; replace e7 := (D.cell 7).1; replace bb := below_more bb d2))
    go_ret
    exact ⟨by first | rfl | simp | (simp; omega), bb⟩
   | false =>
    cases hm0 : (nm.toList == []) with
    | false =>
     have hr' : r = false := by rw [← hr]; simp [hq0, hm0]
     subst hr'
     clear hr
     have hm09 : (nm.toList != []) = true := by rw [bne, hm0]; rfl
     go_enter Tryz.func20, Tryz.ntmps20
     go_wp2_with (first
      | (go_at_call 42; (with_reducible refine Calls.mono (EQ _ HB.out.2.1 _ rfl) ?_); rintro e w1 ⟨rfl, d1⟩; have D := HB.out.1.more d1; have e0 := (D.cell 0).1; have e1 := (D.cell 1).1; have e2 := (D.cell 2).1; have e3 := (D.cell 3).1; have e4 := (D.cell 4).1; have e5 := (D.cell 5).1; have e6 := (D.cell 6).1; have e7 := (D.cell 7).1; have bb := below_more HB.out.2.1 d1; have hw1 := Nat.lt_of_lt_of_le HB.out.2.2 d1.size)
      | (go_at_call 43; (with_reducible refine Calls.mono (RT _ bb _ rfl) ?_); rintro e w2 ⟨rfl, d2⟩; replace D := D.more d2; replace e0 := (D.cell 0).1; replace e1 := (D.cell 1).1; replace e2 := (D.cell 2).1; replace e3 := (D.cell 3).1; replace e4 := (D.cell 4).1; replace e5 := (D.cell 5).1; replace e6 := (D.cell 6).1; replace e7 := (D.cell 7).1; replace bb := below_more bb d2))
     go_ret
     exact ⟨by first | rfl | simp | (simp; omega), bb⟩
    | true =>
     have hm09 : (nm.toList != []) = false := by rw [bne, hm0]; rfl
     cases ha : (a == 0) with
     | false =>
      have hr' : r = false := by rw [← hr]; simp [hq0, hm0, ha]
      subst hr'
      clear hr
      have ha9 : (a != 0) = true := by rw [bne, ha]; rfl
      go_enter Tryz.func20, Tryz.ntmps20
      go_wp2_with (first
       | (go_at_call 42; (with_reducible refine Calls.mono (EQ _ HB.out.2.1 _ rfl) ?_); rintro e w1 ⟨rfl, d1⟩; have D := HB.out.1.more d1; have e0 := (D.cell 0).1; have e1 := (D.cell 1).1; have e2 := (D.cell 2).1; have e3 := (D.cell 3).1; have e4 := (D.cell 4).1; have e5 := (D.cell 5).1; have e6 := (D.cell 6).1; have e7 := (D.cell 7).1; have bb := below_more HB.out.2.1 d1; have hw1 := Nat.lt_of_lt_of_le HB.out.2.2 d1.size)
       | (go_at_call 43; (with_reducible refine Calls.mono (RT _ bb _ rfl) ?_); rintro e w2 ⟨rfl, d2⟩; replace D := D.more d2; replace e0 := (D.cell 0).1; replace e1 := (D.cell 1).1; replace e2 := (D.cell 2).1; replace e3 := (D.cell 3).1; replace e4 := (D.cell 4).1; replace e5 := (D.cell 5).1; replace e6 := (D.cell 6).1; replace e7 := (D.cell 7).1; replace bb := below_more bb d2))
      go_ret
      exact ⟨by first | rfl | simp | (simp; omega), bb⟩
     | true =>
      have ha9 : (a != 0) = false := by rw [bne, ha]; rfl
      cases hb : (b == 0) with
      | false =>
       have hr' : r = false := by rw [← hr]; simp [hq0, hm0, ha, hb]
       subst hr'
       clear hr
       have hb9 : (b != 0) = true := by rw [bne, hb]; rfl
       go_enter Tryz.func20, Tryz.ntmps20
       go_wp2_with (first
        | (go_at_call 42; (with_reducible refine Calls.mono (EQ _ HB.out.2.1 _ rfl) ?_); rintro e w1 ⟨rfl, d1⟩; have D := HB.out.1.more d1; have e0 := (D.cell 0).1; have e1 := (D.cell 1).1; have e2 := (D.cell 2).1; have e3 := (D.cell 3).1; have e4 := (D.cell 4).1; have e5 := (D.cell 5).1; have e6 := (D.cell 6).1; have e7 := (D.cell 7).1; have bb := below_more HB.out.2.1 d1; have hw1 := Nat.lt_of_lt_of_le HB.out.2.2 d1.size)
        | (go_at_call 43; (with_reducible refine Calls.mono (RT _ bb _ rfl) ?_); rintro e w2 ⟨rfl, d2⟩; replace D := D.more d2; replace e0 := (D.cell 0).1; replace e1 := (D.cell 1).1; replace e2 := (D.cell 2).1; replace e3 := (D.cell 3).1; replace e4 := (D.cell 4).1; replace e5 := (D.cell 5).1; replace e6 := (D.cell 6).1; replace e7 := (D.cell 7).1; replace bb := below_more bb d2))
       go_ret
       exact ⟨by first | rfl | simp | (simp; omega), bb⟩
      | true =>
       have hb9 : (b != 0) = false := by rw [bne, hb]; rfl
       cases hx0 : (x == 0) with
       | false =>
        have hr' : r = false := by rw [← hr]; simp [hq0, hm0, ha, hb, hx0]
        subst hr'
        clear hr
        have hx09 : (x != 0) = true := by rw [bne, hx0]; rfl
        go_enter Tryz.func20, Tryz.ntmps20
        go_wp2_with (first
         | (go_at_call 42; (with_reducible refine Calls.mono (EQ _ HB.out.2.1 _ rfl) ?_); rintro e w1 ⟨rfl, d1⟩; have D := HB.out.1.more d1; have e0 := (D.cell 0).1; have e1 := (D.cell 1).1; have e2 := (D.cell 2).1; have e3 := (D.cell 3).1; have e4 := (D.cell 4).1; have e5 := (D.cell 5).1; have e6 := (D.cell 6).1; have e7 := (D.cell 7).1; have bb := below_more HB.out.2.1 d1; have hw1 := Nat.lt_of_lt_of_le HB.out.2.2 d1.size)
         | (go_at_call 43; (with_reducible refine Calls.mono (RT _ bb _ rfl) ?_); rintro e w2 ⟨rfl, d2⟩; replace D := D.more d2; replace e0 := (D.cell 0).1; replace e1 := (D.cell 1).1; replace e2 := (D.cell 2).1; replace e3 := (D.cell 3).1; replace e4 := (D.cell 4).1; replace e5 := (D.cell 5).1; replace e6 := (D.cell 6).1; replace e7 := (D.cell 7).1; replace bb := below_more bb d2))
        go_ret
        exact ⟨by first | rfl | simp | (simp; omega), bb⟩
       | true =>
        have hx09 : (x != 0) = false := by rw [bne, hx0]; rfl
        cases hd1 : decide (X.length ≤ 40) with
        | false =>
         have hr' : r = false := by rw [← hr]; simp [hq0, hm0, ha, hb, hx0, hd1]
         subst hr'
         clear hr
         have k40 : decide ((X.length : Int) ≤ 40) = false := decide_eq_false (by have := decide_eq_false_iff_not.1 hd1; omega)
         go_enter Tryz.func20, Tryz.ntmps20
         go_wp2_with (first
          | (go_at_call 42; (with_reducible refine Calls.mono (EQ _ HB.out.2.1 _ rfl) ?_); rintro e w1 ⟨rfl, d1⟩; have D := HB.out.1.more d1; have e0 := (D.cell 0).1; have e1 := (D.cell 1).1; have e2 := (D.cell 2).1; have e3 := (D.cell 3).1; have e4 := (D.cell 4).1; have e5 := (D.cell 5).1; have e6 := (D.cell 6).1; have e7 := (D.cell 7).1; have bb := below_more HB.out.2.1 d1; have hw1 := Nat.lt_of_lt_of_le HB.out.2.2 d1.size)
          | (go_at_call 43; (with_reducible refine Calls.mono (RT _ bb _ rfl) ?_); rintro e w2 ⟨rfl, d2⟩; replace D := D.more d2; replace e0 := (D.cell 0).1; replace e1 := (D.cell 1).1; replace e2 := (D.cell 2).1; replace e3 := (D.cell 3).1; replace e4 := (D.cell 4).1; replace e5 := (D.cell 5).1; replace e6 := (D.cell 6).1; replace e7 := (D.cell 7).1; replace bb := below_more bb d2)
          | (go_at_call 44; (with_reducible refine Calls.mono (P1 _ bb) ?_); rintro e w3 ⟨rfl, d3⟩; replace D := D.more d3; replace e0 := (D.cell 0).1; replace e1 := (D.cell 1).1; replace e2 := (D.cell 2).1; replace e3 := (D.cell 3).1; replace e4 := (D.cell 4).1; replace e5 := (D.cell 5).1; replace e6 := (D.cell 6).1; replace e7 := (D.cell 7).1; replace bb := below_more bb d3))
         go_ret
         exact ⟨by first | rfl | simp | (simp; omega), bb⟩
        | true =>
         have k40 : (X.length : Int) ≤ 40 := by have := decide_eq_true_iff.1 hd1; omega
         cases hd2 : decide (Y.length ≤ 40) with
         | false =>
          have hr' : r = false := by rw [← hr]; simp [hq0, hm0, ha, hb, hx0, hd1, hd2]
          subst hr'
          clear hr
          have k41 : decide ((Y.length : Int) ≤ 40) = false := decide_eq_false (by have := decide_eq_false_iff_not.1 hd2; omega)
          go_enter Tryz.func20, Tryz.ntmps20
          go_wp2_with (first
           | (go_at_call 42; (with_reducible refine Calls.mono (EQ _ HB.out.2.1 _ rfl) ?_); rintro e w1 ⟨rfl, d1⟩; have D := HB.out.1.more d1; have e0 := (D.cell 0).1; have e1 := (D.cell 1).1; have e2 := (D.cell 2).1; have e3 := (D.cell 3).1; have e4 := (D.cell 4).1; have e5 := (D.cell 5).1; have e6 := (D.cell 6).1; have e7 := (D.cell 7).1; have bb := below_more HB.out.2.1 d1; have hw1 := Nat.lt_of_lt_of_le HB.out.2.2 d1.size)
           | (go_at_call 43; (with_reducible refine Calls.mono (RT _ bb _ rfl) ?_); rintro e w2 ⟨rfl, d2⟩; replace D := D.more d2; replace e0 := (D.cell 0).1; replace e1 := (D.cell 1).1; replace e2 := (D.cell 2).1; replace e3 := (D.cell 3).1; replace e4 := (D.cell 4).1; replace e5 := (D.cell 5).1; replace e6 := (D.cell 6).1; replace e7 := (D.cell 7).1; replace bb := below_more bb d2)
           | (go_at_call 44; (with_reducible refine Calls.mono (P1 _ bb) ?_); rintro e w3 ⟨rfl, d3⟩; replace D := D.more d3; replace e0 := (D.cell 0).1; replace e1 := (D.cell 1).1; replace e2 := (D.cell 2).1; replace e3 := (D.cell 3).1; replace e4 := (D.cell 4).1; replace e5 := (D.cell 5).1; replace e6 := (D.cell 6).1; replace e7 := (D.cell 7).1; replace bb := below_more bb d3)
           | (go_at_call 44; (with_reducible refine Calls.mono (P2 _ bb) ?_); rintro e w4 ⟨rfl, d4⟩; replace bb := below_more bb d4))
          go_ret
          exact ⟨by first | rfl | simp | (simp; omega), bb⟩
         | true =>
          have k41 : (Y.length : Int) ≤ 40 := by have := decide_eq_true_iff.1 hd2; omega
          have hr' : r = true := by rw [← hr]; simp [hq0, hm0, ha, hb, hx0, hd1, hd2]
          subst hr'
          clear hr
          go_enter Tryz.func20, Tryz.ntmps20
          go_wp2_with (first
           | (go_at_call 42; (with_reducible refine Calls.mono (EQ _ HB.out.2.1 _ rfl) ?_); rintro e w1 ⟨rfl, d1⟩; have D := HB.out.1.more d1; have e0 := (D.cell 0).1; have e1 := (D.cell 1).1; have e2 := (D.cell 2).1; have e3 := (D.cell 3).1; have e4 := (D.cell 4).1; have e5 := (D.cell 5).1; have e6 := (D.cell 6).1; have e7 := (D.cell 7).1; have bb := below_more HB.out.2.1 d1; have hw1 := Nat.lt_of_lt_of_le HB.out.2.2 d1.size)
           | (go_at_call 43; (with_reducible refine Calls.mono (RT _ bb _ rfl) ?_); rintro e w2 ⟨rfl, d2⟩; replace D := D.more d2; replace e0 := (D.cell 0).1; replace e1 := (D.cell 1).1; replace e2 := (D.cell 2).1; replace e3 := (D.cell 3).1; replace e4 := (D.cell 4).1; replace e5 := (D.cell 5).1; replace e6 := (D.cell 6).1; replace e7 := (D.cell 7).1; replace bb := below_more bb d2)
           | (go_at_call 44; (with_reducible refine Calls.mono (P1 _ bb) ?_); rintro e w3 ⟨rfl, d3⟩; replace D := D.more d3; replace e0 := (D.cell 0).1; replace e1 := (D.cell 1).1; replace e2 := (D.cell 2).1; replace e3 := (D.cell 3).1; replace e4 := (D.cell 4).1; replace e5 := (D.cell 5).1; replace e6 := (D.cell 6).1; replace e7 := (D.cell 7).1; replace bb := below_more bb d3)
           | (go_at_call 44; (with_reducible refine Calls.mono (P2 _ bb) ?_); rintro e w4 ⟨rfl, d4⟩; replace bb := below_more bb d4))
          go_ret
          exact ⟨by first | rfl | simp | (simp; omega), bb⟩
 by_cases k2 : k = 2
 ·subst k2
  rw [if_neg (by decide), if_neg (by decide), if_pos (by decide)] at hr
  cases hm0 : (nm.toList == []) with
  | false =>
   have hr' : r = false := by rw [← hr]; simp [hm0]
   subst hr'
   clear hr
   go_enter Tryz.func20, Tryz.ntmps20
   go_wp2_with (first
    | (go_at_call 42; (with_reducible refine Calls.mono (EQ _ HB.out.2.1 _ rfl) ?_); rintro e w1 ⟨rfl, d1⟩; have D := HB.out.1.more d1; have e0 := (D.cell 0).1; have e1 := (D.cell 1).1; have e2 := (D.cell 2).1; have e3 := (D.cell 3).1; have e4 := (D.cell 4).1; have e5 := (D.cell 5).1; have e6 := (D.cell 6).1; have e7 := (D.cell 7).1; have bb := below_more HB.out.2.1 d1; have hw1 := Nat.lt_of_lt_of_le HB.out.2.2 d1.size))
   go_ret
   exact ⟨by first | rfl | simp | (simp; omega), bb⟩
  | true =>
   cases hn0 : nb with
   | false =>
    have hr' : r = false := by rw [← hr]; simp [hm0, hn0]
    subst hr'
    clear hr
    go_enter Tryz.func20, Tryz.ntmps20
    go_wp2_with (first
     | (go_at_call 42; (with_reducible refine Calls.mono (EQ _ HB.out.2.1 _ rfl) ?_); rintro e w1 ⟨rfl, d1⟩; have D := HB.out.1.more d1; have e0 := (D.cell 0).1; have e1 := (D.cell 1).1; have e2 := (D.cell 2).1; have e3 := (D.cell 3).1; have e4 := (D.cell 4).1; have e5 := (D.cell 5).1; have e6 := (D.cell 6).1; have e7 := (D.cell 7).1; have bb := below_more HB.out.2.1 d1; have hw1 := Nat.lt_of_lt_of_le HB.out.2.2 d1.size))
    go_ret
    exact ⟨by first | rfl | simp | (simp; omega), bb⟩
   | true =>
    cases hx0 : (x == 0) with
    | false =>
     have hr' : r = false := by rw [← hr]; simp [hm0, hn0, hx0]
     subst hr'
     clear hr
     go_enter Tryz.func20, Tryz.ntmps20
     go_wp2_with (first
      | (go_at_call 42; (with_reducible refine Calls.mono (EQ _ HB.out.2.1 _ rfl) ?_); rintro e w1 ⟨rfl, d1⟩; have D := HB.out.1.more d1; have e0 := (D.cell 0).1; have e1 := (D.cell 1).1; have e2 := (D.cell 2).1; have e3 := (D.cell 3).1; have e4 := (D.cell 4).1; have e5 := (D.cell 5).1; have e6 := (D.cell 6).1; have e7 := (D.cell 7).1; have bb := below_more HB.out.2.1 d1; have hw1 := Nat.lt_of_lt_of_le HB.out.2.2 d1.size))
     go_ret
     exact ⟨by first | rfl | simp | (simp; omega), bb⟩
    | true =>
     have hr' : r = true := by rw [← hr]; simp [hm0, hn0, hx0]
     subst hr'
     clear hr
     go_enter Tryz.func20, Tryz.ntmps20
     go_wp2_with (first
      | (go_at_call 42; (with_reducible refine Calls.mono (EQ _ HB.out.2.1 _ rfl) ?_); rintro e w1 ⟨rfl, d1⟩; have D := HB.out.1.more d1; have e0 := (D.cell 0).1; have e1 := (D.cell 1).1; have e2 := (D.cell 2).1; have e3 := (D.cell 3).1; have e4 := (D.cell 4).1; have e5 := (D.cell 5).1; have e6 := (D.cell 6).1; have e7 := (D.cell 7).1; have bb := below_more HB.out.2.1 d1; have hw1 := Nat.lt_of_lt_of_le HB.out.2.2 d1.size))
     go_ret
     exact ⟨by first | rfl | simp | (simp; omega), bb⟩
 by_cases k3 : k = 3
 ·subst k3
  rw [if_neg (by decide), if_neg (by decide), if_pos (by decide)] at hr
  cases hm0 : (nm.toList == []) with
  | false =>
   have hr' : r = false := by rw [← hr]; simp [hm0]
   subst hr'
   clear hr
   go_enter Tryz.func20, Tryz.ntmps20
   go_wp2_with (first
    | (go_at_call 42; (with_reducible refine Calls.mono (EQ _ HB.out.2.1 _ rfl) ?_); rintro e w1 ⟨rfl, d1⟩; have D := HB.out.1.more d1; have e0 := (D.cell 0).1; have e1 := (D.cell 1).1; have e2 := (D.cell 2).1; have e3 := (D.cell 3).1; have e4 := (D.cell 4).1; have e5 := (D.cell 5).1; have e6 := (D.cell 6).1; have e7 := (D.cell 7).1; have bb := below_more HB.out.2.1 d1; have hw1 := Nat.lt_of_lt_of_le HB.out.2.2 d1.size))
   go_ret
   exact ⟨by first | rfl | simp | (simp; omega), bb⟩
  | true =>
   cases hn0 : nb with
   | false =>
    have hr' : r = false := by rw [← hr]; simp [hm0, hn0]
    subst hr'
    clear hr
    go_enter Tryz.func20, Tryz.ntmps20
    go_wp2_with (first
     | (go_at_call 42; (with_reducible refine Calls.mono (EQ _ HB.out.2.1 _ rfl) ?_); rintro e w1 ⟨rfl, d1⟩; have D := HB.out.1.more d1; have e0 := (D.cell 0).1; have e1 := (D.cell 1).1; have e2 := (D.cell 2).1; have e3 := (D.cell 3).1; have e4 := (D.cell 4).1; have e5 := (D.cell 5).1; have e6 := (D.cell 6).1; have e7 := (D.cell 7).1; have bb := below_more HB.out.2.1 d1; have hw1 := Nat.lt_of_lt_of_le HB.out.2.2 d1.size))
    go_ret
    exact ⟨by first | rfl | simp | (simp; omega), bb⟩
   | true =>
    cases hx0 : (x == 0) with
    | false =>
     have hr' : r = false := by rw [← hr]; simp [hm0, hn0, hx0]
     subst hr'
     clear hr
     go_enter Tryz.func20, Tryz.ntmps20
     go_wp2_with (first
      | (go_at_call 42; (with_reducible refine Calls.mono (EQ _ HB.out.2.1 _ rfl) ?_); rintro e w1 ⟨rfl, d1⟩; have D := HB.out.1.more d1; have e0 := (D.cell 0).1; have e1 := (D.cell 1).1; have e2 := (D.cell 2).1; have e3 := (D.cell 3).1; have e4 := (D.cell 4).1; have e5 := (D.cell 5).1; have e6 := (D.cell 6).1; have e7 := (D.cell 7).1; have bb := below_more HB.out.2.1 d1; have hw1 := Nat.lt_of_lt_of_le HB.out.2.2 d1.size))
     go_ret
     exact ⟨by first | rfl | simp | (simp; omega), bb⟩
    | true =>
     have hr' : r = true := by rw [← hr]; simp [hm0, hn0, hx0]
     subst hr'
     clear hr
     go_enter Tryz.func20, Tryz.ntmps20
     go_wp2_with (first
      | (go_at_call 42; (with_reducible refine Calls.mono (EQ _ HB.out.2.1 _ rfl) ?_); rintro e w1 ⟨rfl, d1⟩; have D := HB.out.1.more d1; have e0 := (D.cell 0).1; have e1 := (D.cell 1).1; have e2 := (D.cell 2).1; have e3 := (D.cell 3).1; have e4 := (D.cell 4).1; have e5 := (D.cell 5).1; have e6 := (D.cell 6).1; have e7 := (D.cell 7).1; have bb := below_more HB.out.2.1 d1; have hw1 := Nat.lt_of_lt_of_le HB.out.2.2 d1.size))
     go_ret
     exact ⟨by first | rfl | simp | (simp; omega), bb⟩
 by_cases k4 : k = 4
 ·subst k4
  rw [if_neg (by decide), if_neg (by decide), if_pos (by decide)] at hr
  cases hm0 : (nm.toList == []) with
  | false =>
   have hr' : r = false := by rw [← hr]; simp [hm0]
   subst hr'
   clear hr
   go_enter Tryz.func20, Tryz.ntmps20
   go_wp2_with (first
    | (go_at_call 42; (with_reducible refine Calls.mono (EQ _ HB.out.2.1 _ rfl) ?_); rintro e w1 ⟨rfl, d1⟩; have D := HB.out.1.more d1; have e0 := (D.cell 0).1; have e1 := (D.cell 1).1; have e2 := (D.cell 2).1; have e3 := (D.cell 3).1; have e4 := (D.cell 4).1; have e5 := (D.cell 5).1; have e6 := (D.cell 6).1; have e7 := (D.cell 7).1; have bb := below_more HB.out.2.1 d1; have hw1 := Nat.lt_of_lt_of_le HB.out.2.2 d1.size))
   go_ret
   exact ⟨by first | rfl | simp | (simp; omega), bb⟩
  | true =>
   cases hn0 : nb with
   | false =>
    have hr' : r = false := by rw [← hr]; simp [hm0, hn0]
    subst hr'
    clear hr
    go_enter Tryz.func20, Tryz.ntmps20
    go_wp2_with (first
     | (go_at_call 42; (with_reducible refine Calls.mono (EQ _ HB.out.2.1 _ rfl) ?_); rintro e w1 ⟨rfl, d1⟩; have D := HB.out.1.more d1; have e0 := (D.cell 0).1; have e1 := (D.cell 1).1; have e2 := (D.cell 2).1; have e3 := (D.cell 3).1; have e4 := (D.cell 4).1; have e5 := (D.cell 5).1; have e6 := (D.cell 6).1; have e7 := (D.cell 7).1; have bb := below_more HB.out.2.1 d1; have hw1 := Nat.lt_of_lt_of_le HB.out.2.2 d1.size))
    go_ret
    exact ⟨by first | rfl | simp | (simp; omega), bb⟩
   | true =>
    cases hx0 : (x == 0) with
    | false =>
     have hr' : r = false := by rw [← hr]; simp [hm0, hn0, hx0]
     subst hr'
     clear hr
     go_enter Tryz.func20, Tryz.ntmps20
     go_wp2_with (first
      | (go_at_call 42; (with_reducible refine Calls.mono (EQ _ HB.out.2.1 _ rfl) ?_); rintro e w1 ⟨rfl, d1⟩; have D := HB.out.1.more d1; have e0 := (D.cell 0).1; have e1 := (D.cell 1).1; have e2 := (D.cell 2).1; have e3 := (D.cell 3).1; have e4 := (D.cell 4).1; have e5 := (D.cell 5).1; have e6 := (D.cell 6).1; have e7 := (D.cell 7).1; have bb := below_more HB.out.2.1 d1; have hw1 := Nat.lt_of_lt_of_le HB.out.2.2 d1.size))
     go_ret
     exact ⟨by first | rfl | simp | (simp; omega), bb⟩
    | true =>
     have hr' : r = true := by rw [← hr]; simp [hm0, hn0, hx0]
     subst hr'
     clear hr
     go_enter Tryz.func20, Tryz.ntmps20
     go_wp2_with (first
      | (go_at_call 42; (with_reducible refine Calls.mono (EQ _ HB.out.2.1 _ rfl) ?_); rintro e w1 ⟨rfl, d1⟩; have D := HB.out.1.more d1; have e0 := (D.cell 0).1; have e1 := (D.cell 1).1; have e2 := (D.cell 2).1; have e3 := (D.cell 3).1; have e4 := (D.cell 4).1; have e5 := (D.cell 5).1; have e6 := (D.cell 6).1; have e7 := (D.cell 7).1; have bb := below_more HB.out.2.1 d1; have hw1 := Nat.lt_of_lt_of_le HB.out.2.2 d1.size))
     go_ret
     exact ⟨by first | rfl | simp | (simp; omega), bb⟩
 by_cases k5 : k = 5
 ·subst k5
  rw [if_neg (by decide), if_neg (by decide), if_pos (by decide)] at hr
  cases hm0 : (nm.toList == []) with
  | false =>
   have hr' : r = false := by rw [← hr]; simp [hm0]
   subst hr'
   clear hr
   go_enter Tryz.func20, Tryz.ntmps20
   go_wp2_with (first
    | (go_at_call 42; (with_reducible refine Calls.mono (EQ _ HB.out.2.1 _ rfl) ?_); rintro e w1 ⟨rfl, d1⟩; have D := HB.out.1.more d1; have e0 := (D.cell 0).1; have e1 := (D.cell 1).1; have e2 := (D.cell 2).1; have e3 := (D.cell 3).1; have e4 := (D.cell 4).1; have e5 := (D.cell 5).1; have e6 := (D.cell 6).1; have e7 := (D.cell 7).1; have bb := below_more HB.out.2.1 d1; have hw1 := Nat.lt_of_lt_of_le HB.out.2.2 d1.size))
   go_ret
   exact ⟨by first | rfl | simp | (simp; omega), bb⟩
  | true =>
   cases hn0 : nb with
   | false =>
    have hr' : r = false := by rw [← hr]; simp [hm0, hn0]
    subst hr'
    clear hr
    go_enter Tryz.func20, Tryz.ntmps20
    go_wp2_with (first
     | (go_at_call 42; (with_reducible refine Calls.mono (EQ _ HB.out.2.1 _ rfl) ?_); rintro e w1 ⟨rfl, d1⟩; have D := HB.out.1.more d1; have e0 := (D.cell 0).1; have e1 := (D.cell 1).1; have e2 := (D.cell 2).1; have e3 := (D.cell 3).1; have e4 := (D.cell 4).1; have e5 := (D.cell 5).1; have e6 := (D.cell 6).1; have e7 := (D.cell 7).1; have bb := below_more HB.out.2.1 d1; have hw1 := Nat.lt_of_lt_of_le HB.out.2.2 d1.size))
    go_ret
    exact ⟨by first | rfl | simp | (simp; omega), bb⟩
   | true =>
    cases hx0 : (x == 0) with
    | false =>
     have hr' : r = false := by rw [← hr]; simp [hm0, hn0, hx0]
     subst hr'
     clear hr
     go_enter Tryz.func20, Tryz.ntmps20
     go_wp2_with (first
      | (go_at_call 42; (with_reducible refine Calls.mono (EQ _ HB.out.2.1 _ rfl) ?_); rintro e w1 ⟨rfl, d1⟩; have D := HB.out.1.more d1; have e0 := (D.cell 0).1; have e1 := (D.cell 1).1; have e2 := (D.cell 2).1; have e3 := (D.cell 3).1; have e4 := (D.cell 4).1; have e5 := (D.cell 5).1; have e6 := (D.cell 6).1; have e7 := (D.cell 7).1; have bb := below_more HB.out.2.1 d1; have hw1 := Nat.lt_of_lt_of_le HB.out.2.2 d1.size))
     go_ret
     exact ⟨by first | rfl | simp | (simp; omega), bb⟩
    | true =>
     have hr' : r = true := by rw [← hr]; simp [hm0, hn0, hx0]
     subst hr'
     clear hr
     go_enter Tryz.func20, Tryz.ntmps20
     go_wp2_with (first
      | (go_at_call 42; (with_reducible refine Calls.mono (EQ _ HB.out.2.1 _ rfl) ?_); rintro e w1 ⟨rfl, d1⟩; have D := HB.out.1.more d1; have e0 := (D.cell 0).1; have e1 := (D.cell 1).1; have e2 := (D.cell 2).1; have e3 := (D.cell 3).1; have e4 := (D.cell 4).1; have e5 := (D.cell 5).1; have e6 := (D.cell 6).1; have e7 := (D.cell 7).1; have bb := below_more HB.out.2.1 d1; have hw1 := Nat.lt_of_lt_of_le HB.out.2.2 d1.size))
     go_ret
     exact ⟨by first | rfl | simp | (simp; omega), bb⟩
 by_cases k6 : k = 6
 ·subst k6
  rw [if_neg (by decide), if_neg (by decide), if_neg (by decide), if_pos (by decide)] at hr
  cases hm0 : (nm.toList == []) with
  | false =>
   have hr' : r = false := by rw [← hr]; simp [hm0]
   subst hr'
   clear hr
   go_enter Tryz.func20, Tryz.ntmps20
   go_wp2_with (first
    | (go_at_call 42; (with_reducible refine Calls.mono (EQ _ HB.out.2.1 _ rfl) ?_); rintro e w1 ⟨rfl, d1⟩; have D := HB.out.1.more d1; have e0 := (D.cell 0).1; have e1 := (D.cell 1).1; have e2 := (D.cell 2).1; have e3 := (D.cell 3).1; have e4 := (D.cell 4).1; have e5 := (D.cell 5).1; have e6 := (D.cell 6).1; have e7 := (D.cell 7).1; have bb := below_more HB.out.2.1 d1; have hw1 := Nat.lt_of_lt_of_le HB.out.2.2 d1.size))
   go_ret
   exact ⟨by first | rfl | simp | (simp; omega), bb⟩
  | true =>
   cases hn0 : nb with
   | false =>
    have hr' : r = false := by rw [← hr]; simp [hm0, hn0]
    subst hr'
    clear hr
    go_enter Tryz.func20, Tryz.ntmps20
    go_wp2_with (first
     | (go_at_call 42; (with_reducible refine Calls.mono (EQ _ HB.out.2.1 _ rfl) ?_); rintro e w1 ⟨rfl, d1⟩; have D := HB.out.1.more d1; have e0 := (D.cell 0).1; have e1 := (D.cell 1).1; have e2 := (D.cell 2).1; have e3 := (D.cell 3).1; have e4 := (D.cell 4).1; have e5 := (D.cell 5).1; have e6 := (D.cell 6).1; have e7 := (D.cell 7).1; have bb := below_more HB.out.2.1 d1; have hw1 := Nat.lt_of_lt_of_le HB.out.2.2 d1.size))
    go_ret
    exact ⟨by first | rfl | simp | (simp; omega), bb⟩
   | true =>
    cases hb : (b == 0) with
    | false =>
     have hr' : r = false := by rw [← hr]; simp [hm0, hn0, hb]
     subst hr'
     clear hr
     go_enter Tryz.func20, Tryz.ntmps20
     go_wp2_with (first
      | (go_at_call 42; (with_reducible refine Calls.mono (EQ _ HB.out.2.1 _ rfl) ?_); rintro e w1 ⟨rfl, d1⟩; have D := HB.out.1.more d1; have e0 := (D.cell 0).1; have e1 := (D.cell 1).1; have e2 := (D.cell 2).1; have e3 := (D.cell 3).1; have e4 := (D.cell 4).1; have e5 := (D.cell 5).1; have e6 := (D.cell 6).1; have e7 := (D.cell 7).1; have bb := below_more HB.out.2.1 d1; have hw1 := Nat.lt_of_lt_of_le HB.out.2.2 d1.size))
     go_ret
     exact ⟨by first | rfl | simp | (simp; omega), bb⟩
    | true =>
     cases hx0 : (x == 0) with
     | false =>
      have hr' : r = false := by rw [← hr]; simp [hm0, hn0, hb, hx0]
      subst hr'
      clear hr
      go_enter Tryz.func20, Tryz.ntmps20
      go_wp2_with (first
       | (go_at_call 42; (with_reducible refine Calls.mono (EQ _ HB.out.2.1 _ rfl) ?_); rintro e w1 ⟨rfl, d1⟩; have D := HB.out.1.more d1; have e0 := (D.cell 0).1; have e1 := (D.cell 1).1; have e2 := (D.cell 2).1; have e3 := (D.cell 3).1; have e4 := (D.cell 4).1; have e5 := (D.cell 5).1; have e6 := (D.cell 6).1; have e7 := (D.cell 7).1; have bb := below_more HB.out.2.1 d1; have hw1 := Nat.lt_of_lt_of_le HB.out.2.2 d1.size))
      go_ret
      exact ⟨by first | rfl | simp | (simp; omega), bb⟩
     | true =>
      have hr' : r = true := by rw [← hr]; simp [hm0, hn0, hb, hx0]
      subst hr'
      clear hr
      go_enter Tryz.func20, Tryz.ntmps20
      go_wp2_with (first
       | (go_at_call 42; (with_reducible refine Calls.mono (EQ _ HB.out.2.1 _ rfl) ?_); rintro e w1 ⟨rfl, d1⟩; have D := HB.out.1.more d1; have e0 := (D.cell 0).1; have e1 := (D.cell 1).1; have e2 := (D.cell 2).1; have e3 := (D.cell 3).1; have e4 := (D.cell 4).1; have e5 := (D.cell 5).1; have e6 := (D.cell 6).1; have e7 := (D.cell 7).1; have bb := below_more HB.out.2.1 d1; have hw1 := Nat.lt_of_lt_of_le HB.out.2.2 d1.size))
      go_ret
      exact ⟨by first | rfl | simp | (simp; omega), bb⟩
 by_cases k7 : k = 7
 ·subst k7
  rw [if_neg (by decide), if_neg (by decide), if_neg (by decide), if_neg (by decide), if_pos (by decide)] at hr
  cases hm0 : (nm.toList == []) with
  | false =>
   have hr' : r = false := by rw [← hr]; simp [hm0]
   subst hr'
   clear hr
   go_enter Tryz.func20, Tryz.ntmps20
   go_wp2_with (first
    | (go_at_call 42; (with_reducible refine Calls.mono (EQ _ HB.out.2.1 _ rfl) ?_); rintro e w1 ⟨rfl, d1⟩; have D := HB.out.1.more d1; have e0 := (D.cell 0).1; have e1 := (D.cell 1).1; have e2 := (D.cell 2).1; have e3 := (D.cell 3).1; have e4 := (D.cell 4).1; have e5 := (D.cell 5).1; have e6 := (D.cell 6).1; have e7 := (D.cell 7).1; have bb := below_more HB.out.2.1 d1; have hw1 := Nat.lt_of_lt_of_le HB.out.2.2 d1.size))
   go_ret
   exact ⟨by first | rfl | simp | (simp; omega), bb⟩
  | true =>
   cases hn0 : nb with
   | false =>
    have hr' : r = false := by rw [← hr]; simp [hm0, hn0]
    subst hr'
    clear hr
    go_enter Tryz.func20, Tryz.ntmps20
    go_wp2_with (first
     | (go_at_call 42; (with_reducible refine Calls.mono (EQ _ HB.out.2.1 _ rfl) ?_); rintro e w1 ⟨rfl, d1⟩; have D := HB.out.1.more d1; have e0 := (D.cell 0).1; have e1 := (D.cell 1).1; have e2 := (D.cell 2).1; have e3 := (D.cell 3).1; have e4 := (D.cell 4).1; have e5 := (D.cell 5).1; have e6 := (D.cell 6).1; have e7 := (D.cell 7).1; have bb := below_more HB.out.2.1 d1; have hw1 := Nat.lt_of_lt_of_le HB.out.2.2 d1.size))
    go_ret
    exact ⟨by first | rfl | simp | (simp; omega), bb⟩
   | true =>
    cases hb : (b == 0) with
    | false =>
     have hr' : r = false := by rw [← hr]; simp [hm0, hn0, hb]
     subst hr'
     clear hr
     go_enter Tryz.func20, Tryz.ntmps20
     go_wp2_with (first
      | (go_at_call 42; (with_reducible refine Calls.mono (EQ _ HB.out.2.1 _ rfl) ?_); rintro e w1 ⟨rfl, d1⟩; have D := HB.out.1.more d1; have e0 := (D.cell 0).1; have e1 := (D.cell 1).1; have e2 := (D.cell 2).1; have e3 := (D.cell 3).1; have e4 := (D.cell 4).1; have e5 := (D.cell 5).1; have e6 := (D.cell 6).1; have e7 := (D.cell 7).1; have bb := below_more HB.out.2.1 d1; have hw1 := Nat.lt_of_lt_of_le HB.out.2.2 d1.size))
     go_ret
     exact ⟨by first | rfl | simp | (simp; omega), bb⟩
    | true =>
     cases he1 : decide (-20 ≤ x) with
     | false =>
      have hr' : r = false := by rw [← hr]; simp [hm0, hn0, hb, he1]
      subst hr'
      clear hr
      have k20 : ¬ (-20 ≤ x) := decide_eq_false_iff_not.1 he1
      go_enter Tryz.func20, Tryz.ntmps20
      go_wp2_with (first
       | (go_at_call 42; (with_reducible refine Calls.mono (EQ _ HB.out.2.1 _ rfl) ?_); rintro e w1 ⟨rfl, d1⟩; have D := HB.out.1.more d1; have e0 := (D.cell 0).1; have e1 := (D.cell 1).1; have e2 := (D.cell 2).1; have e3 := (D.cell 3).1; have e4 := (D.cell 4).1; have e5 := (D.cell 5).1; have e6 := (D.cell 6).1; have e7 := (D.cell 7).1; have bb := below_more HB.out.2.1 d1; have hw1 := Nat.lt_of_lt_of_le HB.out.2.2 d1.size))
      go_ret
      exact ⟨by first | rfl | simp | (simp; omega), bb⟩
     | true =>
      have k20 : -20 ≤ x := decide_eq_true_iff.1 he1
      cases he2 : decide (x ≤ 20) with
      | false =>
       have hr' : r = false := by rw [← hr]; simp [hm0, hn0, hb, he1, he2]
       subst hr'
       clear hr
       have k21 : ¬ (x ≤ 20) := decide_eq_false_iff_not.1 he2
       go_enter Tryz.func20, Tryz.ntmps20
       go_wp2_with (first
        | (go_at_call 42; (with_reducible refine Calls.mono (EQ _ HB.out.2.1 _ rfl) ?_); rintro e w1 ⟨rfl, d1⟩; have D := HB.out.1.more d1; have e0 := (D.cell 0).1; have e1 := (D.cell 1).1; have e2 := (D.cell 2).1; have e3 := (D.cell 3).1; have e4 := (D.cell 4).1; have e5 := (D.cell 5).1; have e6 := (D.cell 6).1; have e7 := (D.cell 7).1; have bb := below_more HB.out.2.1 d1; have hw1 := Nat.lt_of_lt_of_le HB.out.2.2 d1.size))
       go_ret
       exact ⟨by first | rfl | simp | (simp; omega), bb⟩
      | true =>
       have k21 : x ≤ 20 := decide_eq_true_iff.1 he2
       have hr' : r = true := by rw [← hr]; simp [hm0, hn0, hb, he1, he2]
       subst hr'
       clear hr
       go_enter Tryz.func20, Tryz.ntmps20
       go_wp2_with (first
        | (go_at_call 42; (with_reducible refine Calls.mono (EQ _ HB.out.2.1 _ rfl) ?_); rintro e w1 ⟨rfl, d1⟩; have D := HB.out.1.more d1; have e0 := (D.cell 0).1; have e1 := (D.cell 1).1; have e2 := (D.cell 2).1; have e3 := (D.cell 3).1; have e4 := (D.cell 4).1; have e5 := (D.cell 5).1; have e6 := (D.cell 6).1; have e7 := (D.cell 7).1; have bb := below_more HB.out.2.1 d1; have hw1 := Nat.lt_of_lt_of_le HB.out.2.2 d1.size))
       go_ret
       exact ⟨by first | rfl | simp | (simp; omega), bb⟩
 have hr' : r = false := by
  rw [← hr, if_neg k0, if_neg k1, if_neg (by omega), if_neg k6, if_neg k7]
 subst hr'
 have g0 : (k == 0) = false := by rw [beq_eq_false_iff_ne]; exact k0
 have g1 : (k == 1) = false := by rw [beq_eq_false_iff_ne]; exact k1
 have g6 : (k == 6) = false := by rw [beq_eq_false_iff_ne]; exact k6
 have g7 : (k == 7) = false := by rw [beq_eq_false_iff_ne]; exact k7
 by_cases j2 : 2 ≤ k
 ·have j5 : ¬ k ≤ 5 := by omega
  clear hr k0 k1 k2 k3 k4 k5 k6 k7
  go_enter Tryz.func20, Tryz.ntmps20
  go_wp2_with (first
   | (go_at_call 42; (with_reducible refine Calls.mono (EQ _ HB.out.2.1 _ rfl) ?_); rintro e w1 ⟨rfl, d1⟩; have D := HB.out.1.more d1; have e0 := (D.cell 0).1; have e1 := (D.cell 1).1; have e2 := (D.cell 2).1; have e3 := (D.cell 3).1; have e4 := (D.cell 4).1; have e5 := (D.cell 5).1; have e6 := (D.cell 6).1; have e7 := (D.cell 7).1; have bb := below_more HB.out.2.1 d1; have hw1 := Nat.lt_of_lt_of_le HB.out.2.2 d1.size))
  go_ret
  exact ⟨by first | rfl | simp | (simp; omega), bb⟩
 ·have j3 : decide (2 ≤ k) = false := decide_eq_false j2
  clear hr k0 k1 k2 k3 k4 k5 k6 k7 j2
  go_enter Tryz.func20, Tryz.ntmps20
  go_wp2_with (first
   | (go_at_call 42; (with_reducible refine Calls.mono (EQ _ HB.out.2.1 _ rfl) ?_); rintro e w1 ⟨rfl, d1⟩; have D := HB.out.1.more d1; have e0 := (D.cell 0).1; have e1 := (D.cell 1).1; have e2 := (D.cell 2).1; have e3 := (D.cell 3).1; have e4 := (D.cell 4).1; have e5 := (D.cell 5).1; have e6 := (D.cell 6).1; have e7 := (D.cell 7).1; have bb := below_more HB.out.2.1 d1; have hw1 := Nat.lt_of_lt_of_le HB.out.2.2 d1.size))
  go_ret
  exact ⟨by first | rfl | simp | (simp; omega), bb⟩
end
end Go.Proofs.YtaeladkcmpdkhaaGreatDoor
