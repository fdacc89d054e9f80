/-
  Texts of mine in build order. No conditions of their own.
-/
import Derived.Test.YtaeladkcmpdkhaaGreatDoorPack22
set_option maxHeartbeats 64000000
namespace Go.Proofs.YtaeladkcmpdkhaaGreatDoor
section
open Go.RowKit Go.Lib
def emptyB (x : ByteArray) : Bool := x.toList == []
def noneB (m : Nw) : Bool := !m.neg && decide (m.xs.length = 0) && decide (m.ys.length = 0)
def fillR (m : Nw) : Bool :=
 if m.kind = 0 then nameB m.name && (m.a == 0) && (m.b == 0) && (m.exp == 0) && noneB m
 else if m.kind = 1 then numR m.neg m.xs m.ys && (m.a == 0) && (m.b == 0) && (m.exp == 0) && emptyB m.name
 else if m.kind = 2 ∨ m.kind = 3 ∨ m.kind = 4 ∨ m.kind = 5 then (m.exp == 0) && emptyB m.name && noneB m
 else if m.kind = 6 then (m.b == 0) && (m.exp == 0) && emptyB m.name && noneB m
 else if m.kind = 7 then decide (-20 ≤ m.exp ∧ m.exp ≤ 20) && (m.b == 0) && emptyB m.name && noneB m
 else false
theorem tree_filled {w : World} {k a b x : Int} {nm : ByteArray} {ng : Bool} {ua va : Option Addr} {uc vc : Nat} {xs ys : List Int} (hu : IsWords w (.slice ua xs.length uc) xs) (hx : Wd xs) (hv : IsWords w (.slice va ys.length vc) ys) (hy : Wd ys) (hn : xs.length ≤ 10000) (hm : ys.length ≤ 10000) (hs : nm.size ≤ 1000000) (r : Bool) (hr : fillR ⟨k, a, b, x, nm, ng, xs, ys⟩ = r) :
  Calls Tryz.prog 92 #[.agg #[.int .i64 k, .int .i64 a, .int .i64 b, .int .i64 x, .string nm, .bool ng, .slice ua xs.length uc, .slice va ys.length vc]] w fun e w' => e = .returned (.bool r) ∧ Below w.heap.size w w' := by
 have NO := fun (v : World) (q : Bool) (hq : noneB ⟨k, a, b, x, nm, ng, xs, ys⟩ = q) => tree_none ng ua xs.length uc va ys.length vc q hq v
 have NZ := fun (v : World) => tree_none false none 0 0 none 0 0 true rfl v
 have NU := fun (v : World) (dv : Below w.heap.size w v) (q : Bool) (hq : numR ng xs ys = q) => tree_number (hu.below dv) hx (hv.below dv) hy hn hm rfl rfl q hq
 have SN := fun (v : World) (q : Bool) (hq : nameB nm = q) => sign_name nm v hs q hq
 obtain ⟨b1, b2, bV, hV⟩ := boxes2 w #[.int .i64 k, .int .i64 a, .int .i64 b, .int .i64 x, .string nm, .bool ng, .slice ua xs.length uc, .slice va ys.length vc] #[.int .i64 k, .int .i64 a, .int .i64 b, .int .i64 x, .string nm, .bool ng, .slice ua xs.length uc, .slice va ys.length vc] 47 47
 have HB : Hid (BoxC _ _ _ _ ∧ Below w.heap.size w _ ∧ w.heap.size + 1 < _) := ⟨b2, bV, hV⟩
 have HE : ∀ y : ByteArray, emptyB y = (y.toList == []) := fun _ => rfl
 unfold fillR at hr
 dsimp only at hr
 generalize hnone : noneB ⟨k, a, b, x, nm, ng, xs, ys⟩ = nb at *
 generalize hnum : numR ng xs ys = qb at *
 generalize hname : nameB nm = sb at *
 rw [HE] at hr
 clear b1 b2 bV hV hu hx hv hy hn hm hs HE
 by_cases k0 : k = 0
 ·subst k0
  have HB2 := HB.out.2.1
  rw [if_pos (by decide)] at hr
  cases hs0 : sb with
  | false =>
   have hr' : r = false := by rw [← hr]; simp [hs0]
   subst hr'
   clear hr
   go_enter Tryz.func92, Tryz.ntmps92
   go_wp2_with (first
    | (go_at_call 62; (with_reducible refine Calls.mono (SN _ _ rfl) ?_); rintro e w1 ⟨rfl, d1⟩; have D := HB.out.1.more d1; have e0 := (D.cell 0).1; have e1 := (D.cell 1).1; have e2 := (D.cell 2).1; have e3 := (D.cell 3).1; have e4 := (D.cell 4).1; have e5 := (D.cell 5).1; have e6 := (D.cell 6).1; have e7 := (D.cell 7).1; have f0 := (D.cell 0).2; have f1 := (D.cell 1).2; have f2 := (D.cell 2).2; have f3 := (D.cell 3).2; have f4 := (D.cell 4).2; have f5 := (D.cell 5).2; have f6 := (D.cell 6).2; have f7 := (D.cell 7).2; have bb := below_more HB.out.2.1 d1))
   go_ret
   exact ⟨rfl, by (repeat' first | exact bb | with_reducible refine Below.alloc ?_ ?_ _ | with_reducible refine Below.setCell ?_ ?_ _ | with_reducible refine Below.drew ?_ | exact Below.refl _ _ | exact Nat.le_succ _ | exact Nat.le_refl _ | (simp; done) | (simp; omega))⟩
  | true =>
   cases ha : (a == 0) with
   | false =>
    have hr' : r = false := by rw [← hr]; simp [hs0, ha]
    subst hr'
    clear hr
    go_enter Tryz.func92, Tryz.ntmps92
    go_wp2_with (first
     | (go_at_call 62; (with_reducible refine Calls.mono (SN _ _ rfl) ?_); rintro e w1 ⟨rfl, d1⟩; have D := HB.out.1.more d1; have e0 := (D.cell 0).1; have e1 := (D.cell 1).1; have e2 := (D.cell 2).1; have e3 := (D.cell 3).1; have e4 := (D.cell 4).1; have e5 := (D.cell 5).1; have e6 := (D.cell 6).1; have e7 := (D.cell 7).1; have f0 := (D.cell 0).2; have f1 := (D.cell 1).2; have f2 := (D.cell 2).2; have f3 := (D.cell 3).2; have f4 := (D.cell 4).2; have f5 := (D.cell 5).2; have f6 := (D.cell 6).2; have f7 := (D.cell 7).2; have bb := below_more HB.out.2.1 d1))
    go_ret
    exact ⟨rfl, by (repeat' first | exact bb | with_reducible refine Below.alloc ?_ ?_ _ | with_reducible refine Below.setCell ?_ ?_ _ | with_reducible refine Below.drew ?_ | exact Below.refl _ _ | exact Nat.le_succ _ | exact Nat.le_refl _ | (simp; done) | (simp; omega))⟩
   | true =>
    cases hb : (b == 0) with
    | false =>
     have hr' : r = false := by rw [← hr]; simp [hs0, ha, hb]
     subst hr'
     clear hr
     go_enter Tryz.func92, Tryz.ntmps92
     go_wp2_with (first
      | (go_at_call 62; (with_reducible refine Calls.mono (SN _ _ rfl) ?_); rintro e w1 ⟨rfl, d1⟩; have D := HB.out.1.more d1; have e0 := (D.cell 0).1; have e1 := (D.cell 1).1; have e2 := (D.cell 2).1; have e3 := (D.cell 3).1; have e4 := (D.cell 4).1; have e5 := (D.cell 5).1; have e6 := (D.cell 6).1; have e7 := (D.cell 7).1; have f0 := (D.cell 0).2; have f1 := (D.cell 1).2; have f2 := (D.cell 2).2; have f3 := (D.cell 3).2; have f4 := (D.cell 4).2; have f5 := (D.cell 5).2; have f6 := (D.cell 6).2; have f7 := (D.cell 7).2; have bb := below_more HB.out.2.1 d1))
     go_ret
     exact ⟨rfl, by (repeat' first | exact bb | with_reducible refine Below.alloc ?_ ?_ _ | with_reducible refine Below.setCell ?_ ?_ _ | with_reducible refine Below.drew ?_ | exact Below.refl _ _ | exact Nat.le_succ _ | exact Nat.le_refl _ | (simp; done) | (simp; omega))⟩
    | true =>
     cases hx0 : (x == 0) with
     | false =>
      have hr' : r = false := by rw [← hr]; simp [hs0, ha, hb, hx0]
      subst hr'
      clear hr
      go_enter Tryz.func92, Tryz.ntmps92
      go_wp2_with (first
       | (go_at_call 62; (with_reducible refine Calls.mono (SN _ _ rfl) ?_); rintro e w1 ⟨rfl, d1⟩; have D := HB.out.1.more d1; have e0 := (D.cell 0).1; have e1 := (D.cell 1).1; have e2 := (D.cell 2).1; have e3 := (D.cell 3).1; have e4 := (D.cell 4).1; have e5 := (D.cell 5).1; have e6 := (D.cell 6).1; have e7 := (D.cell 7).1; have f0 := (D.cell 0).2; have f1 := (D.cell 1).2; have f2 := (D.cell 2).2; have f3 := (D.cell 3).2; have f4 := (D.cell 4).2; have f5 := (D.cell 5).2; have f6 := (D.cell 6).2; have f7 := (D.cell 7).2; have bb := below_more HB.out.2.1 d1))
      go_ret
      exact ⟨rfl, by (repeat' first | exact bb | with_reducible refine Below.alloc ?_ ?_ _ | with_reducible refine Below.setCell ?_ ?_ _ | with_reducible refine Below.drew ?_ | exact Below.refl _ _ | exact Nat.le_succ _ | exact Nat.le_refl _ | (simp; done) | (simp; omega))⟩
     | true =>
      have hr' : r = nb := by rw [← hr]; simp [hs0, ha, hb, hx0]
      subst hr'
      clear hr
      go_enter Tryz.func92, Tryz.ntmps92
      go_wp2_with (first
       | (go_at_call 62; (with_reducible refine Calls.mono (SN _ _ rfl) ?_); rintro e w1 ⟨rfl, d1⟩; have D := HB.out.1.more d1; have e0 := (D.cell 0).1; have e1 := (D.cell 1).1; have e2 := (D.cell 2).1; have e3 := (D.cell 3).1; have e4 := (D.cell 4).1; have e5 := (D.cell 5).1; have e6 := (D.cell 6).1; have e7 := (D.cell 7).1; have f0 := (D.cell 0).2; have f1 := (D.cell 1).2; have f2 := (D.cell 2).2; have f3 := (D.cell 3).2; have f4 := (D.cell 4).2; have f5 := (D.cell 5).2; have f6 := (D.cell 6).2; have f7 := (D.cell 7).2; have bb := below_more HB.out.2.1 d1)
       | (go_at_call 124; (with_reducible refine Calls.mono (NO _ _ rfl) ?_); rintro e w2 ⟨rfl, d2⟩))
      go_ret
      exact ⟨rfl, by (repeat' first | exact bb | with_reducible refine below_more ?_ d2 | with_reducible refine Below.alloc ?_ ?_ _ | with_reducible refine Below.setCell ?_ ?_ _ | with_reducible refine Below.drew ?_ | exact Below.refl _ _ | exact Nat.le_succ _ | exact Nat.le_refl _ | (simp; done) | (simp; omega))⟩
 by_cases k1 : k = 1
 ·subst k1
  have HB2 := HB.out.2.1
  rw [if_neg (by decide), if_pos (by decide)] at hr
  cases hq0 : qb with
  | false =>
   have hr' : r = false := by rw [← hr]; simp [hq0]
   subst hr'
   clear hr
   go_enter Tryz.func92, Tryz.ntmps92
   go_wp2_with (first
    | (go_at_call 123; (with_reducible refine Calls.mono (NU _ HB.out.2.1 _ rfl) ?_); rintro e w1 ⟨rfl, d1⟩; have D := HB.out.1.more d1; have e0 := (D.cell 0).1; have e1 := (D.cell 1).1; have e2 := (D.cell 2).1; have e3 := (D.cell 3).1; have e4 := (D.cell 4).1; have e5 := (D.cell 5).1; have e6 := (D.cell 6).1; have e7 := (D.cell 7).1; have f0 := (D.cell 0).2; have f1 := (D.cell 1).2; have f2 := (D.cell 2).2; have f3 := (D.cell 3).2; have f4 := (D.cell 4).2; have f5 := (D.cell 5).2; have f6 := (D.cell 6).2; have f7 := (D.cell 7).2; have bb := below_more HB.out.2.1 d1))
   go_ret
   exact ⟨rfl, by (repeat' first | exact bb | with_reducible refine Below.alloc ?_ ?_ _ | with_reducible refine Below.setCell ?_ ?_ _ | with_reducible refine Below.drew ?_ | exact Below.refl _ _ | exact Nat.le_succ _ | exact Nat.le_refl _ | (simp; done) | (simp; omega))⟩
  | true =>
   cases ha : (a == 0) with
   | false =>
    have hr' : r = false := by rw [← hr]; simp [hq0, ha]
    subst hr'
    clear hr
    go_enter Tryz.func92, Tryz.ntmps92
    go_wp2_with (first
     | (go_at_call 123; (with_reducible refine Calls.mono (NU _ HB.out.2.1 _ rfl) ?_); rintro e w1 ⟨rfl, d1⟩; have D := HB.out.1.more d1; have e0 := (D.cell 0).1; have e1 := (D.cell 1).1; have e2 := (D.cell 2).1; have e3 := (D.cell 3).1; have e4 := (D.cell 4).1; have e5 := (D.cell 5).1; have e6 := (D.cell 6).1; have e7 := (D.cell 7).1; have f0 := (D.cell 0).2; have f1 := (D.cell 1).2; have f2 := (D.cell 2).2; have f3 := (D.cell 3).2; have f4 := (D.cell 4).2; have f5 := (D.cell 5).2; have f6 := (D.cell 6).2; have f7 := (D.cell 7).2; have bb := below_more HB.out.2.1 d1))
    go_ret
    exact ⟨rfl, by (repeat' first | exact bb | with_reducible refine Below.alloc ?_ ?_ _ | with_reducible refine Below.setCell ?_ ?_ _ | with_reducible refine Below.drew ?_ | exact Below.refl _ _ | exact Nat.le_succ _ | exact Nat.le_refl _ | (simp; done) | (simp; omega))⟩
   | true =>
    cases hb : (b == 0) with
    | false =>
     have hr' : r = false := by rw [← hr]; simp [hq0, ha, hb]
     subst hr'
     clear hr
     go_enter Tryz.func92, Tryz.ntmps92
     go_wp2_with (first
      | (go_at_call 123; (with_reducible refine Calls.mono (NU _ HB.out.2.1 _ rfl) ?_); rintro e w1 ⟨rfl, d1⟩; have D := HB.out.1.more d1; have e0 := (D.cell 0).1; have e1 := (D.cell 1).1; have e2 := (D.cell 2).1; have e3 := (D.cell 3).1; have e4 := (D.cell 4).1; have e5 := (D.cell 5).1; have e6 := (D.cell 6).1; have e7 := (D.cell 7).1; have f0 := (D.cell 0).2; have f1 := (D.cell 1).2; have f2 := (D.cell 2).2; have f3 := (D.cell 3).2; have f4 := (D.cell 4).2; have f5 := (D.cell 5).2; have f6 := (D.cell 6).2; have f7 := (D.cell 7).2; have bb := below_more HB.out.2.1 d1))
     go_ret
     exact ⟨rfl, by (repeat' first | exact bb | with_reducible refine Below.alloc ?_ ?_ _ | with_reducible refine Below.setCell ?_ ?_ _ | with_reducible refine Below.drew ?_ | exact Below.refl _ _ | exact Nat.le_succ _ | exact Nat.le_refl _ | (simp; done) | (simp; omega))⟩
    | true =>
     cases hx0 : (x == 0) with
     | false =>
      have hr' : r = false := by rw [← hr]; simp [hq0, ha, hb, hx0]
      subst hr'
      clear hr
      go_enter Tryz.func92, Tryz.ntmps92
      go_wp2_with (first
       | (go_at_call 123; (with_reducible refine Calls.mono (NU _ HB.out.2.1 _ rfl) ?_); rintro e w1 ⟨rfl, d1⟩; have D := HB.out.1.more d1; have e0 := (D.cell 0).1; have e1 := (D.cell 1).1; have e2 := (D.cell 2).1; have e3 := (D.cell 3).1; have e4 := (D.cell 4).1; have e5 := (D.cell 5).1; have e6 := (D.cell 6).1; have e7 := (D.cell 7).1; have f0 := (D.cell 0).2; have f1 := (D.cell 1).2; have f2 := (D.cell 2).2; have f3 := (D.cell 3).2; have f4 := (D.cell 4).2; have f5 := (D.cell 5).2; have f6 := (D.cell 6).2; have f7 := (D.cell 7).2; have bb := below_more HB.out.2.1 d1))
      go_ret
      exact ⟨rfl, by (repeat' first | exact bb | with_reducible refine Below.alloc ?_ ?_ _ | with_reducible refine Below.setCell ?_ ?_ _ | with_reducible refine Below.drew ?_ | exact Below.refl _ _ | exact Nat.le_succ _ | exact Nat.le_refl _ | (simp; done) | (simp; omega))⟩
     | true =>
      cases hm0 : (nm.toList == []) with
      | false =>
       have hr' : r = false := by rw [← hr]; simp [hq0, ha, hb, hx0, hm0]
       subst hr'
       clear hr
       go_enter Tryz.func92, Tryz.ntmps92
       go_wp2_with (first
        | (go_at_call 123; (with_reducible refine Calls.mono (NU _ HB.out.2.1 _ rfl) ?_); rintro e w1 ⟨rfl, d1⟩; have D := HB.out.1.more d1; have e0 := (D.cell 0).1; have e1 := (D.cell 1).1; have e2 := (D.cell 2).1; have e3 := (D.cell 3).1; have e4 := (D.cell 4).1; have e5 := (D.cell 5).1; have e6 := (D.cell 6).1; have e7 := (D.cell 7).1; have f0 := (D.cell 0).2; have f1 := (D.cell 1).2; have f2 := (D.cell 2).2; have f3 := (D.cell 3).2; have f4 := (D.cell 4).2; have f5 := (D.cell 5).2; have f6 := (D.cell 6).2; have f7 := (D.cell 7).2; have bb := below_more HB.out.2.1 d1))
       go_ret
       exact ⟨rfl, by (repeat' first | exact bb | with_reducible refine Below.alloc ?_ ?_ _ | with_reducible refine Below.setCell ?_ ?_ _ | with_reducible refine Below.drew ?_ | exact Below.refl _ _ | exact Nat.le_succ _ | exact Nat.le_refl _ | (simp; done) | (simp; omega))⟩
      | true =>
       have hr' : r = true := by rw [← hr]; simp [hq0, ha, hb, hx0, hm0]
       subst hr'
       clear hr
       go_enter Tryz.func92, Tryz.ntmps92
       go_wp2_with (first
        | (go_at_call 123; (with_reducible refine Calls.mono (NU _ HB.out.2.1 _ rfl) ?_); rintro e w1 ⟨rfl, d1⟩; have D := HB.out.1.more d1; have e0 := (D.cell 0).1; have e1 := (D.cell 1).1; have e2 := (D.cell 2).1; have e3 := (D.cell 3).1; have e4 := (D.cell 4).1; have e5 := (D.cell 5).1; have e6 := (D.cell 6).1; have e7 := (D.cell 7).1; have f0 := (D.cell 0).2; have f1 := (D.cell 1).2; have f2 := (D.cell 2).2; have f3 := (D.cell 3).2; have f4 := (D.cell 4).2; have f5 := (D.cell 5).2; have f6 := (D.cell 6).2; have f7 := (D.cell 7).2; have bb := below_more HB.out.2.1 d1)
        | (go_at_call 124; (with_reducible refine Calls.mono (NZ _) ?_); rintro e w2 ⟨rfl, d2⟩))
       go_ret
       exact ⟨rfl, by (repeat' first | exact bb | with_reducible refine below_more ?_ d2 | with_reducible refine Below.alloc ?_ ?_ _ | with_reducible refine Below.setCell ?_ ?_ _ | with_reducible refine Below.drew ?_ | exact Below.refl _ _ | exact Nat.le_succ _ | exact Nat.le_refl _ | (simp; done) | (simp; omega))⟩
 by_cases k2 : k = 2
 ·subst k2
  have HB2 := HB.out.2.1
  rw [if_neg (by decide), if_neg (by decide), if_pos (by decide)] at hr
  cases hx0 : (x == 0) with
  | false =>
   have hr' : r = false := by rw [← hr]; simp [hx0]
   subst hr'
   clear hr
   go_enter Tryz.func92, Tryz.ntmps92
   go_wp2
   go_ret
   exact ⟨rfl, by (repeat' first | exact HB2 | with_reducible refine Below.alloc ?_ ?_ _ | with_reducible refine Below.setCell ?_ ?_ _ | with_reducible refine Below.drew ?_ | exact Below.refl _ _ | exact Nat.le_succ _ | exact Nat.le_refl _ | (simp; done) | (simp; omega))⟩
  | true =>
   cases hm0 : (nm.toList == []) with
   | false =>
    have hr' : r = false := by rw [← hr]; simp [hx0, hm0]
    subst hr'
    clear hr
    go_enter Tryz.func92, Tryz.ntmps92
    go_wp2
    go_ret
    exact ⟨rfl, by (repeat' first | exact HB2 | with_reducible refine Below.alloc ?_ ?_ _ | with_reducible refine Below.setCell ?_ ?_ _ | with_reducible refine Below.drew ?_ | exact Below.refl _ _ | exact Nat.le_succ _ | exact Nat.le_refl _ | (simp; done) | (simp; omega))⟩
   | true =>
    have hr' : r = nb := by rw [← hr]; simp [hx0, hm0]
    subst hr'
    clear hr
    go_enter Tryz.func92, Tryz.ntmps92
    go_wp2_with (first
     | (go_at_call 124; (with_reducible refine Calls.mono (NO _ _ rfl) ?_); rintro e w2 ⟨rfl, d2⟩))
    go_ret
    exact ⟨rfl, by (repeat' first | exact HB2 | with_reducible refine below_more ?_ d2 | with_reducible refine Below.alloc ?_ ?_ _ | with_reducible refine Below.setCell ?_ ?_ _ | with_reducible refine Below.drew ?_ | exact Below.refl _ _ | exact Nat.le_succ _ | exact Nat.le_refl _ | (simp; done) | (simp; omega))⟩
 by_cases k3 : k = 3
 ·subst k3
  have HB2 := HB.out.2.1
  rw [if_neg (by decide), if_neg (by decide), if_pos (by decide)] at hr
  cases hx0 : (x == 0) with
  | false =>
   have hr' : r = false := by rw [← hr]; simp [hx0]
   subst hr'
   clear hr
   go_enter Tryz.func92, Tryz.ntmps92
   go_wp2
   go_ret
   exact ⟨rfl, by (repeat' first | exact HB2 | with_reducible refine Below.alloc ?_ ?_ _ | with_reducible refine Below.setCell ?_ ?_ _ | with_reducible refine Below.drew ?_ | exact Below.refl _ _ | exact Nat.le_succ _ | exact Nat.le_refl _ | (simp; done) | (simp; omega))⟩
  | true =>
   cases hm0 : (nm.toList == []) with
   | false =>
    have hr' : r = false := by rw [← hr]; simp [hx0, hm0]
    subst hr'
    clear hr
    go_enter Tryz.func92, Tryz.ntmps92
    go_wp2
    go_ret
    exact ⟨rfl, by (repeat' first | exact HB2 | with_reducible refine Below.alloc ?_ ?_ _ | with_reducible refine Below.setCell ?_ ?_ _ | with_reducible refine Below.drew ?_ | exact Below.refl _ _ | exact Nat.le_succ _ | exact Nat.le_refl _ | (simp; done) | (simp; omega))⟩
   | true =>
    have hr' : r = nb := by rw [← hr]; simp [hx0, hm0]
    subst hr'
    clear hr
    go_enter Tryz.func92, Tryz.ntmps92
    go_wp2_with (first
     | (go_at_call 124; (with_reducible refine Calls.mono (NO _ _ rfl) ?_); rintro e w2 ⟨rfl, d2⟩))
    go_ret
    exact ⟨rfl, by (repeat' first | exact HB2 | with_reducible refine below_more ?_ d2 | with_reducible refine Below.alloc ?_ ?_ _ | with_reducible refine Below.setCell ?_ ?_ _ | with_reducible refine Below.drew ?_ | exact Below.refl _ _ | exact Nat.le_succ _ | exact Nat.le_refl _ | (simp; done) | (simp; omega))⟩
 by_cases k4 : k = 4
 ·subst k4
  have HB2 := HB.out.2.1
  rw [if_neg (by decide), if_neg (by decide), if_pos (by decide)] at hr
  cases hx0 : (x == 0) with
  | false =>
   have hr' : r = false := by rw [← hr]; simp [hx0]
   subst hr'
   clear hr
   go_enter Tryz.func92, Tryz.ntmps92
   go_wp2
   go_ret
   exact ⟨rfl, by (repeat' first | exact HB2 | with_reducible refine Below.alloc ?_ ?_ _ | with_reducible refine Below.setCell ?_ ?_ _ | with_reducible refine Below.drew ?_ | exact Below.refl _ _ | exact Nat.le_succ _ | exact Nat.le_refl _ | (simp; done) | (simp; omega))⟩
  | true =>
   cases hm0 : (nm.toList == []) with
   | false =>
    have hr' : r = false := by rw [← hr]; simp [hx0, hm0]
    subst hr'
    clear hr
    go_enter Tryz.func92, Tryz.ntmps92
    go_wp2
    go_ret
    exact ⟨rfl, by (repeat' first | exact HB2 | with_reducible refine Below.alloc ?_ ?_ _ | with_reducible refine Below.setCell ?_ ?_ _ | with_reducible refine Below.drew ?_ | exact Below.refl _ _ | exact Nat.le_succ _ | exact Nat.le_refl _ | (simp; done) | (simp; omega))⟩
   | true =>
    have hr' : r = nb := by rw [← hr]; simp [hx0, hm0]
    subst hr'
    clear hr
    go_enter Tryz.func92, Tryz.ntmps92
    go_wp2_with (first
     | (go_at_call 124; (with_reducible refine Calls.mono (NO _ _ rfl) ?_); rintro e w2 ⟨rfl, d2⟩))
    go_ret
    exact ⟨rfl, by (repeat' first | exact HB2 | with_reducible refine below_more ?_ d2 | with_reducible refine Below.alloc ?_ ?_ _ | with_reducible refine Below.setCell ?_ ?_ _ | with_reducible refine Below.drew ?_ | exact Below.refl _ _ | exact Nat.le_succ _ | exact Nat.le_refl _ | (simp; done) | (simp; omega))⟩
 by_cases k5 : k = 5
 ·subst k5
  have HB2 := HB.out.2.1
  rw [if_neg (by decide), if_neg (by decide), if_pos (by decide)] at hr
  cases hx0 : (x == 0) with
  | false =>
   have hr' : r = false := by rw [← hr]; simp [hx0]
   subst hr'
   clear hr
   go_enter Tryz.func92, Tryz.ntmps92
   go_wp2
   go_ret
   exact ⟨rfl, by (repeat' first | exact HB2 | with_reducible refine Below.alloc ?_ ?_ _ | with_reducible refine Below.setCell ?_ ?_ _ | with_reducible refine Below.drew ?_ | exact Below.refl _ _ | exact Nat.le_succ _ | exact Nat.le_refl _ | (simp; done) | (simp; omega))⟩
  | true =>
   cases hm0 : (nm.toList == []) with
   | false =>
    have hr' : r = false := by rw [← hr]; simp [hx0, hm0]
    subst hr'
    clear hr
    go_enter Tryz.func92, Tryz.ntmps92
    go_wp2
    go_ret
    exact ⟨rfl, by (repeat' first | exact HB2 | with_reducible refine Below.alloc ?_ ?_ _ | with_reducible refine Below.setCell ?_ ?_ _ | with_reducible refine Below.drew ?_ | exact Below.refl _ _ | exact Nat.le_succ _ | exact Nat.le_refl _ | (simp; done) | (simp; omega))⟩
   | true =>
    have hr' : r = nb := by rw [← hr]; simp [hx0, hm0]
    subst hr'
    clear hr
    go_enter Tryz.func92, Tryz.ntmps92
    go_wp2_with (first
     | (go_at_call 124; (with_reducible refine Calls.mono (NO _ _ rfl) ?_); rintro e w2 ⟨rfl, d2⟩))
    go_ret
    exact ⟨rfl, by (repeat' first | exact HB2 | with_reducible refine below_more ?_ d2 | with_reducible refine Below.alloc ?_ ?_ _ | with_reducible refine Below.setCell ?_ ?_ _ | with_reducible refine Below.drew ?_ | exact Below.refl _ _ | exact Nat.le_succ _ | exact Nat.le_refl _ | (simp; done) | (simp; omega))⟩
 by_cases k6 : k = 6
 ·subst k6
  have HB2 := HB.out.2.1
  rw [if_neg (by decide), if_neg (by decide), if_neg (by decide), if_pos (by decide)] at hr
  cases hb : (b == 0) with
  | false =>
   have hr' : r = false := by rw [← hr]; simp [hb]
   subst hr'
   clear hr
   go_enter Tryz.func92, Tryz.ntmps92
   go_wp2
   go_ret
   exact ⟨rfl, by (repeat' first | exact HB2 | with_reducible refine Below.alloc ?_ ?_ _ | with_reducible refine Below.setCell ?_ ?_ _ | with_reducible refine Below.drew ?_ | exact Below.refl _ _ | exact Nat.le_succ _ | exact Nat.le_refl _ | (simp; done) | (simp; omega))⟩
  | true =>
   cases hx0 : (x == 0) with
   | false =>
    have hr' : r = false := by rw [← hr]; simp [hb, hx0]
    subst hr'
    clear hr
    go_enter Tryz.func92, Tryz.ntmps92
    go_wp2
    go_ret
    exact ⟨rfl, by (repeat' first | exact HB2 | with_reducible refine Below.alloc ?_ ?_ _ | with_reducible refine Below.setCell ?_ ?_ _ | with_reducible refine Below.drew ?_ | exact Below.refl _ _ | exact Nat.le_succ _ | exact Nat.le_refl _ | (simp; done) | (simp; omega))⟩
   | true =>
    cases hm0 : (nm.toList == []) with
    | false =>
     have hr' : r = false := by rw [← hr]; simp [hb, hx0, hm0]
     subst hr'
     clear hr
     go_enter Tryz.func92, Tryz.ntmps92
     go_wp2
     go_ret
     exact ⟨rfl, by (repeat' first | exact HB2 | with_reducible refine Below.alloc ?_ ?_ _ | with_reducible refine Below.setCell ?_ ?_ _ | with_reducible refine Below.drew ?_ | exact Below.refl _ _ | exact Nat.le_succ _ | exact Nat.le_refl _ | (simp; done) | (simp; omega))⟩
    | true =>
     have hr' : r = nb := by rw [← hr]; simp [hb, hx0, hm0]
     subst hr'
     clear hr
     go_enter Tryz.func92, Tryz.ntmps92
     go_wp2_with (first
      | (go_at_call 124; (with_reducible refine Calls.mono (NO _ _ rfl) ?_); rintro e w2 ⟨rfl, d2⟩))
     go_ret
     exact ⟨rfl, by (repeat' first | exact HB2 | with_reducible refine below_more ?_ d2 | with_reducible refine Below.alloc ?_ ?_ _ | with_reducible refine Below.setCell ?_ ?_ _ | with_reducible refine Below.drew ?_ | exact Below.refl _ _ | exact Nat.le_succ _ | exact Nat.le_refl _ | (simp; done) | (simp; omega))⟩
 by_cases k7 : k = 7
 ·subst k7
  have HB2 := HB.out.2.1
  rw [if_neg (by decide), if_neg (by decide), if_neg (by decide), if_neg (by decide), if_pos (by decide)] at hr
  by_cases p1 : -20 ≤ x
  ·by_cases p2 : x ≤ 20
   ·have hp0 : decide (-20 ≤ x ∧ x ≤ 20) = true := decide_eq_true ⟨p1, p2⟩
    rw [hp0] at hr
    clear hp0
    cases hb : (b == 0) with
    | false =>
     have hr' : r = false := by rw [← hr]; simp [hb]
     subst hr'
     clear hr
     go_enter Tryz.func92, Tryz.ntmps92
     go_wp2
     go_region
     all_goals go_wp2
     all_goals go_ret
     all_goals exact ⟨rfl, by (repeat' first | exact HB2 | with_reducible refine Below.alloc ?_ ?_ _ | with_reducible refine Below.setCell ?_ ?_ _ | with_reducible refine Below.drew ?_ | exact Below.refl _ _ | exact Nat.le_succ _ | exact Nat.le_refl _ | (simp; done) | (simp; omega))⟩
    | true =>
     cases hm0 : (nm.toList == []) with
     | false =>
      have hr' : r = false := by rw [← hr]; simp [hb, hm0]
      subst hr'
      clear hr
      go_enter Tryz.func92, Tryz.ntmps92
      go_wp2
      go_region
      all_goals go_wp2
      all_goals go_ret
      all_goals exact ⟨rfl, by (repeat' first | exact HB2 | with_reducible refine Below.alloc ?_ ?_ _ | with_reducible refine Below.setCell ?_ ?_ _ | with_reducible refine Below.drew ?_ | exact Below.refl _ _ | exact Nat.le_succ _ | exact Nat.le_refl _ | (simp; done) | (simp; omega))⟩
     | true =>
      have hr' : r = nb := by rw [← hr]; simp [hb, hm0]
      subst hr'
      clear hr
      go_enter Tryz.func92, Tryz.ntmps92
      go_wp2
      go_region
      all_goals go_wp2_with (first
       | (go_at_call 124; (with_reducible refine Calls.mono (NO _ _ rfl) ?_); rintro e w2 ⟨rfl, d2⟩))
      all_goals go_ret
      all_goals exact ⟨rfl, by (repeat' first | exact HB2 | with_reducible refine below_more ?_ d2 | with_reducible refine Below.alloc ?_ ?_ _ | with_reducible refine Below.setCell ?_ ?_ _ | with_reducible refine Below.drew ?_ | exact Below.refl _ _ | exact Nat.le_succ _ | exact Nat.le_refl _ | (simp; done) | (simp; omega))⟩
   ·have hp0 : decide (-20 ≤ x ∧ x ≤ 20) = false := decide_eq_false (fun q => p2 q.2)
    have hr' : r = false := by rw [← hr, hp0]; simp
    subst hr'
    clear hr hp0
    go_enter Tryz.func92, Tryz.ntmps92
    go_wp2
    go_region
    all_goals go_wp2
    all_goals go_ret
    all_goals exact ⟨rfl, by (repeat' first | exact HB2 | with_reducible refine Below.alloc ?_ ?_ _ | with_reducible refine Below.setCell ?_ ?_ _ | with_reducible refine Below.drew ?_ | exact Below.refl _ _ | exact Nat.le_succ _ | exact Nat.le_refl _ | (simp; done) | (simp; omega))⟩
  ·have hp0 : decide (-20 ≤ x ∧ x ≤ 20) = false := decide_eq_false (fun q => p1 q.1)
   have hr' : r = false := by rw [← hr, hp0]; simp
   subst hr'
   clear hr hp0
   have p3 : decide (-20 ≤ x) = false := decide_eq_false p1
   have p4 : x < -20 := by omega
   go_enter Tryz.func92, Tryz.ntmps92
   go_wp2
   go_region
   all_goals go_wp2
   all_goals go_ret
   all_goals exact ⟨rfl, by (repeat' first | exact HB2 | with_reducible refine Below.alloc ?_ ?_ _ | with_reducible refine Below.setCell ?_ ?_ _ | with_reducible refine Below.drew ?_ | exact Below.refl _ _ | exact Nat.le_succ _ | exact Nat.le_refl _ | (simp; done) | (simp; omega))⟩
 have hr' : r = false := by
  rw [← hr, if_neg k0, if_neg k1, if_neg (by omega), if_neg k6, if_neg k7]
 subst hr'
 have HB2 := HB.out.2.1
 have g0 : (k == 0) = false := by rw [beq_eq_false_iff_ne]; exact k0
 have g1 : (k == 1) = false := by rw [beq_eq_false_iff_ne]; exact k1
 have g2 : (k == 2) = false := by rw [beq_eq_false_iff_ne]; exact k2
 have g3 : (k == 3) = false := by rw [beq_eq_false_iff_ne]; exact k3
 have g4 : (k == 4) = false := by rw [beq_eq_false_iff_ne]; exact k4
 have g5 : (k == 5) = false := by rw [beq_eq_false_iff_ne]; exact k5
 have g6 : (k == 6) = false := by rw [beq_eq_false_iff_ne]; exact k6
 have g7 : (k == 7) = false := by rw [beq_eq_false_iff_ne]; exact k7
 clear hr k0 k1 k2 k3 k4 k5 k6 k7
 go_enter Tryz.func92, Tryz.ntmps92
 go_wp2
 go_ret
 exact ⟨rfl, by (repeat' first | exact HB2 | with_reducible refine Below.alloc ?_ ?_ _ | with_reducible refine Below.setCell ?_ ?_ _ | with_reducible refine Below.drew ?_ | exact Below.refl _ _ | exact Nat.le_succ _ | exact Nat.le_refl _ | (simp; done) | (simp; omega))⟩
end
end Go.Proofs.YtaeladkcmpdkhaaGreatDoor
