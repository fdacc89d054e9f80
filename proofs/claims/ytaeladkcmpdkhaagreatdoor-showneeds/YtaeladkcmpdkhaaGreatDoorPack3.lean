/-
  Texts of mine in build order. No conditions of their own.
-/
import Derived.Laws.AppendOwn
import Derived.Laws.AppendOwnNone
import Derived.Test.YtaeladkcmpdkhaaGreatDoorRows
import Derived.WalkLawsBesides
import Derived.Deep.QuietTactic
import Derived.BigQuiet
import Derived.Outline
import Derived.Lib.BitFns
import Derived.Test.YtaeladkcmpdkhaaGreatDoorPack2
set_option maxHeartbeats 1000000
namespace Go.Proofs.YtaeladkcmpdkhaaGreatDoor
section
open Go.Lib
def moreN (L : List Tok) : Nat → List ByteArray → Rd → List ByteArray × Rd
 | 0, out, r => (out, r)
 | f + 1, out, r => if r.is L 2 [44] = true then moreN L f (out ++ [(r.skip.nameT L).1]) (r.skip.nameT L).2 else (out, r)
def namesI (L : List Tok) (r : Rd) : List ByteArray × Rd :=
 ((moreN L (L.length + 1) [(r.nameT L).1] (r.nameT L).2).1, (moreN L (L.length + 1) [(r.nameT L).1] (r.nameT L).2).2.want L 2 [59])
def oneLet (num : ByteArray → Bool × Nat × Nat) (L : List Tok) (r : Rd) : (ByteArray × Int) × Rd :=
 (((r.nameT L).1, (exprI num L 0 0 ((r.nameT L).2.want L 2 [61])).1), (exprI num L 0 0 ((r.nameT L).2.want L 2 [61])).2.want L 2 [59])
def letsF (num : ByteArray → Bool × Nat × Nat) (L : List Tok) : Nat → List (ByteArray × Int) → Rd → List (ByteArray × Int) × Rd
 | 0, out, r => (out, r)
 | f + 1, out, r => if r.is L 0 [108, 101, 116] = true then letsF num L f (out ++ [(oneLet num L r.skip).1]) (oneLet num L r.skip).2 else (out, r)
structure Pg where
 ins : List ByteArray
 lets : List (ByteArray × Int)
 outs : List ByteArray
 all : List Nd
def noPg : Pg := ⟨[], [], [], []⟩
def startR : Rd := ⟨0, false, []⟩
def insI (L : List Tok) : List ByteArray × Rd := namesI L (startR.want L 0 [105, 110])
def letsI (num : ByteArray → Bool × Nat × Nat) (L : List Tok) : List (ByteArray × Int) × Rd := letsF num L (L.length + 1) [] (insI L).2
def outsI (num : ByteArray → Bool × Nat × Nat) (L : List Tok) : List ByteArray × Rd := namesI L ((letsI num L).2.want L 0 [111, 117, 116])
def progI (num : ByteArray → Bool × Nat × Nat) (L : List Tok) : Pg × Rd :=
 (⟨(insI L).1, (letsI num L).1, (outsI num L).1, (outsI num L).2.all⟩, if (outsI num L).2.pos < L.length then (outsI num L).2.wrong else (outsI num L).2)
def tallF (l : List Nd) : Nat → Int → Int
 | 0, _ => 0
 | f + 1, i => match l[i.toNat]? with
  | none => 0
  | some n => if n.kind ≤ 1 then 1 else if n.kind ≤ 5 then 1 + max (tallF l f n.a) (tallF l f n.b) else 1 + tallF l f n.a
def tallI (l : List Nd) (i : Nat) : Int := tallF l (i + 1) i
theorem on_more (L : List Tok) : ∀ (f : Nat) (out : List ByteArray) (r : Rd), r.On (moreN L f out r).2 ∧ (moreN L f out r).2.all = r.all ∧ ∃ m, (moreN L f out r).1 = out ++ m := by
 intro f
 induction f with
 | zero => intro out r; exact ⟨Rd.On.refl r, rfl, [], by rw [List.append_nil]; rfl⟩
 | succ f ih =>
  intro out r
  unfold moreN
  split
  ·rename_i h
   obtain ⟨h1, h2, m, h3⟩ := ih (out ++ [(r.skip.nameT L).1]) (r.skip.nameT L).2
   have ha : (r.skip.nameT L).2.all = r.all := by
    unfold Rd.nameT
    split
    ·rfl
    ·split
     ·rfl
     ·split <;> rfl
   exact ⟨((r.on_skip (r.is_in h).1).trans (Rd.on_name L _)).trans h1, h2.trans ha, _, by rw [h3, List.append_assoc]⟩
  ·exact ⟨Rd.On.refl r, rfl, [], by rw [List.append_nil]⟩
theorem want_all (L : List Tok) (r : Rd) (k : Int) (x : List UInt8) : (r.want L k x).all = r.all := by unfold Rd.want; split <;> rfl
theorem name_all (L : List Tok) (r : Rd) : (r.nameT L).2.all = r.all := by
 unfold Rd.nameT
 split
 ·rfl
 ·split
  ·rfl
  ·split <;> rfl
theorem on_names (L : List Tok) (r : Rd) : r.On (namesI L r).2 ∧ (namesI L r).2.all = r.all := by
 unfold namesI
 obtain ⟨h1, h2, -⟩ := on_more L (L.length + 1) [(r.nameT L).1] (r.nameT L).2
 exact ⟨((Rd.on_name L r).trans h1).trans (Rd.on_want L _ _ _), by rw [want_all, h2, name_all]⟩
theorem name_good {L : List Tok} {r : Rd} (h : (r.nameT L).2.bad = false) : nameB (r.nameT L).1 = true ∧ ∃ t, L[r.pos]? = some t ∧ t.1 = 0 ∧ (r.nameT L).1 = t.2.1 ∧ (r.nameT L).2 = r.skip := by
 unfold Rd.nameT at h ⊢
 split at h
 ·exact absurd h (by simp [Rd.wrong])
 ·rename_i h0
  rw [if_neg h0]
  split at h
  ·exact absurd h (by simp [Rd.wrong])
  ·rename_i t ht
   split at h
   ·rename_i h1
    rw [if_pos h1]
    exact ⟨h1.2, t, ht, h1.1, rfl, rfl⟩
   ·exact absurd h (by simp [Rd.wrong])
theorem more_good (L : List Tok) : ∀ (f : Nat) (out : List ByteArray) (r : Rd), (moreN L f out r).2.bad = false → (∀ x ∈ out, nameB x = true) → ∀ x ∈ (moreN L f out r).1, nameB x = true := by
 intro f
 induction f with
 | zero => intro out r _ h; exact h
 | succ f ih =>
  intro out r hb h
  unfold moreN at hb ⊢
  split at hb
  ·rename_i h1
   rw [if_pos h1]
   refine ih _ _ hb (fun x hx => ?_)
   rcases List.mem_append.1 hx with hx | hx
   ·exact h x hx
   ·obtain rfl := List.mem_singleton.1 hx
    exact (name_good (Rd.good_of (on_more L f _ _).1 hb)).1
  ·rename_i h1
   rw [if_neg h1]; exact h
theorem names_good {L : List Tok} {r : Rd} (h : (namesI L r).2.bad = false) : 1 ≤ (namesI L r).1.length ∧ ∀ x ∈ (namesI L r).1, nameB x = true := by
 unfold namesI at h ⊢
 have h1 := Rd.good_of (Rd.on_want L _ _ _) h
 obtain ⟨o1, -, m, hm⟩ := on_more L (L.length + 1) [(r.nameT L).1] (r.nameT L).2
 have h2 := Rd.good_of o1 h1
 refine ⟨by show 1 ≤ (moreN L (L.length + 1) [(r.nameT L).1] (r.nameT L).2).1.length; rw [hm]; simp, ?_⟩
 refine more_good L _ _ _ h1 (fun x hx => ?_)
 obtain rfl := List.mem_singleton.1 hx
 exact (name_good h2).1
def LetsEnd (all : List Nd) : Nat → List (ByteArray × Int) → Nat → Prop
 | b, [], e => b = e
 | b, x :: m, e => ∃ i : Nat, x.2 = (i : Int) ∧ nameB x.1 = true ∧ Seg all b i ∧ LetsEnd all (i + 1) m e
theorem on_let (num : ByteArray → Bool × Nat × Nat) (L : List Tok) (r : Rd) : r.On (oneLet num L r).2 := by
 unfold oneLet
 exact (((Rd.on_name L r).trans (Rd.on_want L _ _ _)).trans (on_exprI num L 0 0 _)).trans (Rd.on_want L _ _ _)
theorem let_good {num : ByteArray → Bool × Nat × Nat} {L : List Tok} {r : Rd} (h : (oneLet num L r).2.bad = false) : ∃ i : Nat, (oneLet num L r).1.2 = (i : Int) ∧ nameB (oneLet num L r).1.1 = true ∧ Seg (oneLet num L r).2.all r.all.length i ∧ (oneLet num L r).2.all.length = i + 1 := by
 unfold oneLet at h ⊢
 dsimp only at h ⊢
 have h1 := Rd.good_of (Rd.on_want L _ _ _) h
 have h2 := Rd.good_of (on_exprI num L 0 0 _) h1
 have h3 := Rd.good_of (Rd.on_want L _ _ _) h2
 obtain ⟨i, e1, e2, e3⟩ := (expr_read num L _ 0 0 ((r.nameT L).2.want L 2 [61]) (Nat.le_refl _) h1).1 (by omega) (by omega)
 rw [want_all]
 have ha : ((r.nameT L).2.want L 2 [61]).all = r.all := by rw [want_all, name_all]
 rw [ha] at e3
 exact ⟨i, e1, (name_good h3).1, e3, e2⟩
theorem on_lets (num : ByteArray → Bool × Nat × Nat) (L : List Tok) : ∀ (f : Nat) (out : List (ByteArray × Int)) (r : Rd), r.On (letsF num L f out r).2 := by
 intro f
 induction f with
 | zero => intro out r; exact Rd.On.refl r
 | succ f ih =>
  intro out r
  unfold letsF
  split
  ·rename_i h
   exact ((r.on_skip (r.is_in h).1).trans (on_let num L _)).trans (ih _ _)
  ·exact Rd.On.refl r
theorem lets_good (num : ByteArray → Bool × Nat × Nat) (L : List Tok) : ∀ (f : Nat) (out : List (ByteArray × Int)) (r : Rd), (letsF num L f out r).2.bad = false → ∃ m, (letsF num L f out r).1 = out ++ m ∧ LetsEnd (letsF num L f out r).2.all r.all.length m (letsF num L f out r).2.all.length := by
 intro f
 induction f with
 | zero => intro out r _; exact ⟨[], by rw [List.append_nil]; rfl, rfl⟩
 | succ f ih =>
  intro out r hb
  unfold letsF at hb ⊢
  by_cases h : r.is L 0 [108, 101, 116] = true
  ·rw [if_pos h] at hb ⊢
   have g := Rd.good_of (on_lets num L f _ _) hb
   obtain ⟨i, e1, e2, e3, e4⟩ := let_good g
   obtain ⟨m, hm, hl⟩ := ih _ _ hb
   obtain ⟨n, hn⟩ := (on_lets num L f (out ++ [(oneLet num L r.skip).1]) (oneLet num L r.skip).2).all
   refine ⟨(oneLet num L r.skip).1 :: m, by rw [hm, List.append_assoc, List.singleton_append], i, e1, e2, ?_, ?_⟩
   ·rw [hn]; exact e3.more n
   ·rw [← e4]; exact hl
  ·rw [if_neg h]; exact ⟨[], by rw [List.append_nil], rfl⟩
theorem prog_good {num : ByteArray → Bool × Nat × Nat} {L : List Tok} (h : (progI num L).2.bad = false) : (1 ≤ (progI num L).1.ins.length ∧ ∀ x ∈ (progI num L).1.ins, nameB x = true) ∧ (1 ≤ (progI num L).1.outs.length ∧ ∀ x ∈ (progI num L).1.outs, nameB x = true) ∧ LetsEnd (progI num L).1.all 0 (progI num L).1.lets (progI num L).1.all.length := by
 have h1 : (outsI num L).2.bad = false := by
  unfold progI at h
  dsimp only at h
  split at h
  ·exact absurd h (by simp [Rd.wrong])
  ·exact h
 have o2 := on_names L ((letsI num L).2.want L 0 [111, 117, 116])
 have h2 : ((letsI num L).2.want L 0 [111, 117, 116]).bad = false := Rd.good_of o2.1 h1
 have h3 := Rd.good_of (Rd.on_want L _ _ _) h2
 have h4 := Rd.good_of (on_lets num L _ _ _) h3
 obtain ⟨m, hm, hl⟩ := lets_good num L _ _ _ h3
 have ha : (outsI num L).2.all = (letsI num L).2.all := by
  show (namesI L ((letsI num L).2.want L 0 [111, 117, 116])).2.all = _
  rw [o2.2, want_all]
 have hi : (insI L).2.all = [] := by
  show (namesI L (startR.want L 0 [105, 110])).2.all = _
  rw [(on_names L _).2, want_all]; rfl
 refine ⟨names_good h4, names_good h1, ?_⟩
 show LetsEnd (outsI num L).2.all 0 (letsI num L).1 (outsI num L).2.all.length
 rw [ha]
 have e : (letsI num L).1 = m := by
  show (letsF num L (L.length + 1) [] (insI L).2).1 = m
  rw [hm, List.nil_append]
 rw [e]
 rw [hi] at hl
 exact hl
end
section
open Go.Lib
def opB (k : Int) : ByteArray := if k = 2 then ⟨#[43]⟩ else if k = 3 then ⟨#[45]⟩ else if k = 4 then ⟨#[42]⟩ else ⟨#[47]⟩
end
section
open Go.Lib
def bindK (k : Int) : Nat := if k = 2 ∨ k = 3 then 1 else if k = 4 ∨ k = 5 then 2 else if k = 6 then 3 else if k = 7 then 4 else 5
def spP : Int × ByteArray := (3, ⟨#[32]⟩)
def wrapP (b : Bool) (x : List (Int × ByteArray)) : List (Int × ByteArray) := if b = true then (2, ⟨#[40]⟩) :: (x ++ [(2, ⟨#[41]⟩)]) else x
def partP (pr : Bool × Nat × Nat → ByteArray) (ex : Nat → ByteArray) (l : List Nd) : Nat → Nat → Nat → List (Int × ByteArray)
 | 0, _, _ => []
 | f + 1, i, least => match l[i]? with
  | none => []
  | some n => wrapP (decide (bindK n.kind < least)) (if n.kind = 0 then [(0, n.name)]
   else if n.kind = 1 then [(1, pr n.num)]
   else if n.kind = 6 then (2, ⟨#[45]⟩) :: partP pr ex l f n.a.toNat 3
   else if n.kind = 7 then partP pr ex l f n.a.toNat 5 ++ ((2, ⟨#[94]⟩) :: ((if n.exp < 0 then [(2, ⟨#[45]⟩)] else []) ++ [(1, ex n.exp.natAbs)]))
   else partP pr ex l f n.a.toNat (bindK n.kind) ++ (spP :: (2, opB n.kind) :: spP :: partP pr ex l f n.b.toNat (bindK n.kind + 1)))
theorem bindK_range (k : Int) : 1 ≤ bindK k ∧ bindK k ≤ 5 := by
 unfold bindK
 repeat' split
 all_goals omega
def bodyP (pr : Bool × Nat × Nat → ByteArray) (ex : Nat → ByteArray) (l : List Nd) (f : Nat) (n : Nd) : List (Int × ByteArray) :=
 if n.kind = 0 then [(0, n.name)]
 else if n.kind = 1 then [(1, pr n.num)]
 else if n.kind = 6 then (2, ⟨#[45]⟩) :: partP pr ex l f n.a.toNat 3
 else if n.kind = 7 then partP pr ex l f n.a.toNat 5 ++ ((2, ⟨#[94]⟩) :: ((if n.exp < 0 then [(2, ⟨#[45]⟩)] else []) ++ [(1, ex n.exp.natAbs)]))
 else partP pr ex l f n.a.toNat (bindK n.kind) ++ (spP :: (2, opB n.kind) :: spP :: partP pr ex l f n.b.toNat (bindK n.kind + 1))
theorem partP_step {pr : Bool × Nat × Nat → ByteArray} {ex : Nat → ByteArray} {l : List Nd} {i : Nat} {n : Nd} (h : l[i]? = some n) (f least : Nat) : partP pr ex l (f + 1) i least = wrapP (decide (bindK n.kind < least)) (bodyP pr ex l f n) := by
 conv => lhs; unfold partP
 rw [h]; rfl
end
section
open Go.Lib
def inB : ByteArray := ⟨#[105, 110]⟩
def outB : ByteArray := ⟨#[111, 117, 116]⟩
end
section
open Go.Lib
theorem lets_le {l : List Nd} : ∀ (lets : List (ByteArray × Int)) (c e : Nat), LetsEnd l c lets e → c ≤ e := by
 intro lets
 induction lets with
 | nil => intro c e h; exact Nat.le_of_eq h
 | cons y lets ih =>
  rintro c e ⟨k, -, -, hk, h2⟩
  have := ih _ _ h2
  have := hk.le
  omega
end
section
open Go.RowKit
theorem below_more {a b c : World} (h : Below a.heap.size a b) (k : Below b.heap.size b c) : Below a.heap.size a c := h.trans (k.mono h.size)
def BoxC (v : World) (k : Nat) (cs : Array Value) (T : TypeId) : Prop := v.heap[k]? = some (.cells cs T (0, 0))
theorem BoxC.new (v : World) (cs : Array Value) (T : TypeId) : BoxC (v.alloc (.cells cs T)) v.heap.size cs T := by show (v.heap.push _)[v.heap.size]? = _; simp
theorem BoxC.more {v v' : World} {k : Nat} {cs : Array Value} {T : TypeId} (h : BoxC v k cs T) (hb : Below v.heap.size v v') : BoxC v' k cs T :=
 (hb.block k (Array.getElem?_eq_some_iff.1 h).1).trans h
theorem BoxC.alloc {v : World} {k : Nat} {cs : Array Value} {T : TypeId} (h : BoxC v k cs T) (o : Obj) : BoxC (v.alloc o) k cs T := h.more ((Below.refl _ _).alloc (Nat.le_refl _) _)
theorem BoxC.drew {v : World} {k : Nat} {cs : Array Value} {T : TypeId} (h : BoxC v k cs T) : BoxC v.drew k cs T := h
theorem BoxC.lt {v : World} {k : Nat} {cs : Array Value} {T : TypeId} (h : BoxC v k cs T) : k < v.heap.size := (Array.getElem?_eq_some_iff.1 h).1
theorem BoxC.cell {v : World} {k : Nat} {cs : Array Value} {T : TypeId} (h : BoxC v k cs T) (i : Nat) : v.cell? ⟨k, i, none⟩ = cs[i]? ∧ v.frozen? ⟨k, i, none⟩ = false := by
 unfold BoxC at h
 simp [World.cell?, World.frozen?, h]
theorem BoxC.cells2 {v : World} {k : Nat} {x y : Value} {T : TypeId} (h : BoxC v k #[x, y] T) : v.cell? ⟨k, 0, none⟩ = some x ∧ v.cell? ⟨k, 1, none⟩ = some y ∧ v.frozen? ⟨k, 0, none⟩ = false ∧ v.frozen? ⟨k, 1, none⟩ = false :=
 ⟨(h.cell 0).1, (h.cell 1).1, (h.cell 0).2, (h.cell 1).2⟩
theorem BoxC.cells3 {v : World} {k : Nat} {x y z : Value} {T : TypeId} (h : BoxC v k #[x, y, z] T) : v.cell? ⟨k, 0, none⟩ = some x ∧ v.cell? ⟨k, 1, none⟩ = some y ∧ v.cell? ⟨k, 2, none⟩ = some z ∧ v.frozen? ⟨k, 0, none⟩ = false ∧ v.frozen? ⟨k, 1, none⟩ = false ∧ v.frozen? ⟨k, 2, none⟩ = false :=
 ⟨(h.cell 0).1, (h.cell 1).1, (h.cell 2).1, (h.cell 0).2, (h.cell 1).2, (h.cell 2).2⟩
theorem BoxC.set {v : World} {k : Nat} {cs : Array Value} {T : TypeId} (h : BoxC v k cs T) (i : Nat) (x : Value) : BoxC (v.setCell ⟨k, i, none⟩ x) k (cs.setIfInBounds i x) T := by
 unfold BoxC at h ⊢
 have hlt := (Array.getElem?_eq_some_iff.1 h).1
 have hv := (Array.getElem?_eq_some_iff.1 h).2
 simp only [World.setCell]
 rw [Array.getElem?_eq_getElem (by simpa using hlt), Array.getElem_modify]
 simp [hv]
theorem BoxC.other {v : World} {k : Nat} {cs : Array Value} {T : TypeId} (h : BoxC v k cs T) {g i : Nat} (hg : k ≠ g) (x : Value) : BoxC (v.setCell ⟨g, i, none⟩ x) k cs T := by
 unfold BoxC at h ⊢
 rw [Below.heap_setCell v ⟨g, i, none⟩ x k (by simpa using hg)]; exact h
theorem boxes1 (w : World) (cs : Array Value) (T : TypeId) :
  BoxC (w.alloc (.cells cs T)) w.heap.size cs T ∧ Below w.heap.size w (w.alloc (.cells cs T)) ∧ w.heap.size < (w.alloc (.cells cs T)).heap.size :=
 ⟨BoxC.new w cs T, (Below.refl _ w).alloc (Nat.le_refl _) _, by simp⟩
theorem boxes2 (w : World) (cs ds : Array Value) (T U : TypeId) :
  BoxC ((w.alloc (.cells cs T)).alloc (.cells ds U)) w.heap.size cs T ∧ BoxC ((w.alloc (.cells cs T)).alloc (.cells ds U)) (w.heap.size + 1) ds U ∧
  Below w.heap.size w ((w.alloc (.cells cs T)).alloc (.cells ds U)) ∧ w.heap.size + 1 < ((w.alloc (.cells cs T)).alloc (.cells ds U)).heap.size := by
 have b2 := BoxC.new (w.alloc (.cells cs T)) ds U
 rw [World.size_alloc] at b2
 exact ⟨(BoxC.new w cs T).alloc _, b2, ((Below.refl _ w).alloc (Nat.le_refl _) _).alloc (by simp) _, by simp⟩
theorem boxes3 (w : World) (cs ds es : Array Value) (T U X : TypeId) :
  BoxC (((w.alloc (.cells cs T)).alloc (.cells ds U)).alloc (.cells es X)) w.heap.size cs T ∧ BoxC (((w.alloc (.cells cs T)).alloc (.cells ds U)).alloc (.cells es X)) (w.heap.size + 1) ds U ∧ BoxC (((w.alloc (.cells cs T)).alloc (.cells ds U)).alloc (.cells es X)) (w.heap.size + 1 + 1) es X ∧
  Below w.heap.size w (((w.alloc (.cells cs T)).alloc (.cells ds U)).alloc (.cells es X)) ∧ w.heap.size + 1 + 1 < (((w.alloc (.cells cs T)).alloc (.cells ds U)).alloc (.cells es X)).heap.size := by
 obtain ⟨h1, h2, h3, h4⟩ := boxes2 w cs ds T U
 have b3 := BoxC.new ((w.alloc (.cells cs T)).alloc (.cells ds U)) es X
 rw [World.size_alloc, World.size_alloc] at b3
 exact ⟨h1.alloc _, h2.alloc _, b3, h3.alloc (by simp; omega) _, by simp⟩
end
section
open Go.RowKit
def OwnC (T : TypeId) (k : Nat) (W w : World) (v : Value) (n : Nat) (cs : List Value) : Prop := w.ownsRow W.heap.size T k v n cs ∧ Below W.heap.size W w
def IsC (k : Nat) (w : World) (a : Option Addr) (n : Nat) (cs : List Value) : Prop := cs.length = n * k ∧ (n = 0 ∨ ∃ x : Addr, a = some x ∧ ∀ j u, cs[j]? = some u → w.cell? (x.add j) = some u)
theorem OwnC.length {T : TypeId} {k : Nat} {W w : World} {v : Value} {n : Nat} {cs : List Value} (h : OwnC T k W w v n cs) : cs.length = n * k := h.1.1
theorem OwnC.below {T : TypeId} {k : Nat} {W w : World} {v : Value} {n : Nat} {cs : List Value} (h : OwnC T k W w v n cs) : Below W.heap.size W w := h.2
theorem OwnC.nil {T : TypeId} {k : Nat} {W w : World} (h : Below W.heap.size W w) : OwnC T k W w (.slice none 0 0) 0 [] := ⟨World.ownsRow_nil _ _ _ _, h⟩
theorem OwnC.more {T : TypeId} {k : Nat} {W w w' : World} {v : Value} {n : Nat} {cs : List Value} (h : OwnC T k W w v n cs) (hb : Below w.heap.size w w') : OwnC T k W w' v n cs := by
 refine ⟨⟨h.1.1, ?_⟩, below_more h.2 hb⟩
 rcases h.1.2 with h0 | ⟨g, cap, cur, e, h1, hg, h2⟩
 ·exact .inl h0
 ·refine .inr ⟨g, cap, cur, e, h1, ?_, h2⟩
  rw [hb.block g (Array.getElem?_eq_some_iff.1 hg).1]; exact hg
theorem OwnC.alloc {T : TypeId} {k : Nat} {W w : World} {v : Value} {n : Nat} {cs : List Value} (h : OwnC T k W w v n cs) (o : Obj) : OwnC T k W (w.alloc o) v n cs := h.more ((Below.refl _ _).alloc (Nat.le_refl _) _)
theorem OwnC.drew {T : TypeId} {k : Nat} {W w : World} {v : Value} {n : Nat} {cs : List Value} (h : OwnC T k W w v n cs) : OwnC T k W w.drew v n cs := h.more (Below.refl _ _).drew
theorem OwnC.lit {T : TypeId} {k : Nat} {W w : World} {v : Value} {n : Nat} {cs : List Value} (h : OwnC T k W w v n cs) : ∃ a c, v = .slice a n c ∧ (a = none → c = 0) := by
 rcases h.1.2 with ⟨rfl, rfl⟩ | ⟨g, cap, cur, rfl, -⟩
 ·exact ⟨none, 0, rfl, fun _ => rfl⟩
 ·exact ⟨_, _, rfl, fun e => absurd e (by simp)⟩
theorem OwnC.box {T : TypeId} {k : Nat} {W w : World} {v : Value} {n : Nat} {cs : List Value} (h : OwnC T k W w v n cs) {g : Nat} {ds : Array Value} {U : TypeId} (B : BoxC w g ds U) (hT : U ≠ T) (hk : W.heap.size ≤ g) (i : Nat) (x : Value) : OwnC T k W (w.setCell ⟨g, i, none⟩ x) v n cs := by
 refine ⟨⟨h.1.1, ?_⟩, h.2.setCell (p := ⟨g, i, none⟩) hk _⟩
 rcases h.1.2 with h0 | ⟨f, cap, cur, e, h3, hg, h4⟩
 ·exact .inl h0
 ·refine .inr ⟨f, cap, cur, e, h3, ?_, h4⟩
  have hne : f ≠ g := by
   intro e1
   subst e1
   unfold BoxC at B
   rw [B] at hg
   simp at hg
   exact hT hg.2
  rw [Below.heap_setCell w ⟨g, i, none⟩ x f (by simpa using hne)]; exact hg
theorem OwnC.reads {T : TypeId} {k : Nat} {W w : World} {a : Option Addr} {n c : Nat} {cs : List Value} (h : OwnC T k W w (.slice a n c) n cs) : IsC k w a n cs := by
 refine ⟨h.1.1, ?_⟩
 rcases h.1.2 with ⟨-, h0⟩ | ⟨g, cap, cur, e, -, hg, -, -, -, ht⟩
 ·exact .inl h0
 ·right
  simp only [Value.slice.injEq] at e
  refine ⟨_, e.1, fun j u hj => ?_⟩
  have hlt : j < cs.length := (List.getElem?_eq_some_iff.1 hj).1
  rw [h.1.1] at hlt
  rw [← ht, List.getElem?_take, if_pos hlt] at hj
  rw [Go.WideShapes.add_plain, Nat.zero_add]
  simp only [World.cell?, hg]
  rw [← hj]
  simp
theorem IsC.nil (k : Nat) (w : World) (a : Option Addr) : IsC k w a 0 [] := ⟨by simp, .inl rfl⟩
/-- append(v, x...), v the call's own, x a slice that reads as these cells. -/
theorem wpl_append_c {P : Program} {ops : Array Oper} {rest : List Oper} {o : Oper} {a : Act} {Q : Exit → Act → World → Prop} {t e : TypeId} {z : Value} {k bytes : Nat} (hP : P.underlying t = some (.slice e)) (hI : (P.info? e).map (fun i => (i.zero, i.size, i.bytes)) = some (some z, k, bytes)) (hzs : z.cells.size = k) (hk : 0 < k) (s x : Operand)
  (ho : o.op = .call { callee := .builtin .append, args := #[s, x], argTypes := #[t, t] }) (hgd : o.guard = none)
  (W w : World) (v : Value) (n : Nat) (cs : List Value) (b : Option Addr) (m d : Nat) (ds : List Value) (hs : a.eval s = v) (hx : a.eval x = .slice b m d) (hown : OwnC e k W w v n cs) (hsrc : IsC k w b m ds) (h1 : ∀ u ∈ ds, u.oneCell' = true) (hd : b = none → m = 0 ∧ d = 0) (hle : n + m ≤ maxLen) (hby : (n + m) * bytes ≤ 140737488355328)
  (h : ∀ a' c' w', (a' = none → c' = 0) → OwnC e k W w' (.slice a' (n + m) c') (n + m) (cs ++ ds) → w.grownBy w' v.ownBlock → wpList P ops Q rest (a.put o.dst (.slice a' (n + m) c')) w') : wpList P ops Q (o :: rest) a w := by
 obtain ⟨i, hi, hz, hs1, hb1⟩ := info_parts hI
 cases b with
 | none =>
  obtain ⟨rfl, rfl⟩ := hd rfl
  have hl := hsrc.1
  obtain rfl : ds = [] := List.eq_nil_of_length_eq_zero (by omega)
  obtain ⟨a', c', rfl, hn⟩ := hown.lit
  refine wpList_append_own_none hgd s x t ho W.heap.size e i k hP hi _ n _ hs hown.1 hx ?_
  exact h a' c' w hn (by rw [List.append_nil]; exact hown) ⟨rfl, rfl, rfl, Nat.le_refl _, fun _ _ _ => rfl⟩
 | some ad =>
  have hcells : ∀ j u, ds[j]? = some u → w.cell? (ad.add j) = some u := by
   intro j u hj
   rcases hsrc.2 with h0 | ⟨y, e, hc⟩
   ·have := hsrc.1
    rw [h0, Nat.zero_mul] at this
    rw [List.eq_nil_of_length_eq_zero this] at hj; exact absurd hj (by simp)
   ·obtain rfl := Option.some.inj e
    exact hc j u hj
  refine wpList_append_own w hgd s x t ho W.heap.size e i _ k bytes hP hi hz hs1 hb1 hzs hk v n _ hs hown.1 ad m d ds hx hsrc.1 hcells h1 hle hby hown.2.size ?_
  intro v' w' h2 h3 _
  have hnew : OwnC e k W w' v' (n + m) (cs ++ ds) := ⟨h2, hown.2.grown h3 hown.2.size (fun k hk => (hown.1.lt k hk).1)⟩
  obtain ⟨a', c', rfl, hn⟩ := hnew.lit
  exact h a' c' w' hn hnew h3
theorem BoxC.isc {w : World} {g : Nat} {ds : Array Value} {U : TypeId} (B : BoxC w g ds U) : IsC ds.size w (some ⟨g, 0, none⟩) 1 ds.toList := by
 refine ⟨by simp, .inr ⟨_, rfl, fun j u hj => ?_⟩⟩
 rw [Go.WideShapes.add_plain, Nat.zero_add, (B.cell j).1]
 simpa using hj
def flat {α : Type} (enc : α → List Value) (l : List α) : List Value := l.flatMap enc
theorem flat_append {α : Type} (enc : α → List Value) (l m : List α) : flat enc (l ++ m) = flat enc l ++ flat enc m := List.flatMap_append
theorem flat_one {α : Type} (enc : α → List Value) (x : α) : flat enc [x] = enc x := by simp [flat]
theorem flat_length {α : Type} {enc : α → List Value} {k : Nat} (hk : ∀ x, (enc x).length = k) (l : List α) : (flat enc l).length = l.length * k := by
 induction l with
 | nil => simp [flat]
 | cons x l ih =>
  show (enc x ++ flat enc l).length = _
  rw [List.length_append, hk, ih, List.length_cons, Nat.succ_mul]; omega
theorem flat_get {α : Type} {enc : α → List Value} {k : Nat} (hk : ∀ x, (enc x).length = k) : ∀ (l : List α) (i : Nat) (x : α), l[i]? = some x → ∀ j, j < k → (flat enc l)[i * k + j]? = (enc x)[j]? := by
 intro l
 induction l with
 | nil => intro i x h; exact absurd h (by simp)
 | cons y l ih =>
  intro i x h j hj
  show (enc y ++ flat enc l)[i * k + j]? = _
  cases i with
  | zero =>
   rw [Nat.zero_mul, Nat.zero_add, List.getElem?_append_left (by rw [hk]; exact hj)]
   have : y = x := by simpa using h
   rw [this]
  | succ i =>
   rw [List.getElem?_append_right (by rw [hk, Nat.succ_mul]; omega), hk, show (i + 1) * k + j - k = i * k + j by rw [Nat.succ_mul]; omega]
   exact ih i x (by simpa using h) j hj
theorem IsC.get {α : Type} {enc : α → List Value} {k : Nat} (hk : ∀ x, (enc x).length = k) {w : World} {a : Option Addr} {n : Nat} {l : List α} (h : IsC k w a n (flat enc l)) (h0 : 0 < k) : l.length = n ∧ ∀ i x, l[i]? = some x → ∃ y, a = some y ∧ ∀ j u, (enc x)[j]? = some u → w.cell? (y.add (i * k + j)) = some u := by
 have hl : l.length = n := by
  have := h.1
  rw [flat_length hk] at this
  exact Nat.eq_of_mul_eq_mul_right h0 this
 refine ⟨hl, fun i x hx => ?_⟩
 have hi : i < l.length := (List.getElem?_eq_some_iff.1 hx).1
 rcases h.2 with e | ⟨y, e, hc⟩
 ·omega
 ·refine ⟨y, e, fun j u hj => hc _ _ ?_⟩
  have hjk : j < k := by rw [← hk x]; exact (List.getElem?_eq_some_iff.1 hj).1
  rw [flat_get hk l i x hx j hjk]; exact hj
end
section
open Go.RowKit
def Keep (X : TypeId → Prop) (w w' : World) : Prop := w.heap.size ≤ w'.heap.size ∧ ∀ (g : Nat) (cs : Array Value) (T : TypeId) (f : Nat × Nat), w.heap[g]? = some (.cells cs T f) → ¬ X T → w'.heap[g]? = some (.cells cs T f)
theorem Keep.refl (X : TypeId → Prop) (w : World) : Keep X w w := ⟨Nat.le_refl _, fun _ _ _ _ h _ => h⟩
theorem Keep.trans {X : TypeId → Prop} {u v w : World} (h : Keep X u v) (k : Keep X v w) : Keep X u w := ⟨Nat.le_trans h.1 k.1, fun g cs T f e hX => k.2 g cs T f (h.2 g cs T f e hX) hX⟩
theorem Keep.mono {X Y : TypeId → Prop} {v w : World} (h : Keep X v w) (hY : ∀ T, X T → Y T) : Keep Y v w := ⟨h.1, fun g cs T f e hX => h.2 g cs T f e (fun q => hX (hY T q))⟩
theorem Keep.of (X : TypeId → Prop) {w w' : World} (h : Below w.heap.size w w') : Keep X w w' := ⟨h.size, fun g _ _ _ e _ => (h.block g (Array.getElem?_eq_some_iff.1 e).1).trans e⟩
theorem Keep.alloc {X : TypeId → Prop} {v w : World} (h : Keep X v w) (o : Obj) : Keep X v (w.alloc o) := h.trans (Keep.of X ((Below.refl _ _).alloc (Nat.le_refl _) o))
theorem Keep.more {X : TypeId → Prop} {u v w : World} (h : Keep X u v) (k : Below v.heap.size v w) : Keep X u w := h.trans (Keep.of X k)
theorem Keep.set {X : TypeId → Prop} {v w : World} (h : Keep X v w) {g : Nat} {cs : Array Value} {T : TypeId} (B : BoxC w g cs T) (hX : X T) (i : Nat) (x : Value) : Keep X v (w.setCell ⟨g, i, none⟩ x) := by
 refine h.trans ⟨by simp, fun k ds U f e hU => ?_⟩
 have hne : k ≠ g := by
  intro e1
  subst e1
  unfold BoxC at B
  rw [B] at e
  simp only [Option.some.injEq, Obj.cells.injEq] at e
  exact hU (e.2.1 ▸ hX)
 rw [Below.heap_setCell w ⟨g, i, none⟩ x k (by simpa using hne)]; exact e
theorem Keep.grown {X : TypeId → Prop} {u w w' : World} (h : Keep X u w) {T : TypeId} {k : Nat} {W : World} {v : Value} {n : Nat} {cs : List Value} (o : OwnC T k W w v n cs) (hX : X T) (hg : w.grownBy w' v.ownBlock) : Keep X u w' := by
 refine h.trans ⟨hg.size, fun j ds U f e hU => ?_⟩
 have hne : some j ≠ v.ownBlock := by
  intro e1
  rcases o.1.2 with ⟨rfl, -⟩ | ⟨b, cap, cur, rfl, h3, hb, h4⟩
  ·exact absurd e1 (by simp [Value.ownBlock])
  ·have e2 : j = b := by simpa [Value.ownBlock] using e1
   subst e2
   rw [e] at hb
   simp only [Option.some.injEq, Obj.cells.injEq] at hb
   exact hU (hb.2.1 ▸ hX)
 rw [hg.block j (Array.getElem?_eq_some_iff.1 e).1 hne]; exact e
theorem BoxC.keep {X : TypeId → Prop} {w w' : World} {g : Nat} {cs : Array Value} {T : TypeId} (h : BoxC w g cs T) (k : Keep X w w') (hT : ¬ X T) : BoxC w' g cs T := k.2 g cs T (0, 0) h hT
theorem ownsRow_keep {X : TypeId → Prop} {w w' : World} {b : Nat} {T : TypeId} {k : Nat} {v : Value} {n : Nat} {cs : List Value} (h : w.ownsRow b T k v n cs) (q : Keep X w w') (hT : ¬ X T) : w'.ownsRow b T k v n cs := by
 refine ⟨h.1, ?_⟩
 rcases h.2 with h0 | ⟨g, cap, cur, e, h1, hg, h2⟩
 ·exact .inl h0
 ·exact .inr ⟨g, cap, cur, e, h1, q.2 g cur T _ hg hT, h2⟩
theorem OwnC.keep {X : TypeId → Prop} {T : TypeId} {k : Nat} {W w w' : World} {v : Value} {n : Nat} {cs : List Value} (h : OwnC T k W w v n cs) (q : Keep X w w') (hT : ¬ X T) (hb : Below W.heap.size W w') : OwnC T k W w' v n cs := ⟨ownsRow_keep h.1 q hT, hb⟩
theorem OwnC.apart {T : TypeId} {k : Nat} {W w : World} {v : Value} {n : Nat} {cs : List Value} (h : OwnC T k W w v n cs) {g : Nat} {ds : Array Value} {U : TypeId} (B : BoxC w g ds U) (hU : U ≠ T) : v.ownBlock ≠ some g := by
 rcases h.1.2 with ⟨rfl, -⟩ | ⟨f, cap, cur, rfl, h3, hf, h4⟩
 ·exact fun e => by cases e
 ·intro e
  have e1 : f = g := by simpa [Value.ownBlock] using e
  subst e1
  unfold BoxC at B
  rw [B] at hf
  simp only [Option.some.injEq, Obj.cells.injEq] at hf
  exact hU hf.2.1
end
section
open Go.RowKit
def isum : List Int → Int
 | [] => 0
 | x :: r => x + isum r
theorem isum_snoc (l : List Int) (x : Int) : isum (l ++ [x]) = isum l + x := by
 induction l with
 | nil => simp [isum]
 | cons y r ih => simp only [List.cons_append, isum, ih]; omega
theorem ret_two {k l : IntKind} {a b c d : Int} (h : a = c) (g : b = d) : Ending.returned (.tuple #[.int k a, .int l b]) = .returned (.tuple #[.int k c, .int l d]) := by rw [h, g]
theorem limb_total (b : Nat) (zs : List Int) (n cap : Nat) (w : World) (hn : zs.length = n) (hl : n ≤ 1000)
  (hc : ∀ i, i < n → w.cell? ⟨b, i, none⟩ = some (.int .u64 (zs.getD i 0)))
  (hb : ∀ k, k ≤ n → 0 ≤ isum (zs.take k) ∧ isum (zs.take k) < 18446744073709551616) :
  Calls Tryz.prog 195 #[.slice (some ⟨b, 0, none⟩) n cap] w fun e w' => e = .returned (.int .u64 (isum zs)) ∧ w = w' := by
 go_enter Tryz.func195, Tryz.ntmps195
 go_wp2
 go_loop [3, 8] (fun s i => ∃ k : Nat, k ≤ n ∧ i = .int .i64 k ∧ s = .int .u64 (isum (zs.take k))) (fun _ i => n - (intOf i).toNat)
 case atStart => exact ⟨0, Nat.zero_le _, rfl, rfl⟩
 case round =>
  obtain ⟨k, hk, rfl, rfl⟩ := hrel
  by_cases hlt : k < n
  ·have hck := hc k hlt
   have hb1 := hb k hk
   have hb2 := hb (k+1) hlt
   have e : zs.take (k+1) = zs.take k ++ [zs.getD k 0] := by
    rw [List.take_succ_eq_append_getElem (by omega)]; simp [show k < zs.length by omega]
   rw [e, isum_snoc] at hb2
   have E : Hid (isum (zs.take (k+1)) = isum (zs.take k) + zs.getD k 0) := by rw [e, isum_snoc]; rfl
   clear e hb hc hn
   generalize zs.getD k 0 = z at hck hb2 E
   go_wp2
   go_round
   case rel => exact ⟨k+1, by omega, by go_num, by rw [E.out]⟩
   case measure => simp [intOf]; omega
  ·have e : zs.take k = zs := List.take_of_length_le (by omega)
   clear hb hc hn
   rw [e]
   go_wp2
   go_ret
   exact ⟨rfl, rfl⟩
theorem limb_total3 (a b c : Int) (w : World) (h0 : 0 ≤ a) (h1 : 0 ≤ b) (h2 : 0 ≤ c) (h3 : a + b + c < 18446744073709551616) :
  Calls Tryz.prog 195 #[.slice (some ⟨w.heap.size, 0, none⟩) 3 3] (w.alloc (.cells #[.int .u64 a, .int .u64 b, .int .u64 c] 87)) fun e w' => e = .returned (.int .u64 (a + b + c)) ∧ w.alloc (.cells #[.int .u64 a, .int .u64 b, .int .u64 c] 87) = w' := by
 have e : isum [a, b, c] = a + b + c := by simp [isum]; omega
 rw [← e]
 refine limb_total _ [a, b, c] 3 3 _ rfl (by decide) ?_ ?_
 ·intro i hi
  match i, hi with
  | 0, _ => simp
  | 1, _ => simp
  | 2, _ => simp
 ·intro k hk
  match k, hk with
  | 0, _ => simp [isum]
  | 1, _ => simp [isum]; omega
  | 2, _ => simp [isum]; omega
  | 3, _ => simp [isum]; omega
theorem limb_total2 (a b : Int) (w : World) (h0 : 0 ≤ a) (h1 : 0 ≤ b) (h3 : a + b < 18446744073709551616) :
  Calls Tryz.prog 195 #[.slice (some ⟨w.heap.size, 0, none⟩) 2 2] (w.alloc (.cells #[.int .u64 a, .int .u64 b] 87)) fun e w' => e = .returned (.int .u64 (a + b)) ∧ w.alloc (.cells #[.int .u64 a, .int .u64 b] 87) = w' := by
 have e : isum [a, b] = a + b := by simp [isum]
 rw [← e]
 refine limb_total _ [a, b] 2 2 _ rfl (by decide) ?_ ?_
 ·intro i hi
  match i, hi with
  | 0, _ => simp
  | 1, _ => simp
 ·intro k hk
  match k, hk with
  | 0, _ => simp [isum]
  | 1, _ => simp [isum]; omega
  | 2, _ => simp [isum]; omega
theorem limb_halves (n : Int) (w : World) (h0 : 0 ≤ n) (h1 : n < 18446744073709551616) :
  Calls Tryz.prog 236 #[.int .u64 n] w fun e w' => e = .returned (.tuple #[.int .u32 (n / 4294967296), .int .u32 (n % 4294967296)]) ∧ w = w' := by
 go_enter Tryz.func236, Tryz.ntmps236
 go_wp2
 go_ret2
 exact ⟨rfl, rfl⟩
theorem limb_add (a b c : Int) (w : World) (h0 : 0 ≤ a) (h1 : a < 4294967296) (h2 : 0 ≤ b) (h3 : b < 4294967296) (h4 : 0 ≤ c) (h5 : c < 4294967296) :
  Calls Tryz.prog 228 #[.int .u32 a, .int .u32 b, .int .u32 c] w fun e w' => e = .returned (.tuple #[.int .u32 ((a + b + c) % 4294967296), .int .u32 ((a + b + c) / 4294967296)]) ∧ Below w.heap.size w w' := by
 go_enter Tryz.func228, Tryz.ntmps228
 go_wp2_with (first | (go_at_call 195; refine (limb_total3 a b c w h0 h2 h4 (by omega)).mono ?_; rintro e w' ⟨rfl, rfl⟩) | (go_at_call 236; refine (limb_halves (a + b + c) _ (by omega) (by omega)).mono ?_; rintro e w' ⟨rfl, rfl⟩))
 go_ret2
 exact ⟨rfl, (Below.refl _ _).alloc (Nat.le_refl _) _⟩
theorem limb_sub (a b c : Int) (w : World) (h0 : 0 ≤ a) (h1 : a < 4294967296) (h2 : 0 ≤ b) (h3 : b < 4294967296) (h4 : 0 ≤ c) (h5 : c < 4294967296) :
  Calls Tryz.prog 227 #[.int .u32 a, .int .u32 b, .int .u32 c] w fun e w' => e = .returned (.tuple #[.int .u32 ((a - b - c) % 4294967296), .int .u32 (-((a - b - c) / 4294967296))]) ∧ Below w.heap.size w w' := by
 go_enter Tryz.func227, Tryz.ntmps227
 go_wp2_with (first | (go_at_call 195; refine (limb_total2 b c w h2 h4 (by omega)).mono ?_; rintro e w' ⟨rfl, rfl⟩) | (go_at_call 236; refine (limb_halves (IntKind.u64.wrap (a - (b + c))) _ (by rw [IntKind.wrap_u64]; omega) (by rw [IntKind.wrap_u64]; omega)).mono ?_; rintro e w' ⟨rfl, rfl⟩))
 go_ret2
 exact ⟨ret_two (by rw [IntKind.wrap_u64]; omega) (by rw [IntKind.wrap_u64]; omega), (Below.refl _ _).alloc (Nat.le_refl _) _⟩
theorem limb_mul (a b c d : Int) (w : World) (h0 : 0 ≤ a) (h1 : a < 4294967296) (h2 : 0 ≤ b) (h3 : b < 4294967296) (h4 : 0 ≤ c) (h5 : c < 4294967296) (h6 : 0 ≤ d) (h7 : d < 4294967296) :
  Calls Tryz.prog 226 #[.int .u32 a, .int .u32 b, .int .u32 c, .int .u32 d] w fun e w' => e = .returned (.tuple #[.int .u32 ((a * b + c + d) / 4294967296), .int .u32 ((a * b + c + d) % 4294967296)]) ∧ Below w.heap.size w w' := by
 have m0 : 0 ≤ a * b := Int.mul_nonneg h0 h2
 have m1 : a * b ≤ 4294967295 * 4294967295 := Int.mul_le_mul (by omega) (by omega) h2 (by omega)
 go_enter Tryz.func226, Tryz.ntmps226
 go_wp2_with (first | (go_at_call 195; refine (limb_total3 (a * b) c d w m0 h4 h6 (by omega)).mono ?_; rintro e w' ⟨rfl, rfl⟩) | (go_at_call 236; refine (limb_halves (a * b + c + d) _ (by omega) (by omega)).mono ?_; rintro e w' ⟨rfl, rfl⟩))
 go_ret2
 exact ⟨rfl, (Below.refl _ _).alloc (Nat.le_refl _) _⟩
theorem limb_div_no (a b d : Int) (w : World) (h : d ≤ a) :
  Calls Tryz.prog 173 #[.int .u32 a, .int .u32 b, .int .u32 d] w fun e w' => e = .returned (.tuple #[.int .u32 0, .int .u32 0, .bool false]) ∧ Below w.heap.size w w' := by
 go_enter Tryz.func173, Tryz.ntmps173
 go_wp2
 go_ret3
 exact ⟨rfl, Below.refl _ _⟩
theorem limb_div (a b d : Int) (w : World) (h0 : 0 ≤ a) (h1 : a < d) (h2 : 0 ≤ b) (h3 : b < 4294967296) (h5 : d < 4294967296) :
  Calls Tryz.prog 173 #[.int .u32 a, .int .u32 b, .int .u32 d] w fun e w' => e = .returned (.tuple #[.int .u32 ((a * 4294967296 + b) / d), .int .u32 ((a * 4294967296 + b) % d), .bool true]) ∧ Below w.heap.size w w' := by
 have q0 : 0 ≤ (a * 4294967296 + b) / d := Int.ediv_nonneg (by omega) (by omega)
 have q1 : (a * 4294967296 + b) / d < 4294967296 := Int.ediv_lt_of_lt_mul (by omega) (by omega)
 have r0 : 0 ≤ (a * 4294967296 + b) % d := Int.emod_nonneg _ (by omega)
 have r1 : (a * 4294967296 + b) % d < d := Int.emod_lt_of_pos _ (by omega)
 go_enter Tryz.func173, Tryz.ntmps173
 go_wp2_with ((go_at_call 195; refine (limb_total2 (a * 4294967296) b w (by omega) h2 (by omega)).mono ?_; rintro e w' ⟨rfl, rfl⟩))
 go_quiet (fail)
 go_wp2
 go_ret3
 exact ⟨rfl, below_drewN ((Below.refl _ _).alloc (Nat.le_refl _) _) _⟩
end
section
open Go.RowKit
theorem ret_int {k : IntKind} {a b : Int} (h : a = b) : Ending.returned (.int k a) = .returned (.int k b) := by rw [h]
set_option maxRecDepth 100000 in
theorem bits_len32 (a : Int) (w : World) (h0 : 0 ≤ a) (h1 : a < 4294967296) :
  Calls Tryz.prog 191 #[.int .u32 a] w fun e w' => e = .returned (.int .i64 (Lib.bitLen a.toNat)) ∧ w = w' := by
 by_cases c1 : 65536 ≤ a
 ·by_cases c2 : 256 ≤ a / 65536
  ·have i0 : 0 ≤ a / 65536 / 256 := by omega
   have i1 : a / 65536 / 256 ≤ 255 := by omega
   have E : Hid (Lib.len8 (a / 65536 / 256) = (Lib.bitLen (a.toNat / 2 ^ 24) : Int)) := by
    show _ = _
    rw [Lib.len8_of _ i0 i1, show (a / 65536 / 256).toNat = a.toNat / 2 ^ 24 by omega]
   have S : Hid (Lib.bitLen a.toNat = 24 + Lib.bitLen (a.toNat / 2 ^ 24)) := Lib.bitLen_shift 24 a.toNat (by omega) (by omega)
   have l0 : 0 ≤ Lib.len8 (a / 65536 / 256) := by rw [E.out]; omega
   have l1 : Lib.len8 (a / 65536 / 256) ≤ 8 := by rw [E.out]; have := Lib.bitLen_le (a.toNat / 2 ^ 24) 8 (by omega) (by omega); omega
   go_enter Tryz.func191, Tryz.ntmps191
   go_wp2
   go_ret
   exact ⟨ret_int (by rw [E.out, S.out]; omega), rfl⟩
  ·have i0 : 0 ≤ a / 65536 := by omega
   have i1 : a / 65536 ≤ 255 := by omega
   have E : Hid (Lib.len8 (a / 65536) = (Lib.bitLen (a.toNat / 2 ^ 16) : Int)) := by
    show _ = _
    rw [Lib.len8_of _ i0 i1, show (a / 65536).toNat = a.toNat / 2 ^ 16 by omega]
   have S : Hid (Lib.bitLen a.toNat = 16 + Lib.bitLen (a.toNat / 2 ^ 16)) := Lib.bitLen_shift 16 a.toNat (by omega) (by omega)
   have l0 : 0 ≤ Lib.len8 (a / 65536) := by rw [E.out]; omega
   have l1 : Lib.len8 (a / 65536) ≤ 8 := by rw [E.out]; have := Lib.bitLen_le (a.toNat / 2 ^ 16) 8 (by omega) (by omega); omega
   go_enter Tryz.func191, Tryz.ntmps191
   go_wp2
   go_ret
   exact ⟨ret_int (by rw [E.out, S.out]; omega), rfl⟩
 ·by_cases c2 : 256 ≤ a
  ·have i0 : 0 ≤ a / 256 := by omega
   have i1 : a / 256 ≤ 255 := by omega
   have E : Hid (Lib.len8 (a / 256) = (Lib.bitLen (a.toNat / 2 ^ 8) : Int)) := by
    show _ = _
    rw [Lib.len8_of _ i0 i1, show (a / 256).toNat = a.toNat / 2 ^ 8 by omega]
   have S : Hid (Lib.bitLen a.toNat = 8 + Lib.bitLen (a.toNat / 2 ^ 8)) := Lib.bitLen_shift 8 a.toNat (by omega) (by omega)
   have l0 : 0 ≤ Lib.len8 (a / 256) := by rw [E.out]; omega
   have l1 : Lib.len8 (a / 256) ≤ 8 := by rw [E.out]; have := Lib.bitLen_le (a.toNat / 2 ^ 8) 8 (by omega) (by omega); omega
   go_enter Tryz.func191, Tryz.ntmps191
   go_wp2
   go_ret
   exact ⟨ret_int (by rw [E.out, S.out]; omega), rfl⟩
  ·have i1 : a ≤ 255 := by omega
   have E : Hid (Lib.len8 a = (Lib.bitLen a.toNat : Int)) := Lib.len8_of _ h0 i1
   have l0 : 0 ≤ Lib.len8 a := by rw [E.out]; omega
   have l1 : Lib.len8 a ≤ 8 := by rw [E.out]; have := Lib.bitLen_le a.toNat 8 (by omega) (by omega); omega
   go_enter Tryz.func191, Tryz.ntmps191
   go_wp2
   go_ret
   exact ⟨ret_int (by rw [E.out]), rfl⟩
theorem limb_bits (a : Int) (w : World) (h0 : 0 ≤ a) (h1 : a < 4294967296) :
  Calls Tryz.prog 169 #[.int .u32 a] w fun e w' => e = .returned (.int .i64 (Lib.bitLen a.toNat)) ∧ w = w' := by
 go_enter Tryz.func169, Tryz.ntmps169
 go_wp2_with (go_at_call 191; refine (bits_len32 a w h0 h1).mono ?_; rintro e w' ⟨rfl, rfl⟩)
 go_ret
 exact ⟨rfl, rfl⟩
def lowN (zs : List Int) : Nat → Nat
 | 0 => 0
 | n + 1 => if zs.getD n 0 = 0 then lowN zs n else n + 1
theorem lowN_le (zs : List Int) (n : Nat) : lowN zs n ≤ n := by
 induction n with
 | zero => simp [lowN]
 | succ n ih => simp only [lowN]; split <;> omega
theorem lowN_zero {zs : List Int} {n : Nat} (h : zs.getD n 0 = 0) : lowN zs (n + 1) = lowN zs n := by simp only [lowN]; rw [if_pos h]
theorem lowN_keep {zs : List Int} {n : Nat} (h : zs.getD n 0 ≠ 0) : lowN zs (n + 1) = n + 1 := by simp only [lowN]; rw [if_neg h]
def Reads (k : IntKind) (w : World) (a : Option Addr) (n : Nat) (zs : List Int) : Prop :=
 zs.length = n ∧ (n = 0 ∨ ∃ b off, a = some ⟨b, off, none⟩ ∧ ∀ i, i < n → w.cell? ⟨b, off + i, none⟩ = some (.int k (zs.getD i 0)))
theorem limb_low (a : Option Addr) (n cap : Nat) (zs : List Int) (w : World) (hr : Reads .u32 w a n zs) (hn : n ≤ 9223372036854775807) :
  Calls Tryz.prog 142 #[.slice a n cap] w fun e w' => e = .returned (.int .i64 (lowN zs n)) ∧ w = w' := by
 obtain ⟨-, rfl | ⟨b, off, rfl, hc⟩⟩ := hr
 ·go_enter Tryz.func142, Tryz.ntmps142
  go_wp2
  go_loop [3] (fun s => s = .int .i64 0) (fun _ => 0)
  case atStart => exact rfl
  case round =>
   subst hrel
   go_wp2
   go_ret
   exact ⟨rfl, rfl⟩
 ·go_enter Tryz.func142, Tryz.ntmps142
  go_wp2
  go_loop [3] (fun s => ∃ k : Nat, k ≤ n ∧ s = .int .i64 k ∧ lowN zs k = lowN zs n) (fun s => (intOf s).toNat)
  case atStart => exact ⟨n, Nat.le_refl _, rfl, rfl⟩
  case round =>
   obtain ⟨k, hk, rfl, hl⟩ := hrel
   have HL : Hid (lowN zs k = lowN zs n) := hl
   clear hl
   match k, hk, HL with
   | 0, hk, HL =>
    clear hc
    go_wp2
    go_ret
    exact ⟨ret_int (by rw [← HL.out]; simp [lowN]), rfl⟩
   | k + 1, hk, HL =>
    have hck := hc k (by omega)
    by_cases hz : zs.getD k 0 = 0
    ·rw [hz] at hck
     have HZ : Hid (zs.getD k 0 = 0) := hz
     clear hz hc
     go_wp2
     go_round
     case rel => exact ⟨k, by omega, by go_num, by rw [← lowN_zero HZ.out]; exact HL.out⟩
     case measure => simp [intOf]
    ·have HZ : Hid (zs.getD k 0 ≠ 0) := hz
     generalize zs.getD k 0 = z at hck hz
     have hz' : (z == 0) = false := by simpa using hz
     clear hz hc
     go_wp2
     go_ret
     exact ⟨ret_int (by rw [← HL.out, lowN_keep HZ.out]; rfl), rfl⟩
end
end Go.Proofs.YtaeladkcmpdkhaaGreatDoor
