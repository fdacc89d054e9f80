/-
  Texts of mine in build order. No conditions of their own.
-/
import Derived.Test.YtaeladkcmpdkhaaGreatDoorPack5
set_option maxHeartbeats 16000000
namespace Go.Proofs.YtaeladkcmpdkhaaGreatDoor
section
open Go.Lib
abbrev Fr := Sum (Int × Int × Bool) Bool
abbrev Fr.neg : Fr := .inr false
abbrev Fr.bin (k l : Int) (c : Bool) : Fr := .inl (k, l, c)
abbrev Fr.brk : Fr := .inr true
def nd1 (a : Int) : Nd := ⟨6, a, 0, 0, noText, (false, 0, 0)⟩
def nd2 (k a b : Int) : Nd := ⟨k, a, b, 0, noText, (false, 0, 0)⟩
def restE (num : ByteArray → Bool × Nat × Nat) (L : List Tok) (m : Nat) (a : Int) (r : Rd) : Int × Rd :=
 if m < 2 then exprI num L 1 (exprI num L 3 a r).1 (exprI num L 3 a r).2 else exprI num L 1 a r
def shutE (L : List Tok) (p : Int × Rd) : Int × Rd := (p.2.want L 2 [41]).powT L p.1
def aft (num : ByteArray → Bool × Nat × Nat) (L : List Tok) : List Fr → Nat → Int → Rd → Int × Rd
 | [], m, a, r => restE num L m a r
 | .inr false :: fs, _, a, r => aft num L fs 0 (r.node (nd1 a)).1 (r.node (nd1 a)).2
 | .inl (k, l, true) :: fs, _, a, r => aft num L fs 1 (r.node (nd2 k l a)).1 (r.node (nd2 k l a)).2
 | .inl (k, l, false) :: fs, m, a, r => if m < 2 then aft num L fs 2 ((exprI num L 3 a r).2.node (nd2 k l (exprI num L 3 a r).1)).1 ((exprI num L 3 a r).2.node (nd2 k l (exprI num L 3 a r).1)).2 else aft num L fs 2 (r.node (nd2 k l a)).1 (r.node (nd2 k l a)).2
 | .inr true :: fs, m, a, r => aft num L fs 0 (shutE L (restE num L m a r)).1 (shutE L (restE num L m a r)).2
def ahd (num : ByteArray → Bool × Nat × Nat) (L : List Tok) (fs : List Fr) (r : Rd) : Int × Rd := aft num L fs 0 (exprI num L 4 0 r).1 (exprI num L 4 0 r).2
def topS : List Fr → Prop
 | [] => True
 | .inr true :: _ => True
 | _ => False
def topP : List Fr → Prop
 | [] => True
 | .inr true :: _ => True
 | .inl (_, _, false) :: _ => True
 | _ => False
def FrOk : List Fr → Prop
 | [] => True
 | .inr false :: fs => FrOk fs
 | .inr true :: fs => FrOk fs
 | .inl (_, _, true) :: fs => topP fs ∧ FrOk fs
 | .inl (_, _, false) :: fs => topS fs ∧ FrOk fs
def setF (b : Bool) : List Fr → Int → Rd → List Fr × Int × Rd
 | .inr false :: fs, a, r => setF b fs (r.node (nd1 a)).1 (r.node (nd1 a)).2
 | .inl (k, l, c) :: fs, a, r => if (b && !c) = true then (.bin k l c :: fs, a, r) else setF b fs (r.node (nd2 k l a)).1 (r.node (nd2 k l a)).2
 | fs, a, r => (fs, a, r)
theorem setF_rd (b : Bool) : ∀ (fs : List Fr) (a : Int) (r : Rd), (setF b fs a r).2.2.pos = r.pos ∧ (setF b fs a r).2.2.bad = r.bad ∧ r.On (setF b fs a r).2.2 ∧ (FrOk fs → FrOk (setF b fs a r).1) := by
 intro fs
 induction fs with
 | nil => intro a r; exact ⟨rfl, rfl, Rd.On.refl r, fun h => h⟩
 | cons f fs ih =>
  intro a r
  cases f with
  | inl y =>
   obtain ⟨k, l, c⟩ := y
   unfold setF
   split
   ·exact ⟨rfl, rfl, Rd.On.refl r, fun h => h⟩
   ·obtain ⟨h1, h2, h3, h4⟩ := ih (r.node (nd2 k l a)).1 (r.node (nd2 k l a)).2
    refine ⟨h1, h2, (r.on_node _).trans h3, fun h => h4 ?_⟩
    cases c with
    | true => exact h.2
    | false => exact h.2
  | inr y => cases y with
   | false =>
    unfold setF
    obtain ⟨h1, h2, h3, h4⟩ := ih (r.node (nd1 a)).1 (r.node (nd1 a)).2
    exact ⟨h1, h2, (r.on_node _).trans h3, fun h => h4 h⟩
   | true =>
    exact ⟨rfl, rfl, Rd.On.refl r, fun h => h⟩
theorem Rd.is_same {L : List Tok} {r s : Rd} (hp : s.pos = r.pos) (hb : s.bad = r.bad) (k : Int) (x : List UInt8) : s.is L k x = r.is L k x := by
 unfold Rd.is
 rw [hp, hb]
theorem more_prod_none {num : ByteArray → Bool × Nat × Nat} {L : List Tok} {a : Int} {r : Rd} (h : ¬ (r.is L 2 [42] || r.is L 2 [47]) = true) : exprI num L 3 a r = (a, r) := by
 rw [expr_more_product, if_neg h]
theorem more_sum_none {num : ByteArray → Bool × Nat × Nat} {L : List Tok} {a : Int} {r : Rd} (h : ¬ (r.is L 2 [43] || r.is L 2 [45]) = true) : exprI num L 1 a r = (a, r) := by
 rw [expr_more_sum, if_neg h]
theorem aft_topP (num : ByteArray → Bool × Nat × Nat) (L : List Tok) {fs : List Fr} (h : topP fs) (a : Int) (r : Rd) : aft num L fs 0 a r = aft num L fs 1 a r := by
 cases fs with
 | nil => rfl
 | cons f fs => cases f with
  | inl y =>
   obtain ⟨k, l, c⟩ := y
   cases c with
   | true => exact h.elim
   | false => rfl
  | inr y => cases y with
   | false =>
    exact h.elim
   | true =>
    rfl
theorem aft_setP (num : ByteArray → Bool × Nat × Nat) (L : List Tok) : ∀ (fs : List Fr) (a : Int) (r : Rd), FrOk fs → aft num L fs 0 a r = aft num L (setF true fs a r).1 1 (setF true fs a r).2.1 (setF true fs a r).2.2 ∧ topP (setF true fs a r).1 := by
 intro fs
 induction fs with
 | nil => intro a r _; exact ⟨rfl, trivial⟩
 | cons f fs ih =>
  intro a r hk
  cases f with
  | inl y =>
   obtain ⟨k, l, c⟩ := y
   cases c with
   | false => exact ⟨rfl, trivial⟩
   | true =>
    have ht : topP fs := hk.1
    have e : setF true (.bin k l true :: fs) a r = setF true fs (r.node (nd2 k l a)).1 (r.node (nd2 k l a)).2 := rfl
    rw [e]
    have := ih (r.node (nd2 k l a)).1 (r.node (nd2 k l a)).2 hk.2
    rw [aft_topP num L ht] at this
    exact this
  | inr y => cases y with
   | false =>
    show aft num L fs 0 _ _ = _ ∧ _
    exact ih _ _ hk
   | true =>
    exact ⟨rfl, trivial⟩
theorem aft_setS (num : ByteArray → Bool × Nat × Nat) (L : List Tok) : ∀ (fs : List Fr) (m : Nat) (a : Int) (r : Rd), m < 3 → FrOk fs → (m = 2 → topS fs) → (m = 1 → topP fs) → ¬ (r.is L 2 [42] || r.is L 2 [47]) = true →
  aft num L fs m a r = aft num L (setF false fs a r).1 2 (setF false fs a r).2.1 (setF false fs a r).2.2 ∧ topS (setF false fs a r).1 := by
 intro fs
 induction fs with
 | nil =>
  intro m a r hm _ _ _ hn
  refine ⟨?_, trivial⟩
  show restE num L m a r = restE num L 2 a r
  unfold restE
  by_cases h : m < 2
  ·rw [if_pos h, if_neg (by omega), more_prod_none hn]
  ·rw [if_neg h, if_neg (by omega)]
 | cons f fs ih =>
  intro m a r hm hk h2 h1 hn
  cases f with
  | inl y =>
   obtain ⟨k, l, c⟩ := y
   cases c with
   | true => exact ih 1 _ _ (by omega) hk.2 (fun e => by omega) (fun _ => hk.1) hn
   | false =>
    have e : aft num L (.bin k l false :: fs) m a r = aft num L fs 2 (r.node (nd2 k l a)).1 (r.node (nd2 k l a)).2 := by
     show (if m < 2 then _ else _) = _
     split
     ·rw [more_prod_none hn]
     ·rfl
    rw [e]
    exact ih 2 _ _ (by omega) hk.2 (fun _ => hk.1) (fun e => by omega) hn
  | inr y => cases y with
   | false =>
    exact ih 0 _ _ (by omega) hk (fun e => by omega) (fun e => by omega) hn
   | true =>
    refine ⟨?_, trivial⟩
    show aft num L fs 0 (shutE L (restE num L m a r)).1 (shutE L (restE num L m a r)).2 = aft num L fs 0 (shutE L (restE num L 2 a r)).1 (shutE L (restE num L 2 a r)).2
    have : restE num L m a r = restE num L 2 a r := by
     unfold restE
     by_cases h : m < 2
     ·rw [if_pos h, if_neg (by omega), more_prod_none hn]
     ·rw [if_neg h, if_neg (by omega)]
    rw [this]
theorem ahd_neg (num : ByteArray → Bool × Nat × Nat) (L : List Tok) (fs : List Fr) {r : Rd} (h : r.is L 2 [45] = true) : ahd num L fs r = ahd num L (.neg :: fs) r.skip := by
 unfold ahd
 rw [expr_factor, if_pos h]
 rfl
theorem ahd_brk (num : ByteArray → Bool × Nat × Nat) (L : List Tok) (fs : List Fr) {r : Rd} (h0 : ¬ r.is L 2 [45] = true) (h : r.is L 2 [40] = true) : ahd num L fs r = ahd num L (.brk :: fs) r.skip := by
 unfold ahd
 rw [expr_factor, if_neg h0, expr_power, expr_atom, if_pos h]
 show aft num L fs 0 _ _ = aft num L fs 0 (shutE L (restE num L 0 (exprI num L 4 0 r.skip).1 (exprI num L 4 0 r.skip).2)).1 _
 have : restE num L 0 (exprI num L 4 0 r.skip).1 (exprI num L 4 0 r.skip).2 = exprI num L 0 0 r.skip := by
  unfold restE
  rw [if_pos (by omega), expr_sum, expr_product]
 rw [this]
 rfl
theorem ahd_leaf (num : ByteArray → Bool × Nat × Nat) (L : List Tok) (fs : List Fr) {r : Rd} (h0 : ¬ r.is L 2 [45] = true) (h : ¬ r.is L 2 [40] = true) : ahd num L fs r = aft num L fs 0 ((r.leaf num L).2.powT L (r.leaf num L).1).1 ((r.leaf num L).2.powT L (r.leaf num L).1).2 := by
 unfold ahd
 rw [expr_factor, if_neg h0, expr_power, expr_atom, if_neg h]
theorem aft_mul (num : ByteArray → Bool × Nat × Nat) (L : List Tok) {fs : List Fr} (a : Int) {r : Rd} (hk : FrOk fs) (h : (r.is L 2 [42] || r.is L 2 [47]) = true) :
  aft num L fs 0 a r = ahd num L (.bin (if r.is L 2 [47] = true then 5 else 4) (setF true fs a r).2.1 true :: (setF true fs a r).1) (setF true fs a r).2.2.skip ∧ topP (setF true fs a r).1 := by
 obtain ⟨h1, h2⟩ := aft_setP num L fs a r hk
 obtain ⟨h3, h4, -⟩ := setF_rd true fs a r
 refine ⟨?_, h2⟩
 rw [h1]
 generalize setF true fs a r = p at h1 h2 h3 h4
 obtain ⟨gs, b, s⟩ := p
 have hs : ∀ k x, s.is L k x = r.is L k x := fun k x => Rd.is_same h3 h4 k x
 rw [← hs, ← hs] at h
 have he := expr_more_product num L b s
 rw [if_pos h, hs 2 [47]] at he
 show aft num L gs 1 b s = aft num L gs 1 _ _
 cases gs with
 | nil => show restE num L 1 b s = restE num L 1 _ _; unfold restE; rw [if_pos (by omega), if_pos (by omega), he]; rfl
 | cons f gs => cases f with
  | inl y =>
   obtain ⟨k, l, c⟩ := y
   cases c with
   | true => exact h2.elim
   | false =>
    show (if 1 < 2 then aft num L gs 2 ((exprI num L 3 b s).2.node (nd2 k l (exprI num L 3 b s).1)).1 ((exprI num L 3 b s).2.node (nd2 k l (exprI num L 3 b s).1)).2 else _) = _
    rw [if_pos (by omega), he]
    rfl
  | inr y => cases y with
   | false =>
    exact h2.elim
   | true =>
    have : restE num L 1 b s = restE num L 1 ((exprI num L 4 0 s.skip).2.node (nd2 (if r.is L 2 [47] = true then 5 else 4) b (exprI num L 4 0 s.skip).1)).1 ((exprI num L 4 0 s.skip).2.node (nd2 (if r.is L 2 [47] = true then 5 else 4) b (exprI num L 4 0 s.skip).1)).2 := by
     unfold restE; rw [if_pos (by omega), if_pos (by omega), he]; rfl
    show aft num L gs 0 (shutE L (restE num L 1 b s)).1 (shutE L (restE num L 1 b s)).2 = _
    rw [this]
    rfl
theorem aft_add (num : ByteArray → Bool × Nat × Nat) (L : List Tok) {fs : List Fr} (a : Int) {r : Rd} (hk : FrOk fs) (hn : ¬ (r.is L 2 [42] || r.is L 2 [47]) = true) (h : (r.is L 2 [43] || r.is L 2 [45]) = true) :
  aft num L fs 0 a r = ahd num L (.bin (if r.is L 2 [45] = true then 3 else 2) (setF false fs a r).2.1 false :: (setF false fs a r).1) (setF false fs a r).2.2.skip ∧ topS (setF false fs a r).1 := by
 obtain ⟨h1, h2⟩ := aft_setS num L fs 0 a r (by omega) hk (fun e => by omega) (fun e => by omega) hn
 obtain ⟨h3, h4, -⟩ := setF_rd false fs a r
 refine ⟨?_, h2⟩
 rw [h1]
 generalize setF false fs a r = p at h1 h2 h3 h4
 obtain ⟨gs, b, s⟩ := p
 have hs : ∀ k x, s.is L k x = r.is L k x := fun k x => Rd.is_same h3 h4 k x
 rw [← hs, ← hs] at h
 have he := expr_more_sum num L b s
 rw [if_pos h, hs 2 [45], expr_product] at he
 have ex : ∀ (k : Int) (x : Int) (q : Rd), aft num L (.bin k b false :: gs) 0 x q = aft num L gs 2 ((exprI num L 3 x q).2.node (nd2 k b (exprI num L 3 x q).1)).1 ((exprI num L 3 x q).2.node (nd2 k b (exprI num L 3 x q).1)).2 := fun k x q => rfl
 show aft num L gs 2 b s = ahd num L (.bin (if r.is L 2 [45] = true then 3 else 2) b false :: gs) s.skip
 unfold ahd
 rw [ex]
 cases gs with
 | nil => show restE num L 2 b s = restE num L 2 _ _; unfold restE; rw [if_neg (by omega), if_neg (by omega), he]; rfl
 | cons f gs => cases f with
  | inl y =>
   obtain ⟨k, l, c⟩ := y
   exact h2.elim
  | inr y => cases y with
   | false =>
    exact h2.elim
   | true =>
    have : restE num L 2 b s = restE num L 2 ((exprI num L 3 (exprI num L 4 0 s.skip).1 (exprI num L 4 0 s.skip).2).2.node (nd2 (if r.is L 2 [45] = true then 3 else 2) b (exprI num L 3 (exprI num L 4 0 s.skip).1 (exprI num L 4 0 s.skip).2).1)).1 ((exprI num L 3 (exprI num L 4 0 s.skip).1 (exprI num L 4 0 s.skip).2).2.node (nd2 (if r.is L 2 [45] = true then 3 else 2) b (exprI num L 3 (exprI num L 4 0 s.skip).1 (exprI num L 4 0 s.skip).2).1)).2 := by
     unfold restE; rw [if_neg (by omega), if_neg (by omega), he]; rfl
    show aft num L gs 0 (shutE L (restE num L 2 b s)).1 (shutE L (restE num L 2 b s)).2 = _
    rw [this]
    rfl
theorem aft_end (num : ByteArray → Bool × Nat × Nat) (L : List Tok) {fs : List Fr} (a : Int) {r : Rd} (hk : FrOk fs) (hn : ¬ (r.is L 2 [42] || r.is L 2 [47]) = true) (h : ¬ (r.is L 2 [43] || r.is L 2 [45]) = true) :
  ((setF false fs a r).1 = [] ∧ aft num L fs 0 a r = (setF false fs a r).2) ∨ (∃ gs, (setF false fs a r).1 = .brk :: gs ∧ FrOk gs ∧ aft num L fs 0 a r = aft num L gs 0 (shutE L (setF false fs a r).2).1 (shutE L (setF false fs a r).2).2) := by
 obtain ⟨h1, h2⟩ := aft_setS num L fs 0 a r (by omega) hk (fun e => by omega) (fun e => by omega) hn
 obtain ⟨h3, h4, -, h5⟩ := setF_rd false fs a r
 rw [h1]
 have h5 := h5 hk
 generalize setF false fs a r = p at h1 h2 h3 h4 h5
 obtain ⟨gs, b, s⟩ := p
 have hs : ∀ k x, s.is L k x = r.is L k x := fun k x => Rd.is_same h3 h4 k x
 rw [← hs, ← hs] at h
 have he : restE num L 2 b s = (b, s) := by unfold restE; rw [if_neg (by omega), more_sum_none h]
 cases gs with
 | nil => exact .inl ⟨rfl, he⟩
 | cons f gs => cases f with
  | inl y =>
   obtain ⟨k, l, c⟩ := y
   exact h2.elim
  | inr y => cases y with
   | false =>
    exact h2.elim
   | true =>
    refine .inr ⟨gs, rfl, h5, ?_⟩
    show aft num L gs 0 (shutE L (restE num L 2 b s)).1 (shutE L (restE num L 2 b s)).2 = _
    rw [he]
theorem ahd_nil (num : ByteArray → Bool × Nat × Nat) (L : List Tok) (r : Rd) : ahd num L [] r = exprI num L 0 0 r := by
 rw [expr_sum, expr_product]
 rfl
theorem on_restE (num : ByteArray → Bool × Nat × Nat) (L : List Tok) (m : Nat) (a : Int) (r : Rd) : r.On (restE num L m a r).2 := by
 unfold restE
 split
 ·exact (on_exprI num L 3 a r).trans (on_exprI num L 1 _ _)
 ·exact on_exprI num L 1 a r
theorem on_shutE (L : List Tok) (p : Int × Rd) : p.2.On (shutE L p).2 := (p.2.on_want L 2 [41]).trans (Rd.on_powT L _ _)
theorem on_aft (num : ByteArray → Bool × Nat × Nat) (L : List Tok) : ∀ (fs : List Fr) (m : Nat) (a : Int) (r : Rd), r.On (aft num L fs m a r).2 := by
 intro fs
 induction fs with
 | nil => intro m a r; exact on_restE num L m a r
 | cons f fs ih =>
  intro m a r
  cases f with
  | inl y =>
   obtain ⟨k, l, c⟩ := y
   cases c with
   | true => exact (r.on_node _).trans (ih _ _ _)
   | false =>
    show r.On (if m < 2 then _ else _ : Int × Rd).2
    split
    ·exact ((on_exprI num L 3 a r).trans (Rd.on_node _ _)).trans (ih _ _ _)
    ·exact (r.on_node _).trans (ih _ _ _)
  | inr y => cases y with
   | false =>
    exact (r.on_node _).trans (ih _ _ _)
   | true =>
    exact ((on_restE num L m a r).trans (on_shutE L _)).trans (ih _ _ _)
end
section
open Go.RowKit Go.Lib
abbrev It := Sum Int (Option (Int × Int))
abbrev It.nd (n : Int) : It := .inl n
abbrev It.wt (k b : Int) : It := .inr (some (k, b))
abbrev It.br : It := .inr none
def itV : It → Value
 | .inl n => .iface 157 (.int .i64 n)
 | .inr (some (k, b)) => .iface 186 (.agg #[.int .i64 k, .int .i64 b])
 | .inr none => .iface 208 (.agg #[])
def binds (c : Bool) : Int := if c = true then 1 else 0
def stk : List Fr → List It
 | [] => []
 | .inr false :: fs => stk fs ++ [.wt 6 2]
 | .inl (k, l, c) :: fs => stk fs ++ [.nd l] ++ [.wt k (binds c)]
 | .inr true :: fs => stk fs ++ [.br]
theorem OwnC.cut {T : TypeId} {k : Nat} {W w : World} {a : Option Addr} {n c m : Nat} {cs : List Value} (h : OwnC T k W w (.slice a n c) n cs) (hm : m ≤ n) : OwnC T k W w (.slice a m c) m (cs.take (m * k)) := by
 obtain ⟨⟨h1, h2⟩, hb⟩ := h
 have hmk : m * k ≤ n * k := Nat.mul_le_mul_right _ hm
 refine ⟨⟨by rw [List.length_take, h1]; omega, ?_⟩, hb⟩
 rcases h2 with ⟨hv, hn⟩ | ⟨g, cap, cur, hv, hg, hh, hnc, hcm, hcs, ht⟩
 ·left
  have hm0 : m = 0 := by omega
  subst hm0
  injection hv with e1 e2 e3
  exact ⟨by rw [e1, e3], rfl⟩
 ·right
  injection hv with e1 e2 e3
  subst e1; subst e3
  exact ⟨g, c, cur, rfl, hg, hh, by omega, hcm, hcs, by rw [← ht, List.take_take, Nat.min_eq_left hmk]⟩
def TY (T : TypeId) : Prop := T = 47 ∨ T = 70 ∨ T = 20
theorem ty_tok : ¬ TY 110 := by unfold TY; decide
theorem ty_u32 : ¬ TY 85 := by unfold TY; decide
theorem ty_str : ¬ TY 9 := by unfold TY; decide
theorem ty_let : ¬ TY 52 := by unfold TY; decide
theorem ty_node : TY 47 := .inl rfl
theorem ty_reader : TY 70 := .inr (.inl rfl)
theorem ty_any : TY 20 := .inr (.inr rfl)
def NodesM (W w : World) (a : Option Addr) (c : Nat) (all : List Nd) : Prop := ∃ ms : List Mn, OwnC 47 8 W w (.slice a all.length c) all.length (flat encM ms) ∧ ms.map (·.1) = all.map rawOf ∧ (∀ m ∈ ms, NumW W w m)
theorem NodesM.more {W w w' : World} {a : Option Addr} {c : Nat} {all : List Nd} (h : NodesM W w a c all) (hb : Below w.heap.size w w') : NodesM W w' a c all := by
 obtain ⟨ms, h1, h2, h3⟩ := h
 exact ⟨ms, h1.more hb, h2, fun m hm => ⟨(h3 m hm).1.more hb, (h3 m hm).2.more hb⟩⟩
theorem NodesM.box {W w : World} {a : Option Addr} {c : Nat} {all : List Nd} (h : NodesM W w a c all) {g : Nat} {ds : Array Value} {U : TypeId} (B : BoxC w g ds U) (hT : U ≠ 47) (hU : U ≠ 85) (hk : W.heap.size ≤ g) (i : Nat) (x : Value) : NodesM W (w.setCell ⟨g, i, none⟩ x) a c all := by
 obtain ⟨ms, h1, h2, h3⟩ := h
 exact ⟨ms, h1.box B hT hk i x, h2, fun m hm => ⟨OwnC.box (h3 m hm).1 B hU hk i x, OwnC.box (h3 m hm).2 B hU hk i x⟩⟩
theorem NodesM.grown {W w w' : World} {a : Option Addr} {c : Nat} {all : List Nd} {v : Value} {n k : Nat} {cs : List Value} {U : TypeId} (h : NodesM W w a c all) (o : OwnC U k W w v n cs) (hU : U ≠ 47) (hU' : U ≠ 85) (hg : w.grownBy w' v.ownBlock) (hb : Below W.heap.size W w') : NodesM W w' a c all := by
 obtain ⟨ms, h1, h2, h3⟩ := h
 have K : Keep (fun T => T = U) w w' := (Keep.refl _ w).grown o rfl hg
 exact ⟨ms, h1.keep K (fun e => hU e.symm) hb, h2, fun m hm => ⟨OwnC.keep (h3 m hm).1 K (fun e => hU' e.symm) hb, OwnC.keep (h3 m hm).2 K (fun e => hU' e.symm) hb⟩⟩
def LeftT (W w : World) (ta : Option Addr) (tc : Nat) (L : List Tok) (p : Nat) (la : Option Addr) (lc : Nat) : Prop :=
 p ≤ L.length ∧ OwnT W w (.slice ta L.length tc) L.length L ∧ (p < L.length → ∃ g, ta = some ⟨g, 0, none⟩ ∧ la = some ⟨g, p * 4, none⟩ ∧ lc = tc - p ∧ L.length ≤ tc)
theorem LeftT.more {W w w' : World} {ta : Option Addr} {tc : Nat} {L : List Tok} {p : Nat} {la : Option Addr} {lc : Nat} (h : LeftT W w ta tc L p la lc) (hb : Below w.heap.size w w') : LeftT W w' ta tc L p la lc := ⟨h.1, h.2.1.more hb, h.2.2⟩
theorem LeftT.grown {W w w' : World} {ta : Option Addr} {tc : Nat} {L : List Tok} {p : Nat} {la : Option Addr} {lc : Nat} {v : Value} {n k : Nat} {cs : List Value} {U : TypeId} (h : LeftT W w ta tc L p la lc) (o : OwnC U k W w v n cs) (hU : U ≠ 110) (hg : w.grownBy w' v.ownBlock) (hb : Below W.heap.size W w') : LeftT W w' ta tc L p la lc :=
 ⟨h.1, OwnC.keep h.2.1 ((Keep.refl (fun T => T = U) w).grown o rfl hg) (fun e => hU e.symm) hb, h.2.2⟩
theorem LeftT.tok {W w : World} {ta : Option Addr} {tc : Nat} {L : List Tok} {p : Nat} {la : Option Addr} {lc : Nat} (h : LeftT W w ta tc L p la lc) {t : Tok} (ht : L[p]? = some t) : ∃ g, la = some ⟨g, p * 4, none⟩ ∧ w.cell? ⟨g, p * 4, none⟩ = some (.int .i64 t.1) ∧ w.cell? ⟨g, p * 4 + 1, none⟩ = some (.string t.2.1) ∧ w.cell? ⟨g, p * 4 + 2, none⟩ = some (.int .i64 t.2.2.1) ∧ w.cell? ⟨g, p * 4 + 3, none⟩ = some (.int .i64 t.2.2.2) := by
 obtain ⟨hp, he⟩ := List.getElem?_eq_some_iff.1 ht
 obtain ⟨g, e1, e2, -⟩ := h.2.2 hp
 have h1 := tok_cells (h.2.1.toks.2.resolve_left (fun e => by rw [e] at hp; exact absurd hp (by simp))) p hp
 rw [he] at h1
 obtain ⟨g', e3, h2⟩ := h1
 rw [e1] at e3
 injection e3 with e3
 injection e3 with e3
 subst e3
 exact ⟨g, e2, h2⟩
def Tq (W w : World) (R : Nat) (ta : Option Addr) (tc : Nat) (i l o : Value) (L : List Tok) (p : Nat) (all : List Nd) (S : List It) : Prop :=
  ∃ (la : Option Addr) (lc : Nat) (a : Option Addr) (c : Nat) (sa : Option Addr) (sc : Nat), W.heap.size ≤ R ∧ BoxC w R #[.slice la (L.length - p) lc, i, l, o, .slice a all.length c, .slice sa S.length sc] 70 ∧
    NodesM W w a c all ∧ OwnC 20 1 W w (.slice sa S.length sc) S.length (S.map itV) ∧ LeftT W w ta tc L p la lc
section
variable {W w w' : World} {R : Nat} {ta : Option Addr} {tc : Nat} {i l o : Value} {L : List Tok} {p : Nat} {all : List Nd} {S : List It}
theorem Tq.below (h : Tq W w R ta tc i l o L p all S) : Below W.heap.size W w := by
 obtain ⟨la, lc, a, c, sa, sc, h1, h2, h3, h4, h5⟩ := h; exact h4.below
theorem Tq.more (h : Tq W w R ta tc i l o L p all S) (hb : Below w.heap.size w w') : Tq W w' R ta tc i l o L p all S := by
 obtain ⟨la, lc, a, c, sa, sc, h1, h2, h3, h4, h5⟩ := h
 exact ⟨la, lc, a, c, sa, sc, h1, h2.more hb, h3.more hb, h4.more hb, h5.more hb⟩
end
def nextT (L : List Tok) (p : Nat) : Tok := (L[p]?).getD (0, noText, 0, 0)
end
section
open Go.RowKit Go.Lib
section
variable {W w : World} {R : Nat} {ta : Option Addr} {tc : Nat} {i l o : Value} {L : List Tok} {p : Nat} {all : List Nd} {S : List It}
theorem q_next (h : Tq W w R ta tc i l o L p all S) :
  Calls Tryz.prog 101 #[.pointer (some ⟨R, 0, none⟩)] w fun e w' => e = .returned (.agg #[.int .i64 (nextT L p).1, .string (nextT L p).2.1, .int .i64 (nextT L p).2.2.1, .int .i64 (nextT L p).2.2.2]) ∧ Below w.heap.size w w' := by
 obtain ⟨la, lc, a, c, sa, sc, hW, B, hN, hS, hT⟩ := h
 have x0 := (B.cell 0).1
 have NB : ∀ (a0 : Int) (a1 : ByteArray) (a2 a3 : Int), Hid (BoxC (w.alloc (.cells #[.int .i64 a0, .string a1, .int .i64 a2, .int .i64 a3] 110)) w.heap.size #[.int .i64 a0, .string a1, .int .i64 a2, .int .i64 a3] 110 ∧ Below w.heap.size w (w.alloc (.cells #[.int .i64 a0, .string a1, .int .i64 a2, .int .i64 a3] 110))) := fun a0 a1 a2 a3 => ⟨(boxes1 w _ _).1, (boxes1 w _ _).2.1⟩
 have hR := B.lt
 unfold nextT
 cases ht : L[p]? with
 | none =>
  have hp := List.getElem?_eq_none_iff.1 ht
  have hz : L.length - p = 0 := by omega
  rw [hz] at x0
  have hk : ((0 : Nat) : Int) = 0 := rfl
  show Calls Tryz.prog _ _ w fun e w' => e = .returned (.agg #[.int .i64 0, .string noText, .int .i64 0, .int .i64 0]) ∧ _
  unfold noText
  clear hN hS hT B hp ht hW
  go_enter Tryz.func101, Tryz.ntmps101
  go_wp2
  obtain ⟨b1, b2⟩ := (NB 0 ⟨#[]⟩ 0 0).out
  have c0 := (b1.cell 0).1
  have c1 := (b1.cell 1).1
  have c2 := (b1.cell 2).1
  have c3 := (b1.cell 3).1
  exact bodyPost_ret (v := .agg #[.int .i64 0, .string ⟨#[]⟩, .int .i64 0, .int .i64 0]) (by simp [results, Tryz.results101, go_sem, c0, c1, c2, c3]) rfl ⟨rfl, b2⟩
 | some t =>
  have hp := (List.getElem?_eq_some_iff.1 ht).1
  have k1 : ¬ ((L.length - p : Nat) : Int) = 0 := by omega
  have k2 : 0 < L.length - p := by omega
  have k3 : (0 : Int) < ((L.length - p : Nat) : Int) := by omega
  obtain ⟨g, rfl, t0, t1, t2, t3⟩ := hT.tok ht
  have hg : g < w.heap.size := World.block_lt_of_cell? w ⟨g, p * 4, none⟩ t0
  show Calls Tryz.prog _ _ w fun e w' => e = .returned (.agg #[.int .i64 t.1, .string t.2.1, .int .i64 t.2.2.1, .int .i64 t.2.2.2]) ∧ _
  generalize L.length - p = n at *
  generalize t.1 = y0 at *
  generalize t.2.1 = y1 at *
  generalize t.2.2.1 = y2 at *
  generalize t.2.2.2 = y3 at *
  clear hN hS hT B hp ht hW
  go_enter Tryz.func101, Tryz.ntmps101
  go_wp2
  obtain ⟨b1, b2⟩ := (NB y0 y1 y2 y3).out
  have c0 := (b1.cell 0).1
  have c1 := (b1.cell 1).1
  have c2 := (b1.cell 2).1
  have c3 := (b1.cell 3).1
  exact bodyPost_ret (v := .agg #[.int .i64 y0, .string y1, .int .i64 y2, .int .i64 y3]) (by simp [results, Tryz.results101, go_sem, c0, c1, c2, c3]) rfl ⟨rfl, b2⟩
theorem Tq.left {la : Option Addr} {lc : Nat} {a : Option Addr} {c : Nat} {sa : Option Addr} {sc : Nat} (hW : W.heap.size ≤ R) (B : BoxC w R #[.slice la (L.length - p) lc, i, l, o, .slice a all.length c, .slice sa S.length sc] 70)
  (hN : NodesM W w a c all) (hS : OwnC 20 1 W w (.slice sa S.length sc) S.length (S.map itV)) (hT : LeftT W w ta tc L p la lc) {q : Nat} {la' : Option Addr} {lc' : Nat} (hq : q ≤ L.length)
  (hl : q < L.length → ∃ g, ta = some ⟨g, 0, none⟩ ∧ la' = some ⟨g, q * 4, none⟩ ∧ lc' = tc - q ∧ L.length ≤ tc) :
  Tq W (w.setCell ⟨R, 0, none⟩ (.slice la' (L.length - q) lc')) R ta tc i l o L q all S ∧ Keep TY w (w.setCell ⟨R, 0, none⟩ (.slice la' (L.length - q) lc')) :=
 ⟨⟨la', lc', a, c, sa, sc, hW, B.set 0 _, hN.box B (by decide) (by decide) hW _ _, hS.box B (by decide) hW _ _, hq, hT.2.1.box B (by decide) hW _ _, hl⟩, (Keep.refl TY w).set B ty_reader 0 _⟩
theorem q_skip (h : Tq W w R ta tc i l o L p all S) (hp : p < L.length) :
  Calls Tryz.prog 102 #[.pointer (some ⟨R, 0, none⟩)] w fun e w' => e = .returned (.tuple #[]) ∧ Tq W w' R ta tc i l o L (p + 1) all S ∧ Keep TY w w' := by
 obtain ⟨la, lc, a, c, sa, sc, hW, B, hN, hS, hT⟩ := h
 have x0 := (B.cell 0).1
 have y0 := (B.cell 0).2
 have hR := B.lt
 obtain ⟨g, rfl, rfl, rfl, htc⟩ := hT.2.2 hp
 have LF := fun (la' : Option Addr) (lc' : Nat) => Tq.left (la' := la') (lc' := lc') (q := p + 1) hW B hN hS hT (by omega)
 have HL : Hid _ := LF
 clear LF hW hN hS hT B
 obtain ⟨n, hn⟩ : ∃ n, L.length - p = n + 1 := ⟨L.length - p - 1, by omega⟩
 have hn' : L.length - (p + 1) = n := by omega
 rw [hn'] at HL
 rw [hn] at x0
 have e1 : (p + 1) * 4 = p * 4 + 4 := by omega
 by_cases hc : tc - p - 1 = 0
 ·have k1 : 1 ≤ tc - p := by omega
  have k2 : (1 : Int) ≤ ((tc - p : Nat) : Int) := by omega
  have k3 : ¬ p + 1 < L.length := by omega
  generalize tc - p = C at *
  go_enter Tryz.func102, Tryz.ntmps102
  go_wp2
  go_end0
  exact ⟨rfl, HL.out _ _ (fun q => absurd q k3)⟩
 ·have k1 : 1 ≤ tc - p := by omega
  have k2 : (1 : Int) ≤ ((tc - p : Nat) : Int) := by omega
  have e2 : tc - p - 1 = tc - (p + 1) := by omega
  go_enter Tryz.func102, Tryz.ntmps102
  go_wp2
  go_end0
  exact ⟨rfl, HL.out _ _ (fun q => ⟨g, rfl, by rw [e1], e2, htc⟩)⟩
theorem next_lt {L : List Tok} {p : Nat} {x : ByteArray} (hb : ((nextT L p).2.1.toList == x.toList) = true) (hx : x.toList ≠ []) : p < L.length := by
 rcases Nat.lt_or_ge p L.length with q | q
 ·exact q
 ·exfalso
  have e : nextT L p = (0, noText, 0, 0) := by unfold nextT; rw [List.getElem?_eq_none q]; rfl
  rw [e] at hb
  exact hx (by rw [beq_iff_eq] at hb; exact hb.symm.trans (by show (⟨#[]⟩ : ByteArray).toList = []; simp [ByteArray.toList_eq]))
theorem q_pass (h : Tq W w R ta tc i l o L p all S) (x : ByteArray) (hx : x.toList ≠ []) (b : Bool) (hb : ((nextT L p).2.1.toList == x.toList) = b) :
  Calls Tryz.prog 67 #[.pointer (some ⟨R, 0, none⟩), .string x] w fun e w' => e = .returned (.bool b) ∧ Tq W w' R ta tc i l o L (if b = true then p + 1 else p) all S ∧ Keep TY w w' := by
 have NX := q_next h
 have FD : ∀ (a0 : Int) (a1 : ByteArray) (a2 a3 : Int) (v : World), Sem.run Tryz.prog (Instr.field 110 (.agg #[.int .i64 a0, .string a1, .int .i64 a2, .int .i64 a3]) 1) v = .ok (.string a1) v := fun a0 a1 a2 a3 v => by kernel_rfl
 have hh : Hid (Tq W w R ta tc i l o L p all S) := h
 cases b with
 | false =>
  generalize (nextT L p).1 = y0 at *
  generalize (nextT L p).2.1 = y1 at *
  generalize (nextT L p).2.2.1 = y2 at *
  generalize (nextT L p).2.2.2 = y3 at *
  clear h hx
  go_enter Tryz.func67, Tryz.ntmps67
  go_wp2_with (go_at_call 101; (with_reducible refine Calls.mono NX ?_); rintro e w1 ⟨rfl, d1⟩)
  go_ret
  exact ⟨rfl, hh.out.more d1, Keep.of TY d1⟩
 | true =>
  have hp := next_lt hb hx
  have SK := fun (v : World) (d : Below w.heap.size w v) => q_skip (h.more d) hp
  generalize (nextT L p).1 = y0 at *
  generalize (nextT L p).2.1 = y1 at *
  generalize (nextT L p).2.2.1 = y2 at *
  generalize (nextT L p).2.2.2 = y3 at *
  clear h hx
  go_enter Tryz.func67, Tryz.ntmps67
  go_wp2_with (first
   | (go_at_call 101; (with_reducible refine Calls.mono NX ?_); rintro e w1 ⟨rfl, d1⟩)
   | (go_at_call 102; (with_reducible refine Calls.mono (SK _ (by assumption)) ?_); rintro e w2 ⟨rfl, T2, K2⟩))
  go_ret
  exact ⟨rfl, T2, (Keep.of TY d1).trans K2⟩
theorem infoAny : (Tryz.prog.info? 20).map (fun i => (i.zero, i.size, i.bytes)) = some (some .nilIface, 1, 16) := by kernel_rfl
theorem Tq.stack {la : Option Addr} {lc : Nat} {a : Option Addr} {c : Nat} {x5 : Value} (hW : W.heap.size ≤ R) (B : BoxC w R #[.slice la (L.length - p) lc, i, l, o, .slice a all.length c, x5] 70)
  (hN : NodesM W w a c all) (hT : LeftT W w ta tc L p la lc) {S' : List It} {n : Nat} {sa' : Option Addr} {sc' : Nat} (hn : S'.length = n) (hS : OwnC 20 1 W w (.slice sa' n sc') n (S'.map itV)) :
  Tq W (w.setCell ⟨R, 5, none⟩ (.slice sa' n sc')) R ta tc i l o L p all S' ∧ Keep TY w (w.setCell ⟨R, 5, none⟩ (.slice sa' n sc')) := by
 subst hn
 exact ⟨⟨la, lc, a, c, sa', sc', hW, B.set 5 _, hN.box B (by decide) (by decide) hW _ _, hS.box B (by decide) hW _ _, hT.1, hT.2.1.box B (by decide) hW _ _, hT.2.2⟩, (Keep.refl TY w).set B ty_reader 5 _⟩
def topV (S : List It) : Value := match S.getLast? with
 | some x => itV x
 | none => .nilIface
theorem stack_last {sa : Option Addr} {sc : Nat} {S0 : List It} {x : It} (hS : OwnC 20 1 W w (.slice sa (S0.length + 1) sc) (S0.length + 1) ((S0 ++ [x]).map itV)) :
  ∃ g, sa = some ⟨g, 0, none⟩ ∧ w.cell? ⟨g, S0.length, none⟩ = some (itV x) ∧ S0.length + 1 ≤ sc := by
 obtain ⟨⟨h1, h2⟩, hb⟩ := hS
 rcases h2 with ⟨-, hn⟩ | ⟨g, cap, cur, hv, hg, hh, hnc, hcm, hcs, ht⟩
 ·omega
 ·injection hv with e1 e2 e3
  subst e1; subst e3
  have hr := (OwnC.reads (W := W) (k := 1) (T := 20) (w := w) (a := some ⟨g, 0, none⟩) (n := S0.length + 1) (c := sc) (cs := (S0 ++ [x]).map itV) ⟨⟨h1, .inr ⟨g, sc, cur, rfl, hg, hh, hnc, hcm, hcs, ht⟩⟩, hb⟩).2
  obtain ⟨y, hy, hc⟩ := hr.resolve_left (by omega)
  injection hy with hy
  subst hy
  have := hc S0.length (itV x) (by simp)
  refine ⟨g, rfl, ?_, hnc⟩
  rcases S0 with _ | ⟨z, S1⟩ <;> simpa [Addr.add] using this
theorem q_top_nil (h : Tq W w R ta tc i l o L p all []) :
  Calls Tryz.prog 186 #[.pointer (some ⟨R, 0, none⟩)] w fun e w' => e = .returned .nilIface ∧ Below w.heap.size w w' := by
 obtain ⟨la, lc, a, c, sa, sc, hW, B, hN, hS, hT⟩ := h
 have x5 := (B.cell 5).1
 have hR := B.lt
 have hk : ((([] : List It).length : Nat) : Int) = 0 := rfl
 generalize ([] : List It).length = n at *
 clear hN hS hT B hW
 go_enter Tryz.func186, Tryz.ntmps186
 go_wp2
 go_ret
 exact ⟨rfl, Below.refl _ _⟩
theorem q_top_some {S0 : List It} {x : It} (h : Tq W w R ta tc i l o L p all (S0 ++ [x])) (hl : S0.length ≤ 100000) :
  Calls Tryz.prog 186 #[.pointer (some ⟨R, 0, none⟩)] w fun e w' => e = .returned (itV x) ∧ Below w.heap.size w w' := by
 obtain ⟨la, lc, a, c, sa, sc, hW, B, hN, hS, hT⟩ := h
 have x5 := (B.cell 5).1
 have hR := B.lt
 have hn : (S0 ++ [x]).length = S0.length + 1 := by simp
 rw [hn] at hS x5
 obtain ⟨g, rfl, hc, -⟩ := stack_last hS
 have w0 : wrap64 ((S0.length : Int) + 1 - 1) = S0.length := by rw [show (S0.length : Int) + 1 - 1 = S0.length by omega]; exact wrap_smalls (by omega) (by omega)
 have w1 : IntKind.i64.wrap ((S0.length : Int) + 1 - 1) = S0.length := by rw [IntKind.wrap_i64]; omega
 have w2 : IntKind.i64.wrap (S0.length : Int) = S0.length := by rw [IntKind.wrap_i64]; omega
 have w3 : wrap64 (S0.length : Int) = S0.length := wrap_smalls (by omega) (by omega)
 have k0 : (((S0.length + 1 : Nat) : Int) == 0) = false := by rw [beq_eq_false_iff_ne]; omega
 have k1 : ¬ ((S0.length : Int) + 1 = 0) := by omega
 have k2 : (S0.length : Int) < ((S0.length + 1 : Nat) : Int) := by omega
 have k3 : S0.length < S0.length + 1 := by omega
 have k4 : (0 : Int) ≤ (S0.length : Int) := by omega
 generalize itV x = y at *
 generalize S0.length = n at *
 clear hN hS hT B hW hl hn
 go_enter Tryz.func186, Tryz.ntmps186
 go_wp2
 go_quiet (fail)
 go_wp2
 go_ret
 exact ⟨rfl, below_drewN (Below.refl _ _) _⟩
theorem q_top (h : Tq W w R ta tc i l o L p all S) (hl : S.length ≤ 100000) :
  Calls Tryz.prog 186 #[.pointer (some ⟨R, 0, none⟩)] w fun e w' => e = .returned (topV S) ∧ Below w.heap.size w w' := by
 unfold topV
 rcases List.eq_nil_or_concat S with rfl | ⟨S0, x, rfl⟩
 ·exact q_top_nil h
 ·rw [List.concat_eq_append] at *
  have hlast : (S0 ++ [x]).getLast? = some x := by simp
  rw [hlast]
  have hn : (S0 ++ [x]).length = S0.length + 1 := by simp
  exact q_top_some h (by omega)
theorem q_drop {S0 : List It} {x : It} (h : Tq W w R ta tc i l o L p all (S0 ++ [x])) (hl : S0.length ≤ 100000) :
  Calls Tryz.prog 187 #[.pointer (some ⟨R, 0, none⟩)] w fun e w' => e = .returned (.tuple #[]) ∧ Tq W w' R ta tc i l o L p all S0 ∧ Keep TY w w' := by
 obtain ⟨la, lc, a, c, sa, sc, hW, B, hN, hS, hT⟩ := h
 have x5 := (B.cell 5).1
 have y5 := (B.cell 5).2
 have hR := B.lt
 have hn : (S0 ++ [x]).length = S0.length + 1 := by simp
 rw [hn] at hS x5
 obtain ⟨g, rfl, hc, hsc⟩ := stack_last hS
 have hS' := hS.cut (m := S0.length) (by omega)
 have e0 : ((S0 ++ [x]).map itV).take (S0.length * 1) = S0.map itV := by rw [Nat.mul_one, List.map_append, List.take_append_of_le_length (by simp), List.take_of_length_le (by simp)]
 rw [e0] at hS'
 have ST := fun (v : World) (d : Below w.heap.size w v) => Tq.stack (S' := S0) hW (B.more d) (hN.more d) (hT.more d) rfl (hS'.more d)
 have HS : Hid _ := ST
 have w0 : wrap64 ((S0.length : Int) + 1 - 1) = S0.length := by rw [show (S0.length : Int) + 1 - 1 = S0.length by omega]; exact wrap_smalls (by omega) (by omega)
 have w1 : IntKind.i64.wrap ((S0.length : Int) + 1 - 1) = S0.length := by rw [IntKind.wrap_i64]; omega
 have w2 : IntKind.i64.wrap (S0.length : Int) = S0.length := by rw [IntKind.wrap_i64]; omega
 have w3 : wrap64 (S0.length : Int) = S0.length := wrap_smalls (by omega) (by omega)
 have k4 : (0 : Int) ≤ (S0.length : Int) := by omega
 have k5 : (S0.length : Int) ≤ (sc : Int) := by omega
 have k6 : S0.length ≤ sc := by omega
 clear ST hN hS hS' hT B hW hl hn e0 hc
 generalize S0.length = n at *
 go_enter Tryz.func187, Tryz.ntmps187
 go_wp2
 go_region_law (fail)
 all_goals
  go_wp2
  go_end0
  exact ⟨rfl, HS.out _ (Below.refl _ _).drew⟩
end
end
section
open Go.RowKit Go.Lib
section
variable {W w : World} {R : Nat} {ta : Option Addr} {tc : Nat} {i l o : Value} {L : List Tok} {p : Nat} {all : List Nd} {S : List It}
theorem q_push (h : Tq W w R ta tc i l o L p all S) (x : It) (hl : S.length ≤ 100000) :
  Calls Tryz.prog 163 #[.pointer (some ⟨R, 0, none⟩), itV x] w fun e w' => e = .returned (.tuple #[]) ∧ Tq W w' R ta tc i l o L p all (S ++ [x]) ∧ Keep TY w w' := by
 obtain ⟨la, lc, a, c, sa, sc, hW, B, hN, hS, hT⟩ := h
 have x5 := (B.cell 5).1
 have hR := B.lt
 have HA : Hid ((Value.slice sa S.length sc).ownBlock ≠ some R) := hS.apart B (by decide)
 have m1 : S.length + 1 ≤ maxLen := by unfold maxLen; omega
 have m2 : (S.length + 1) * 16 ≤ 140737488355328 := by omega
 have hn : (S ++ [x]).length = S.length + 1 := by simp
 have hm : (S ++ [x]).map itV = S.map itV ++ [itV x] := by simp
 have oo := fun z => hS.alloc z
 have HH : Hid (W.heap.size ≤ R ∧ BoxC w R #[.slice la (L.length - p) lc, i, l, o, .slice a all.length c, .slice sa S.length sc] 70 ∧ NodesM W w a c all ∧ LeftT W w ta tc L p la lc ∧ (S ++ [x]).length = S.length + 1 ∧ (S ++ [x]).map itV = S.map itV ++ [itV x]) := ⟨hW, B, hN, hT, hn, hm⟩
 obtain ⟨t, v, e⟩ : ∃ t v, itV x = .iface t v := by rcases x with _ | (_ | ⟨_, _⟩) <;> exact ⟨_, _, rfl⟩
 have e' : Hid (itV x = .iface t v) := e
 rw [e]
 clear e
 clear hW B hN hT hS hn hm hl
 go_enter Tryz.func163, Tryz.ntmps163
 go_wp2_with (at_builtin; go_loud (refine wpl_append_c (t := 68) (e := 20) Tryz.underlying68 infoAny rfl (by decide) (.tmp 8) (.tmp 10) rfl rfl W _ _ S.length (S.map itV) (some ⟨w.heap.size, 0, none⟩) 1 1 [.iface t v] rfl rfl (oo _) (BoxC.new w #[.iface t v] 20).isc (by simp [Value.oneCell']) (by simp) m1 m2 ?_; intro a3 c3 w3 _ o3 g3; have D2 := (HH.out.2.1.alloc (.cells #[.iface t v] 20)).grown g3 HA.out; have y5 := (D2.cell 5).2; have z5 := (D2.cell 5).1))
 go_end0
 obtain ⟨hW, B, hN, hT, hn, hm⟩ := HH.out
 have d := (Below.refl w.heap.size w).alloc (Nat.le_refl _) (.cells #[.iface t v] 20)
 obtain ⟨q1, q2⟩ := Tq.stack (S' := S ++ [x]) hW D2 ((hN.more d).grown (oo _) (by decide) (by decide) g3 o3.below) ((hT.more d).grown (oo _) (by decide) g3 o3.below) hn (by rw [hm, e'.out]; exact o3)
 exact ⟨rfl, q1, (((Keep.refl TY w).alloc _).grown (oo _) ty_any g3).trans q2⟩
theorem Tq.node {la : Option Addr} {lc : Nat} {x4 : Value} {sa : Option Addr} {sc : Nat} {n : Nd} {u v : Value} {a3 : Option Addr} {c3 N : Nat} {ms : List Mn} {w3 : World} (hN : all.length = N) (hW : W.heap.size ≤ R)
  (B : BoxC w3 R #[.slice la (L.length - p) lc, i, l, o, x4, .slice sa S.length sc] 70) (O : OwnC 47 8 W w3 (.slice a3 (N + 1) c3) (N + 1) (flat encM ms ++ encM (rawOf n, u, v)))
  (hms : ms.map (·.1) = all.map rawOf) (hnw : ∀ m ∈ ms, NumW W w3 m) (hm : NumW W w3 (rawOf n, u, v)) (hS : OwnC 20 1 W w3 (.slice sa S.length sc) S.length (S.map itV)) (hT : LeftT W w3 ta tc L p la lc) :
  Tq W (w3.setCell ⟨R, 4, none⟩ (.slice a3 (N + 1) c3)) R ta tc i l o L p (all ++ [n]) S ∧ Keep TY w3 (w3.setCell ⟨R, 4, none⟩ (.slice a3 (N + 1) c3)) := by
 subst hN
 have e : (all ++ [n]).length = all.length + 1 := by simp
 have hk := (Keep.refl TY w3).set B ty_reader 4 (.slice a3 (all.length + 1) c3)
 have hb := O.below.setCell (p := ⟨R, 4, none⟩) hW (.slice a3 (all.length + 1) c3)
 refine ⟨⟨la, lc, a3, c3, sa, sc, hW, by rw [e]; exact B.set 4 _, ⟨ms ++ [(rawOf n, u, v)], ?_, ?_, ?_⟩, hS.box B (by decide) hW _ _, hT.1, hT.2.1.box B (by decide) hW _ _, hT.2.2⟩, hk⟩
 ·rw [e, flat_append, flat_one]
  exact O.box B (by decide) hW _ _
 ·rw [List.map_append, List.map_append, hms]; rfl
 ·intro m hmm
  rcases List.mem_append.1 hmm with q | q
  ·exact ⟨OwnC.keep (hnw m q).1 hk ty_u32 hb, OwnC.keep (hnw m q).2 hk ty_u32 hb⟩
  ·obtain rfl := List.mem_singleton.1 q
   exact ⟨OwnC.keep hm.1 hk ty_u32 hb, OwnC.keep hm.2 hk ty_u32 hb⟩
theorem q_add (h : Tq W w R ta tc i l o L p all S) (n : Nd) (ua : Option Addr) (un uc : Nat) (va : Option Addr) (vn vc : Nat) (hN : NumW W w (rawOf n, .slice ua un uc, .slice va vn vc)) (hl : all.length ≤ 100000) :
  Calls Tryz.prog 190 #[.pointer (some ⟨R, 0, none⟩), .agg #[.int .i64 n.kind, .int .i64 n.a, .int .i64 n.b, .int .i64 n.exp, .string n.name, .bool n.num.1, .slice ua un uc, .slice va vn vc]] w fun e w' => e = .returned (.int .i64 all.length) ∧ Tq W w' R ta tc i l o L p (all ++ [n]) S ∧ Keep TY w w' := by
 obtain ⟨la, lc, a, c, sa, sc, hW, B, ⟨ms, O, hms, hnw⟩, hS, hT⟩ := h
 have hR := B.lt
 have x4 := (B.cell 4).1
 have y4 := (B.cell 4).2
 have N1 := boxes1 w #[.int .i64 n.kind, .int .i64 n.a, .int .i64 n.b, .int .i64 n.exp, .string n.name, .bool n.num.1, .slice ua un uc, .slice va vn vc] 47
 have z0 := (N1.1.cell 0).1
 have z1 := (N1.1.cell 1).1
 have z2 := (N1.1.cell 2).1
 have z3 := (N1.1.cell 3).1
 have z4 := (N1.1.cell 4).1
 have z5 := (N1.1.cell 5).1
 have z6 := (N1.1.cell 6).1
 have z7 := (N1.1.cell 7).1
 have w0 : wrap64 (all.length : Int) = all.length := wrap_smalls (by omega) (by omega)
 have w1 : wrap64 ((all.length : Int) + 1 - 1) = all.length := by rw [show (all.length : Int) + 1 - 1 = all.length by omega]; exact w0
 have one := encM_one (rawOf n, .slice ua un uc, .slice va vn vc) ⟨_, _, _, rfl⟩ ⟨_, _, _, rfl⟩
 have HA : Hid ((Value.slice a all.length c).ownBlock ≠ some R) := O.apart B (by decide)
 have SRC := fun (v : World) => (BoxC.new v (encM (rawOf n, .slice ua un uc, .slice va vn vc)).toArray 47).isc
 have HH : Hid (W.heap.size ≤ R ∧ BoxC w R #[.slice la (L.length - p) lc, i, l, o, .slice a all.length c, .slice sa S.length sc] 70 ∧ OwnC 47 8 W w (.slice a all.length c) all.length (flat encM ms) ∧ ms.map (·.1) = all.map rawOf ∧ (∀ m ∈ ms, NumW W w m) ∧ OwnC 20 1 W w (.slice sa S.length sc) S.length (S.map itV) ∧ LeftT W w ta tc L p la lc ∧ NumW W w (rawOf n, .slice ua un uc, .slice va vn vc)) := ⟨hW, B, O, hms, hnw, hS, hT, hN⟩
 have HB : Hid (Below w.heap.size w (w.alloc (.cells #[.int .i64 n.kind, .int .i64 n.a, .int .i64 n.b, .int .i64 n.exp, .string n.name, .bool n.num.1, .slice ua un uc, .slice va vn vc] 47))) := N1.2.1
 have HL : Hid (all.length ≤ 100000) := hl
 clear hW B O hms hnw hT hN hS N1 hl
 go_enter Tryz.func190, Tryz.ntmps190
 go_wp2
 have hz : w.heap.size < (w.alloc (.cells #[.int .i64 n.kind, .int .i64 n.a, .int .i64 n.b, .int .i64 n.exp, .string n.name, .bool n.num.1, .slice ua un uc, .slice va vn vc] 47)).heap.size := by simp
 generalize w.alloc (.cells #[.int .i64 n.kind, .int .i64 n.a, .int .i64 n.b, .int .i64 n.exp, .string n.name, .bool n.num.1, .slice ua un uc, .slice va vn vc] 47) = V at *
 have BV := HH.out.2.1.more HB.out
 have x4 := (BV.cell 4).1
 have hRV : R < V.heap.size := BV.lt
 have oo := fun z => ((HH.out.2.2.1.more HB.out).drew).alloc z
 have m1 : all.length + 1 ≤ maxLen := by have := HL.out; unfold maxLen; omega
 have m2 : (all.length + 1) * 104 ≤ 140737488355328 := by have := HL.out; omega
 generalize hlen : all.length = N at *
 go_region_law (first
  | (refine stp_append_c (t := 24) (e := 47) Tryz.underlying24 infoNode rfl (by decide) (.tmp 10) (.tmp 12) rfl rfl W _ _ N (flat encM ms) V.heap.size 1 1 (encM (rawOf n, .slice ua un uc, .slice va vn vc)) rfl rfl (oo _) (SRC V.drew) (by decide) one m1 m2 ?_; intro a3 c3 w3 o3 g3; have D2 := (BV.drew.alloc (.cells (encM (rawOf n, .slice ua un uc, .slice va vn vc)).toArray 47)).grown g3 HA.out; have y3 := (D2.cell 4).2; have x3' := (D2.cell 4).1))
 all_goals
  obtain ⟨hW, -, hO, hms, hnw, hS, hT, hN⟩ := HH.out
  have d3 : Below w.heap.size w (V.drew.alloc (.cells (encM (rawOf n, .slice ua un uc, .slice va vn vc)).toArray 47)) := HB.out.drew.alloc HB.out.size _
  have KY := (Keep.of TY d3).grown (oo _) ty_node g3
  have RN := Tq.node (p := p) (S := S) (u := .slice ua un uc) (v := .slice va vn vc) hlen hW D2 o3 hms (fun m hm => ⟨OwnC.keep (hnw m hm).1 KY ty_u32 o3.below, OwnC.keep (hnw m hm).2 KY ty_u32 o3.below⟩) ⟨OwnC.keep hN.1 KY ty_u32 o3.below, OwnC.keep hN.2 KY ty_u32 o3.below⟩ (OwnC.keep (hS.more d3) ((Keep.refl (fun T => T = 47) _).grown (oo _) rfl g3) (by decide) o3.below) ((hT.more d3).grown (oo _) (by decide) g3 o3.below)
  have K4 := KY.trans RN.2
  have x4' := (D2.set 4 (.slice a3 (N + 1) c3)).cell 4
  obtain ⟨x6', -⟩ := x4'
  have HR : Hid _ := RN.1
  have HK : Hid _ := K4
  clear RN K4 KY d3 hW hO hms hnw hT hS hN BV oo D2 o3 g3 z0 z1 z2 z3 z4 z5 z6 z7 SRC one HA HH HB x4 y4 x3' y3
  go_wp2
  go_ret
  exact ⟨by rw [hlen]; rfl, HR.out, HK.out⟩
end
end
end Go.Proofs.YtaeladkcmpdkhaaGreatDoor
