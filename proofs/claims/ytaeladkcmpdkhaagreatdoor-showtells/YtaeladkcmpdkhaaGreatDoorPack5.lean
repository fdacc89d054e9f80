/-
  Texts of mine in build order. No conditions of their own.
-/
import Derived.Deep.RegionLaw
import Derived.Deep.DrawnRows
import Derived.Deep.RegionWith
import Derived.Test.YtaeladkcmpdkhaaGreatDoorPack4
set_option maxHeartbeats 4000000
namespace Go.Proofs.YtaeladkcmpdkhaaGreatDoor
section
open Go.RowKit Go.Lib
structure Nw where
 kind : Int
 a : Int
 b : Int
 exp : Int
 name : ByteArray
 neg : Bool
 xs : List Int
 ys : List Int
def rawOf (n : Nd) : Nw := ⟨n.kind, n.a, n.b, n.exp, n.name, n.num.1, natOf n.num.2.1, natOf n.num.2.2⟩
abbrev Mn := Nw × Value × Value
def encM (m : Mn) : List Value := [.int .i64 m.1.kind, .int .i64 m.1.a, .int .i64 m.1.b, .int .i64 m.1.exp, .string m.1.name, .bool m.1.neg, m.2.1, m.2.2]
theorem encM_length (m : Mn) : (encM m).length = 8 := rfl
theorem infoNode : (Tryz.prog.info? 47).map (fun i => (i.zero, i.size, i.bytes)) = some (some (.agg #[.int .i64 0, .int .i64 0, .int .i64 0, .int .i64 0, .string ⟨#[]⟩, .bool false, .slice none 0 0, .slice none 0 0]), 8, 104) := by kernel_rfl
def NumW (W w : World) (m : Mn) : Prop := Own W w m.2.1 m.1.xs.length m.1.xs ∧ Own W w m.2.2 m.1.ys.length m.1.ys
section
variable {W w w' : World} {R : Nat} {la : Option Addr} {lc : Nat} {i l o : Value} {L : List Tok} {r : Rd}
end
end
section
open Go.RowKit Go.Lib
theorem stp_append_c {P : Program} {ops : Array Oper} {o : Oper} {a : Act} {K : Act → World → Prop} {Q : Exit → Act → World → Prop} {E : Prop} {t e : TypeId} {z : Value} {k bytes : Nat} (hP : P.underlying t = some (.slice e)) (hI : (P.info? e).map (fun i => (i.zero, i.size, i.bytes)) = some (some z, k, bytes)) (hzs : z.cells.size = k) (hk : 0 < k) (s x : Operand)
  (ho : o.op = .call { callee := .builtin .append, args := #[s, x], argTypes := #[t, t] }) (hgd : Region.wanted o (yielded ops a.tmps) = true)
  (W w : World) (v : Value) (n : Nat) (cs : List Value) (g m d : Nat) (ds : List Value) (hs : a.eval s = v) (hx : a.eval x = .slice (some ⟨g, 0, none⟩) m d) (hown : OwnC e k W w v n cs) (hsrc : IsC k w (some ⟨g, 0, none⟩) m ds) (hm : 0 < m) (h1 : ∀ u ∈ ds, u.oneCell' = true) (hle : n + m ≤ maxLen) (hby : (n + m) * bytes ≤ 140737488355328)
  (h : ∀ a' c' w', OwnC e k W w' (.slice a' (n + m) c') (n + m) (cs ++ ds) → w.grownBy w' v.ownBlock → K (a.put o.dst (.slice a' (n + m) c')) w') : if Region.wanted o (yielded ops a.tmps) = true then Oper.wp P o a w K Q else E := by
 obtain ⟨i, hi, hz, hs1, hb1⟩ := info_parts hI
 rw [if_pos hgd]
 have hcells : ∀ j u, ds[j]? = some u → w.cell? ((⟨g, 0, none⟩ : Addr).add j) = some u := by
  intro j u hj
  rcases hsrc.2 with h0 | ⟨y, e, hc⟩
  ·omega
  ·obtain rfl := Option.some.inj e
   exact hc j u hj
 refine wp_append_own (P := P) w s x t ho W.heap.size e i _ k bytes hP hi hz hs1 hb1 hzs hk v n _ hs hown.1 ⟨g, 0, none⟩ m d ds hx hsrc.1 hcells h1 hle hby hown.2.size ?_
 intro v' w' h2 h3 _
 have hnew : OwnC e k W w' v' (n + m) (cs ++ ds) := ⟨h2, hown.2.grown h3 hown.2.size (fun k hk => (hown.1.lt k hk).1)⟩
 obtain ⟨a', c', rfl, -⟩ := hnew.lit
 exact h a' c' w' hnew h3
end
section
open Go.RowKit Go.Lib
theorem encM_one (m : Mn) (ha : ∃ a n c, m.2.1 = .slice a n c) (hb : ∃ a n c, m.2.2 = .slice a n c) : ∀ x ∈ encM m, x.oneCell' = true := by
 obtain ⟨a, n, c, ha⟩ := ha
 obtain ⟨b, k, d, hb⟩ := hb
 intro x hx
 unfold encM at hx
 rw [ha, hb] at hx
 simp at hx
 rcases hx with rfl | rfl | rfl | rfl | rfl | rfl | rfl | rfl <;> rfl
section
variable {W w : World} {R : Nat} {la : Option Addr} {lc : Nat} {i l o : Value} {L : List Tok} {r : Rd}
end
end
section
open Go.Lib
def cnt (L : List Tok) (r : Rd) : Nat := r.all.length + 2 * (L.length - r.pos)
theorem cnt_skip {L : List Tok} {r : Rd} (h : r.pos < L.length) : cnt L r.skip + 2 = cnt L r := by
 show r.all.length + 2 * (L.length - (r.pos + 1)) + 2 = r.all.length + 2 * (L.length - r.pos)
 omega
theorem cnt_node (L : List Tok) (r : Rd) (n : Nd) : cnt L (r.node n).2 = cnt L r + 1 := by
 show (r.all ++ [n]).length + _ = _
 rw [List.length_append]
 show r.all.length + 1 + 2 * (L.length - r.pos) = r.all.length + 2 * (L.length - r.pos) + 1
 omega
theorem cnt_skip_le (L : List Tok) (r : Rd) : cnt L r.skip ≤ cnt L r := by
 show r.all.length + 2 * (L.length - (r.pos + 1)) ≤ r.all.length + 2 * (L.length - r.pos)
 omega
theorem cnt_want (L : List Tok) (r : Rd) (k : Int) (x : List UInt8) : cnt L (r.want L k x) ≤ cnt L r := by
 unfold Rd.want
 split
 ·exact cnt_skip_le L r
 ·exact Nat.le_refl _
theorem cnt_name (L : List Tok) (r : Rd) : cnt L (r.nameT L).2 ≤ cnt L r := by
 unfold Rd.nameT
 split
 ·exact Nat.le_refl _
 ·split
  ·exact Nat.le_refl _
  ·split
   ·exact cnt_skip_le L r
   ·exact Nat.le_refl _
theorem cnt_powE (L : List Tok) (r : Rd) (a fac : Int) : cnt L (r.powE L a fac).2 ≤ cnt L r := by
 unfold Rd.powE
 split
 ·exact Nat.le_refl _
 ·split
  ·exact Nat.le_refl _
  ·rename_i t ht
   have hp := (List.getElem?_eq_some_iff.1 ht).1
   split
   ·exact Nat.le_refl _
   ·split
    ·exact Nat.le_refl _
    ·rw [cnt_node]
     have := cnt_skip (r := r) hp
     omega
theorem cnt_powT (L : List Tok) (r : Rd) (a : Int) : cnt L (r.powT L a).2 ≤ cnt L r := by
 unfold Rd.powT
 split
 ·split
  ·exact Nat.le_trans (cnt_powE L _ _ _) (Nat.le_trans (cnt_skip_le _ _) (cnt_skip_le _ _))
  ·exact Nat.le_trans (cnt_powE L _ _ _) (cnt_skip_le _ _)
 ·exact Nat.le_refl _
theorem cnt_leaf (num : ByteArray → Bool × Nat × Nat) (L : List Tok) (r : Rd) : cnt L (r.leaf num L).2 ≤ cnt L r + 1 := by
 have h1 := cnt_name L r
 have h2 := cnt_skip_le L r
 unfold Rd.leaf
 split
 ·split
  ·rw [cnt_node]; omega
  ·rw [cnt_node]; omega
 ·rw [cnt_node]; omega
def extraN (m : Nat) : Nat := if m = 1 ∨ m = 3 then 0 else 1
theorem extra_more (m : Nat) : extraN (m + 6) = 1 := by unfold extraN; rw [if_neg (by omega)]
theorem cnt_expr (num : ByteArray → Bool × Nat × Nat) (L : List Tok) : ∀ (f m : Nat) (a : Int) (r : Rd), cnt L (exprF num L f m a r).2 ≤ cnt L r + extraN m := by
 intro f
 induction f with
 | zero => intro m a r; unfold exprF; exact Nat.le_add_right _ _
 | succ f ih =>
  have e0 : extraN 0 = 1 := rfl
  have e1 : extraN 1 = 0 := rfl
  have e2 : extraN 2 = 1 := rfl
  have e3 : extraN 3 = 0 := rfl
  have e4 : extraN 4 = 1 := rfl
  have e5 : extraN 5 = 1 := rfl
  have e6 : extraN 6 = 1 := rfl
  intro m a r
  match m with
  | 0 =>
   unfold exprF
   have h1 := ih 2 0 r
   have h2 := ih 1 (exprF num L f 2 0 r).1 (exprF num L f 2 0 r).2
   omega
  | 1 =>
   unfold exprF
   split
   ·rename_i h
    have hs : r.pos < L.length := by
     rcases Bool.or_eq_true_iff.1 h with h | h <;> exact (r.is_in h).2
    have h1 := ih 2 0 r.skip
    have h2 := ih 1 ((exprF num L f 2 0 r.skip).2.node ⟨if r.is L 2 [45] = true then 3 else 2, a, (exprF num L f 2 0 r.skip).1, 0, noText, (false, 0, 0)⟩).1 ((exprF num L f 2 0 r.skip).2.node ⟨if r.is L 2 [45] = true then 3 else 2, a, (exprF num L f 2 0 r.skip).1, 0, noText, (false, 0, 0)⟩).2
    rw [cnt_node] at h2
    have h3 := cnt_skip hs
    omega
   ·exact Nat.le_add_right _ _
  | 2 =>
   unfold exprF
   have h1 := ih 4 0 r
   have h2 := ih 3 (exprF num L f 4 0 r).1 (exprF num L f 4 0 r).2
   omega
  | 3 =>
   unfold exprF
   split
   ·rename_i h
    have hs : r.pos < L.length := by
     rcases Bool.or_eq_true_iff.1 h with h | h <;> exact (r.is_in h).2
    have h1 := ih 4 0 r.skip
    have h2 := ih 3 ((exprF num L f 4 0 r.skip).2.node ⟨if r.is L 2 [47] = true then 5 else 4, a, (exprF num L f 4 0 r.skip).1, 0, noText, (false, 0, 0)⟩).1 ((exprF num L f 4 0 r.skip).2.node ⟨if r.is L 2 [47] = true then 5 else 4, a, (exprF num L f 4 0 r.skip).1, 0, noText, (false, 0, 0)⟩).2
    rw [cnt_node] at h2
    have h3 := cnt_skip hs
    omega
   ·exact Nat.le_add_right _ _
  | 4 =>
   unfold exprF
   split
   ·rename_i h
    have h1 := ih 4 0 r.skip
    have h3 := cnt_skip (r.is_in h).2
    rw [cnt_node]
    omega
   ·have h1 := ih 5 0 r
    omega
  | 5 =>
   unfold exprF
   have h1 := ih 6 0 r
   have h2 := cnt_powT L (exprF num L f 6 0 r).2 (exprF num L f 6 0 r).1
   omega
  | m + 6 =>
   unfold exprF
   rw [extra_more]
   split
   ·rename_i h
    have h1 := ih 0 0 r.skip
    have h3 := cnt_skip (r.is_in h).2
    have h4 := cnt_want L (exprF num L f 0 0 r.skip).2 2 [41]
    show cnt L ((exprF num L f 0 0 r.skip).2.want L 2 [41]) ≤ _
    omega
   ·exact cnt_leaf num L r
theorem cnt_exprI (num : ByteArray → Bool × Nat × Nat) (L : List Tok) (m : Nat) (a : Int) (r : Rd) : cnt L (exprI num L m a r).2 ≤ cnt L r + extraN m := cnt_expr num L _ m a r
end
section
open Go.RowKit
theorem val_int {k : IntKind} {a b : Int} (h : a = b) : Value.int k a = .int k b := by rw [h]
theorem ret_ib {k : IntKind} {a b : Int} {r : Bool} (h : a = b) : Ending.returned (.tuple #[.int k a, .bool r]) = .returned (.tuple #[.int k b, .bool r]) := by rw [h]
theorem IsWords.low {w : World} {a : Option Addr} {n c : Nat} {zs : List Int} (h : IsWords w (.slice a n c) zs) (hz : Wd zs) : lowN zs n = nl (val zs) ∧ zs.take (nl (val zs)) = natOf (val zs) ∧ nl (val zs) ≤ n := by
 have hl := h.len
 refine ⟨by rw [nl_val zs hz, hl], (natOf_take zs hz).symm, by rw [← hl]; exact nl_val_le zs hz⟩
theorem nat_right' (a : Option Addr) (n c : Nat) (zs : List Int) (w : World) (h : IsWords w (.slice a n c) zs) (hz : Wd zs) :
  Calls Tryz.prog 114 #[.slice a n c] w fun e w' => e = .returned (.slice a (nl (val zs)) c) ∧ w = w' :=
 nat_right a n c zs w h _ (h.low hz).1
theorem IsWords.right {w : World} {a : Option Addr} {n c : Nat} {zs : List Int} (h : IsWords w (.slice a n c) zs) (hz : Wd zs) : IsWords w (.slice a (nl (val zs)) c) (natOf (val zs)) := by
 have hl := h.low hz
 rw [← hl.2.1]; exact h.take _ hl.2.2
theorem Own.right {W w : World} {a : Option Addr} {n c : Nat} {zs : List Int} (h : Own W w (.slice a n c) n zs) (hz : Wd zs) : Own W w (.slice a (nl (val zs)) c) (nl (val zs)) (natOf (val zs)) := by
 have hl := h.words.low hz
 rw [← hl.2.1]; exact h.take _ hl.2.2
def Ans (W : World) (N : Nat) (e : Ending) (w' : World) : Prop := ∃ a c, e = .returned (.slice a (nl N) c) ∧ Own W w' (.slice a (nl N) c) (nl N) (natOf N)
theorem nat_trim (a : Option Addr) (n c : Nat) (zs : List Int) (w : World) (h : IsWords w (.slice a n c) zs) (hz : Wd zs) (hn : n ≤ 35184372088832) :
  Calls Tryz.prog 141 #[.slice a n c] w (Ans w (val zs)) := by
 have R := nat_right' a n c zs w h hz
 have S := h.right hz
 have hL := (h.low hz).2.2
 have hS : (natOf (val zs)).length = nl (val zs) := rfl
 clear h hz
 have HS : Hid ((natOf (val zs)).length = nl (val zs)) := hS
 unfold Ans
 generalize nl (val zs) = L at R S hL HS
 generalize natOf (val zs) = ys at S HS
 clear hS
 go_enter Tryz.func141, Tryz.ntmps141
 go_wp2_with (first
  | (go_at_call 114; with_reducible refine Calls.mono R ?_; rintro e w1 ⟨rfl, rfl⟩)
  | (at_make; refine wpl_make_words (.tmp 7) rfl rfl w w L L rfl rfl (by omega) (Below.refl _ _) ?_; intro g w1 hg o1)
  | (with_reducible show wpList _ _ _ (Oper.mk _ (Op.call { callee := Callee.builtin Builtin.copy, args := _, argTypes := _ }) _ _ _ _ :: _) _ _; refine wpl_copy_words (.tmp 9) (.tmp 10) rfl rfl w w1 g L L L _ (List.replicate L 0) ys o1 (S.below o1.below) rfl rfl HS.out (Nat.le_refl _) ?_; intro w2 o2))
 go_ret
 refine ⟨_, _, rfl, ?_⟩
 simpa using o2
theorem nat_of (n : Int) (w : World) (h0 : 0 ≤ n) (h1 : n < 18446744073709551616) :
  Calls Tryz.prog 86 #[.int .u64 n] w (Ans w n.toNat) := by
 have hw : Wd [n % 4294967296, n / 4294967296] := wd_cons' (by omega) (by omega) (wd_one (by omega) (by omega))
 have hv : val [n % 4294967296, n / 4294967296] = n.toNat := by simp only [val]; omega
 have O := own_lit w w [n % 4294967296, n / 4294967296] 2 (Below.refl _ _) rfl (by decide)
 have R := nat_right' _ _ _ _ _ O.words hw
 have P := O.right hw
 rw [hv] at R P
 clear O hw hv
 have e : Hid (n / 4294967296 % 4294967296 = n / 4294967296) := (by omega : n / 4294967296 % 4294967296 = n / 4294967296)
 simp only [List.map_cons, List.map_nil] at R P
 go_enter Tryz.func86, Tryz.ntmps86
 go_wp2_with (first
  | (go_at_call 114; with_reducible refine Calls.mono R ?_; rintro e w1 ⟨rfl, rfl⟩))
 go_ret
 exact ⟨_, _, rfl, P⟩
theorem nat_bits (a : Option Addr) (n c : Nat) (zs : List Int) (w : World) (h : IsWords w (.slice a n c) zs) (hz : Wd zs) (hn : n ≤ 35184372088832) :
  Calls Tryz.prog 137 #[.slice a n c] w fun e w' => e = .returned (.int .i64 (nbits (val zs))) ∧ w = w' := by
 have R := nat_right' a n c zs w h hz
 have hl := h.low hz
 have hL := hl.2.2
 by_cases h0 : nl (val zs) = 0
 ·have e : Hid (nbits (val zs) = 0) := by
   have : val zs = 0 := by have := val_natOf (val zs); rw [List.eq_nil_of_length_eq_zero h0] at this; exact this.symm
   show _ = _
   rw [this, nbits_zero]
  rw [h0] at R
  clear h hz hl hL h0
  go_enter Tryz.func137, Tryz.ntmps137
  go_wp2_with (first
   | (go_at_call 114; with_reducible refine Calls.mono R ?_; rintro e w1 ⟨rfl, rfl⟩))
  go_ret
  exact ⟨ret_int (by rw [e.out]; rfl), rfl⟩
 ·obtain ⟨k, hk⟩ : ∃ k, nl (val zs) = k + 1 := ⟨nl (val zs) - 1, by omega⟩
  have e : Hid (nbits (val zs) = 32 * k + nbits (zs.getD k 0).toNat) := nbits_top zs hz k (by rw [h.len, hl.1, hk])
  rcases h.reads.1.2 with h0 | ⟨b, off, rfl, hc⟩
  ·omega
  have hck := hc k (by omega)
  have hb := wd_getD hz k
  have hkn : (k : Int) + 1 ≤ n := by omega
  rw [hk] at R
  clear h hz hl hL h0 hc hk
  generalize zs.getD k 0 = z at hck hb e
  obtain ⟨z0, z1⟩ := hb
  have B := fun v => limb_bits z v z0 z1
  have hbl : Lib.bitLen z.toNat ≤ 32 := Lib.bitLen_le _ 32 (by omega) (by omega)
  have e2 : Hid (Lib.bitLen z.toNat = nbits z.toNat) := nbits_bitLen _ (by omega)
  go_enter Tryz.func137, Tryz.ntmps137
  go_wp2_with (first
   | (go_at_call 114; with_reducible refine Calls.mono R ?_; rintro e w1 ⟨rfl, rfl⟩)
   | (go_at_call 169; with_reducible refine Calls.mono (B _) ?_; rintro e w1 ⟨rfl, rfl⟩))
  go_ret
  exact ⟨ret_int (by rw [e.out, ← e2.out]; omega), rfl⟩
end
section
open Go.RowKit
theorem sgn_val {a b : List Int} (ha : Wd a) (hb : Wd b) (m : Nat) (hd : val (a.drop (m + 1)) = val (b.drop (m + 1))) (hne : a.getD m 0 ≠ b.getD m 0) : sgn (a.getD m 0) (b.getD m 0) = sgn (val a) (val b) := by
 rcases Int.lt_or_gt_of_ne hne with h | h
 ·have := val_decides a b ha m hd h
  rw [sgn_lt h, sgn_lt (by omega)]
 ·have := val_decides b a hb m hd.symm h
  rw [sgn_gt h, sgn_gt (by omega)]
theorem quiet_more {f : FuncId} {args : Array Value} {w : World} {a n : Nat} {v : Value} (h : Calls Tryz.prog f args (w.drewN (a + n)) fun e w' => e = .returned v ∧ w.drewN (a + n) = w') :
  Calls Tryz.prog f args (w.drewN (a + n)) fun e w' => e = .returned v ∧ ∃ m, w' = w.drewN (a + m) :=
 h.mono fun _ _ k => ⟨k.1, n, k.2.symm⟩
theorem sgn_len (A B : Nat) (h : nl A ≠ nl B) : sgn (nl A) (nl B) = sgn A B := by
 rcases Nat.lt_or_gt_of_ne h with h | h
 ·have := lt_of_nl h
  rw [sgn_lt (by omega), sgn_lt (by omega)]
 ·have := lt_of_nl h
  rw [sgn_gt (by omega), sgn_gt (by omega)]
theorem nat_cmp (a : Option Addr) (n c : Nat) (zs : List Int) (b : Option Addr) (m d : Nat) (ys : List Int) (w : World) (h : IsWords w (.slice a n c) zs) (hz : Wd zs) (g : IsWords w (.slice b m d) ys) (gz : Wd ys) :
  Calls Tryz.prog 85 #[.slice a n c, .slice b m d] w fun e w' => e = .returned (.int .i64 (sgn (val zs) (val ys))) ∧ Below w.heap.size w w' := by
 have R1 := nat_right' a n c zs w h hz
 have R2 := nat_right' b m d ys w g gz
 by_cases hl : nl (val zs) = nl (val ys)
 ·have hn := h.reads.2
  have hr1 := (h.right hz).reads.1
  have hr2 := (g.right gz).reads.1
  have hLn := (h.low hz).2.2
  have w1 := wd_natOf (val zs)
  have w2 := wd_natOf (val ys)
  have V1 : Hid (val (natOf (val zs)) = val zs) := val_natOf _
  have V2 : Hid (val (natOf (val ys)) = val ys) := val_natOf _
  rw [← hl] at R2 hr2
  generalize nl (val zs) = L at R1 R2 hr1 hr2 hLn hl
  generalize natOf (val zs) = ps at hr1 w1 V1
  generalize natOf (val ys) = qs at hr2 w2 V2
  clear h g hz gz hl
  go_enter Tryz.func85, Tryz.ntmps85
  go_wp2_with (first
   | (go_at_call 114; with_reducible refine Calls.mono R1 ?_; rintro e w1 ⟨rfl, rfl⟩)
   | (go_at_call 114; with_reducible refine Calls.mono R2 ?_; rintro e w1 ⟨rfl, rfl⟩))
  clear R1 R2
  go_loopw [23] (fun i v => ∃ k : Nat, k ≤ L ∧ i = .int .i64 k ∧ Below w.heap.size w v ∧ val (ps.drop (L - k)) = val (qs.drop (L - k))) (fun i _ => L - (intOf i).toNat)
  case atStart => exact ⟨0, by omega, rfl, Below.refl _ _, by rw [List.drop_of_length_le (by rw [hr1.1]; omega), List.drop_of_length_le (by rw [hr2.1]; omega)]⟩
  case round =>
   obtain ⟨k, hk, rfl, hb, hd⟩ := hrel
   have HD : Hid (val (ps.drop (L - k)) = val (qs.drop (L - k))) := hd
   clear hd
   by_cases hlt : k < L
   ·rcases hr1.2 with h0 | ⟨b1, o1, rfl, hc1⟩
    ·omega
    rcases hr2.2 with h0 | ⟨b2, o2, rfl, hc2⟩
    ·omega
    obtain ⟨t, ht⟩ : ∃ t, t + 1 = L - k := ⟨L - k - 1, by omega⟩
    have h1 := hc1 t (by omega)
    have h2 := hc2 t (by omega)
    rw [← hb.cell (p := ⟨b1, o1 + t, none⟩) (World.block_lt_of_cell? w _ h1)] at h1
    rw [← hb.cell (p := ⟨b2, o2 + t, none⟩) (World.block_lt_of_cell? w _ h2)] at h2
    have e1 : (L : Int) - 1 - k = t := by omega
    have D1 : Hid (val (ps.drop t) = (ps.getD t 0).toNat + 4294967296 * val (ps.drop (t + 1))) := val_drop ps t
    have D2 : Hid (val (qs.drop t) = (qs.getD t 0).toNat + 4294967296 * val (qs.drop (t + 1))) := val_drop qs t
    have HD' : Hid (val (ps.drop (t + 1)) = val (qs.drop (t + 1))) := by rw [ht]; exact HD.out
    have HS : ps.getD t 0 ≠ qs.getD t 0 → Hid (sgn (ps.getD t 0) (qs.getD t 0) = sgn (val zs) (val ys)) := fun hne => by
     show _ = _
     rw [sgn_val w1 w2 t HD'.out hne, V1.out, V2.out]
    clear hc1 hc2 hr1 hr2 w1 w2
    generalize ps.getD t 0 = x at h1 D1 HS
    generalize qs.getD t 0 = y at h2 D2 HS
    by_cases hxy : x = y
    ·subst hxy
     clear HS
     go_wp2
     go_quiet (fail)
     go_wp2
     go_roundw
     case rel => exact ⟨k + 1, by omega, by go_num, below_drewN hb _, by rw [show L - (k + 1) = t by omega, D1.out, D2.out, HD'.out]⟩
     case measure => simp [intOf]; omega
    ·have HS' := HS hxy
     have hne : (x == y) = false := by simpa using hxy
     clear HS
     go_wp2
     go_quiet (fail)
     go_wp2
     go_quiet ((go_at_call 116; exact quiet_more (compare_u32 _ _ _)))
     go_wp2
     go_ret
     exact ⟨ret_int HS'.out, below_drewN (below_drewN hb _) _⟩
   ·have HE : Hid (sgn (val zs) (val ys) = 0) := by
     have h0 := HD.out
     rw [show L - k = 0 by omega, List.drop_zero, List.drop_zero, V1.out, V2.out] at h0
     exact sgn_eq (by omega)
    clear hr1 hr2 w1 w2
    go_wp2
    go_ret
    exact ⟨ret_int HE.out.symm, hb⟩
 ·have E := sgn_len _ _ hl
  have hn := (h.low hz).2.2
  have gn := (g.low gz).2.2
  have hn' := h.reads.2
  have gn' := g.reads.2
  have C := fun v => compare_int (nl (val zs)) (nl (val ys)) v
  rw [E] at C
  clear h g hz gz E
  generalize nl (val zs) = L at *
  generalize nl (val ys) = M at *
  go_enter Tryz.func85, Tryz.ntmps85
  go_wp2_with (first
   | (go_at_call 114; with_reducible refine Calls.mono R1 ?_; rintro e w1 ⟨rfl, rfl⟩)
   | (go_at_call 114; with_reducible refine Calls.mono R2 ?_; rintro e w1 ⟨rfl, rfl⟩)
   | (go_at_call 115; with_reducible refine Calls.mono (C _) ?_; rintro e w1 ⟨rfl, rfl⟩))
  go_ret
  exact ⟨rfl, Below.refl _ _⟩
end
section
open Go.RowKit
attribute [local go_sem ↓] Go.wp_at_zero Go.wp_at_succ
theorem sub_last {ps qs ss : List Int} {k r : Nat} (hs : Wd ss) (hls : ss.length = ps.length) (hle : val qs ≤ val ps) (hl : qs.length ≤ ps.length) (hi : val ss + val (qs.take k) = val ps + r * 4294967296 ^ k) (hk : k = ps.length ∨ qs.length ≤ k ∧ r = 0) : val ss = val ps - val qs := by
 have e : qs.take k = qs := List.take_of_length_le (by omega)
 rw [e] at hi
 rcases hk with rfl | ⟨-, rfl⟩
 ·have h1 := val_lt ss hs
  rw [hls] at h1
  rcases Nat.eq_zero_or_pos r with rfl | hc
  ·omega
  ·have h3 : 1 * 4294967296 ^ ps.length ≤ r * 4294967296 ^ ps.length := Nat.mul_le_mul_right _ hc
   omega
 ·omega
def AnsOk (W : World) (N : Nat) (e : Ending) (w' : World) : Prop := ∃ a c, e = .returned (.tuple #[.slice a (nl N) c, .bool true]) ∧ Own W w' (.slice a (nl N) c) (nl N) (natOf N)
theorem nat_sub (a : Option Addr) (n c : Nat) (zs : List Int) (b : Option Addr) (m d : Nat) (ys : List Int) (w : World) (h : IsWords w (.slice a n c) zs) (hz : Wd zs) (g : IsWords w (.slice b m d) ys) (gz : Wd ys)
  (hn : n ≤ 1000000000000) (hge : val ys ≤ val zs) :
  Calls Tryz.prog 235 #[.slice a n c, .slice b m d] w (AnsOk w (val zs - val ys)) := by
 have R1 := nat_right' a n c zs w h hz
 have R2 := nat_right' b m d ys w g gz
 have P := h.right hz
 have Q := g.right gz
 have wP := wd_natOf (val zs)
 have wQ := wd_natOf (val ys)
 have b1 := (h.low hz).2.2
 have C := nat_cmp _ _ _ _ _ _ _ _ w P wP Q wQ
 rw [val_natOf, val_natOf] at C
 have hs : 0 ≤ sgn (val zs) (val ys) := by
  rcases Nat.lt_or_ge (val ys) (val zs) with h | h
  ·rw [sgn_gt (by omega)]; omega
  ·rw [sgn_eq (by omega)]; omega
 have lP : Hid ((natOf (val zs)).length = nl (val zs)) := rfl
 have lQ : Hid ((natOf (val ys)).length = nl (val ys)) := rfl
 have hle := nl_mono hge
 have HG : Hid (val (natOf (val ys)) ≤ val (natOf (val zs))) := by show _ ≤ _; rw [val_natOf, val_natOf]; exact hge
 have HV : Hid (val (natOf (val zs)) - val (natOf (val ys)) = val zs - val ys) := by show _ = _; rw [val_natOf, val_natOf]
 clear h g hz gz hge
 generalize val zs - val ys = S at HV ⊢
 generalize sgn (val zs) (val ys) = sg at C hs
 generalize nl (val zs) = LP at R1 P b1 lP C hle
 generalize nl (val ys) = LQ at R2 Q lQ C hle
 generalize natOf (val zs) = ps at P wP lP HV HG
 generalize natOf (val ys) = qs at Q wQ lQ HV HG
 have hLP : LP ≤ 1000000000000 := by omega
 go_enter Tryz.func235, Tryz.ntmps235
 go_wp2_with (first
  | (go_at_call 114; with_reducible refine Calls.mono R1 ?_; rintro e w1 ⟨rfl, rfl⟩)
  | (go_at_call 114; with_reducible refine Calls.mono R2 ?_; rintro e w1 ⟨rfl, rfl⟩)
  | (go_at_call 85; with_reducible refine Calls.mono C ?_; rintro e wC ⟨rfl, bC⟩)
  | (at_make; refine wpl_make_words (.tmp 18) rfl rfl w wC LP _ rfl rfl (by omega) bC ?_; intro g w1 hg o1)
  | (with_reducible show wpList _ _ _ (Oper.mk _ (Op.call { callee := Callee.builtin Builtin.copy, args := _, argTypes := _ }) _ _ _ _ :: _) _ _; refine wpl_copy_words (.tmp 20) (.tmp 21) rfl rfl w w1 g LP LP LP _ (List.replicate LP 0) ps o1 (P.below o1.below) rfl rfl lP.out (by omega) ?_; intro w2 o2))
 clear R1 R2 C bC
 go_loopw [7, 25] (fun cr i v => ∃ (k cy : Nat) (ss : List Int), k ≤ LP ∧ i = .int .i64 k ∧ cr = .int .u32 cy ∧ cy ≤ 1 ∧ Own w v (.slice (some ⟨g, 0, none⟩) LP LP) LP ss ∧ Wd ss ∧ val ss + val (qs.take k) = val ps + cy * 4294967296 ^ k) (fun _ i _ => LP - (intOf i).toNat)
 case atStart =>
  refine ⟨0, 0, _, by omega, rfl, rfl, by omega, o2, ?_, ?_⟩
  ·rw [List.drop_replicate]; exact wd_append wP (wd_zeros _)
  ·rw [List.drop_replicate, val_append_zeros]; simp [val]
 case round =>
  obtain ⟨k, cy, ss, hk, rfl, rfl, hcy, o, wS, hI⟩ := hrel
  have HI : Hid (val ss + val (qs.take k) = val ps + cy * 4294967296 ^ k) := hI
  clear hI o1 o2
  by_cases hdone : k = LP ∨ LQ ≤ k ∧ cy = 0
  ·have HS : val ss = S := by
    have e1 := lP.out
    have e2 := lQ.out
    have e3 := o.length
    rw [sub_last wS (by omega) HG.out (by omega) HI.out (by omega), HV.out]
   have R3 := nat_right' _ _ _ ss wr o.words wS
   have OR := o.right wS
   rw [HS] at R3 OR
   clear HS HI P Q wP wQ lP lQ o wS HV HG
   by_cases hkM : k < LP
   ·have h1 : LQ ≤ k := by omega
    have h2 : cy = 0 := by omega
    subst h2
    clear hdone
    go_wp2_with (first
     | (go_at_call 114; with_reducible refine Calls.mono R3 ?_; rintro e w1 ⟨rfl, rfl⟩))
    go_ret2
    exact ⟨_, _, rfl, OR⟩
   ·clear hdone
    go_wp2_with (first
     | (go_at_call 114; with_reducible refine Calls.mono R3 ?_; rintro e w1 ⟨rfl, rfl⟩))
    go_ret2
    exact ⟨_, _, rfl, OR⟩
  ·have EQ : Hid (val (qs.take (k + 1)) = val (qs.take k) + (qs.getD k 0).toNat * 4294967296 ^ k) := val_take_succ qs k
   have W1 := fun v hb z hz => nat_word _ _ _ _ v (Q.below hb) k (by omega) z hz
   obtain ⟨z0, z1⟩ := wd_getD wQ k
   have hkM : k < LP := by omega
   obtain ⟨hc, hf, hg1, hg2⟩ := o.cell k hkM
   have hss := o.length
   have ES := fun y => val_set ss k y (by omega)
   obtain ⟨x0, x1⟩ := wd_getD wS k
   generalize hqz : qs.getD k 0 = z at EQ z0 z1
   have HZ : Hid (qs.getD k 0 = z) := hqz
   clear hqz
   generalize ss.getD k 0 = x at hc ES x0 x1
   have od := o.drew
   have WC := W1 wr.drew od.below z HZ.out
   have AC := limb_sub x z cy wr.drew x0 x1 z0 z1 (by omega) (by omega)
   have HY : Hid (((x - z - cy) % 4294967296).toNat + z.toNat + cy = x.toNat + 4294967296 * (-((x - z - cy) / 4294967296)).toNat ∧ 0 ≤ -((x - z - cy) / 4294967296) ∧ -((x - z - cy) / 4294967296) ≤ 1 ∧ 0 ≤ (x - z - cy) % 4294967296 ∧ (x - z - cy) % 4294967296 < 4294967296) := ⟨by omega, by omega, by omega, by omega, by omega⟩
   generalize (x - z - cy) % 4294967296 = y at AC HY
   generalize -((x - z - cy) / 4294967296) = cq at AC HY
   have HN : Hid (val (ss.set k y) + val (qs.take (k + 1)) = val ps + cq.toNat * 4294967296 ^ (k + 1)) := by
    show _ = _
    rw [EQ.out, Nat.pow_succ]
    exact sub_step (ES y) HI.out HY.out.1
   have WN : Wd (ss.set k y) := wd_set wS k HY.out.2.2.2.1 HY.out.2.2.2.2
   clear W1 hss EQ HI HZ ES P Q wP wQ lP lQ wS HV HG
   by_cases h1 : LQ ≤ k
   case' pos => have h2 : ((cy : Int) == 0) = false := by simp; omega
   all_goals
    clear hdone
    go_wp2
    go_region_with (first
     | (go_at_call 244; with_reducible refine Calls.mono WC ?_; rintro e w3 ⟨rfl, rfl⟩)
     | (go_at_call 227; with_reducible refine Calls.mono AC ?_; rintro e w3 ⟨rfl, b3⟩; have o3 := od.more b3; obtain ⟨hc3, hf3, -, -⟩ := o3.cell k hkM))
    all_goals
     clear WC AC
     go_wp2
     go_roundw
     case rel => exact ⟨k + 1, cq.toNat, ss.set k y, by omega, by go_num, val_int (by have := HY.out.2.1; omega), by have := HY.out.2.2.1; omega, o3.set k y, WN, HN.out⟩
     case measure => simp [intOf]; omega
end
section
open Go.RowKit
theorem right_nat (n : Nat) : lowN (natOf n) (nl n) = nl n := by
 have := nl_val (natOf n) (wd_natOf n)
 rw [val_natOf] at this
 exact this.symm
theorem nat_sub' {a : Option Addr} {n c : Nat} {zs : List Int} {b : Option Addr} {m d : Nat} {ys : List Int} {w : World} (h : IsWords w (.slice a n c) zs) (hz : Wd zs) (g : IsWords w (.slice b m d) ys) (gz : Wd ys)
  (hn : n ≤ 1000000000000) (N : Nat) (hN : N + val ys = val zs) : Calls Tryz.prog 235 #[.slice a n c, .slice b m d] w (AnsOk w N) := by
 rw [show N = val zs - val ys by omega]; exact nat_sub a n c zs b m d ys w h hz g gz hn (by omega)
theorem nat_cmp' {a : Option Addr} {n c : Nat} {zs : List Int} {b : Option Addr} {m d : Nat} {ys : List Int} {w : World} (h : IsWords w (.slice a n c) zs) (hz : Wd zs) (g : IsWords w (.slice b m d) ys) (gz : Wd ys)
  (s : Int) (hs : sgn (val zs) (val ys) = s) : Calls Tryz.prog 85 #[.slice a n c, .slice b m d] w fun e w' => e = .returned (.int .i64 s) ∧ Below w.heap.size w w' := by
 rw [← hs]; exact nat_cmp a n c zs b m d ys w h hz g gz
theorem nl_small {xs : List Int} (h : Wd xs) (n : Nat) (hn : xs.length ≤ n) : nl (val xs) ≤ n := Nat.le_trans (nl_val_le xs h) hn
end
section
open Go.RowKit
theorem words_step {xs ys : List Int} {k : Nat} (h : xs.take k = ys.take k) (he : xs.getD k 0 = ys.getD k 0) (hx : k < xs.length) (hy : k < ys.length) : xs.take (k + 1) = ys.take (k + 1) := by
 rw [List.take_succ_eq_append_getElem hx, List.take_succ_eq_append_getElem hy, h]
 simp [List.getD_eq_getElem?_getD, hx, hy] at he
 rw [he]
/-- Are two lists of words one? -/
theorem ref_words (a : Option Addr) (n c : Nat) (xs : List Int) (b : Option Addr) (m d : Nat) (ys : List Int) (w : World) (h : IsWords w (.slice a n c) xs) (g : IsWords w (.slice b m d) ys) (r : Bool) (hr : decide (xs = ys) = r) :
  Calls Tryz.prog 51 #[.slice a n c, .slice b m d] w fun e w' => e = .returned (.bool r) ∧ Below w.heap.size w w' := by
 obtain ⟨hr1, hn⟩ := h.reads
 obtain ⟨hr2, hm⟩ := g.reads
 clear h g
 by_cases hl : n = m
 ·subst hl
  go_enter Tryz.func51, Tryz.ntmps51
  go_wp2
  go_loopw [5] (fun i v => ∃ k : Nat, k ≤ n ∧ i = .int .i64 k ∧ Below w.heap.size w v ∧ xs.take k = ys.take k) (fun i _ => n - (intOf i).toNat)
  case atStart => exact ⟨0, by omega, rfl, Below.refl _ _, rfl⟩
  case round =>
   obtain ⟨k, hk, rfl, hb, hd⟩ := hrel
   have HD : Hid (xs.take k = ys.take k) := hd
   clear hd
   by_cases hlt : k < n
   ·rcases hr1.2 with h0 | ⟨b1, o1, rfl, hc1⟩
    ·omega
    rcases hr2.2 with h0 | ⟨b2, o2, rfl, hc2⟩
    ·omega
    have h1 := hc1 k hlt
    have h2 := hc2 k hlt
    rw [← hb.cell (p := ⟨b1, o1 + k, none⟩) (World.block_lt_of_cell? w _ h1)] at h1
    rw [← hb.cell (p := ⟨b2, o2 + k, none⟩) (World.block_lt_of_cell? w _ h2)] at h2
    have l1 : Hid (xs.length = n) := hr1.1
    have l2 : Hid (ys.length = n) := hr2.1
    by_cases he : xs.getD k 0 = ys.getD k 0
    ·rw [he] at h1
     have HE : Hid (xs.getD k 0 = ys.getD k 0) := he
     generalize ys.getD k 0 = y at h1 h2
     clear hc1 hc2 hr1 hr2 he
     go_wp2
     go_quiet (fail)
     go_wp2
     go_roundw
     case rel => exact ⟨k + 1, by omega, by go_num, below_drewN hb _, words_step HD.out HE.out (by rw [l1.out]; omega) (by rw [l2.out]; omega)⟩
     case measure => simp [intOf]; omega
    ·have hf : r = false := by
      rw [← hr]
      simp only [decide_eq_false_iff_not]
      intro e; exact he (by rw [e])
     subst hf
     clear hr
     generalize xs.getD k 0 = x at h1 he
     generalize ys.getD k 0 = y at h2 he
     have hne : (x == y) = false := by simpa using he
     clear hc1 hc2 hr1 hr2 he
     go_wp2
     go_quiet (fail)
     go_wp2
     go_ret
     exact ⟨rfl, below_drewN hb _⟩
   ·have ht : r = true := by
     rw [← hr]
     have := HD.out
     rw [List.take_of_length_le (by rw [hr1.1]; omega), List.take_of_length_le (by rw [hr2.1]; omega)] at this
     simpa using this
    subst ht
    clear hr hr1 hr2
    go_wp2
    go_ret
    exact ⟨rfl, hb⟩
 ·have hf : r = false := by
   rw [← hr]
   simp only [decide_eq_false_iff_not]
   intro e; exact hl (by rw [← hr1.1, ← hr2.1, e])
  subst hf
  clear hr hr1 hr2
  go_enter Tryz.func51, Tryz.ntmps51
  go_wp2
  go_ret
  exact ⟨rfl, Below.refl _ _⟩
end
section
open Go.RowKit
theorem times_right0 (a : Option Addr) (n c : Nat) (zs : List Int) (w : World) (h : IsWords w (.slice a n c) zs) (L : Nat) (hL : lowN zs n = L) :
  Calls Tryz.prog 209 #[.slice a n c] w fun e w' => e = .returned (.slice a L c) ∧ w = w' := by
 have hle : L ≤ n := by rw [← hL]; exact lowN_le _ _
 have hcap := h.cap
 have C := limb_low_words a n c zs w h
 rw [hL] at C
 have h1 : (0 : Int) ≤ L := by omega
 have h2 : (L : Int) ≤ c := by omega
 have hs : a = none → L = 0 ∧ c = 0 := by
  rintro rfl
  rcases h with ⟨e, rfl⟩ | ⟨x, cap, e, -⟩
  ·simp only [Value.slice.injEq] at e; omega
  ·simp at e
 clear h hL
 rcases a with _ | x
 ·obtain ⟨rfl, rfl⟩ := hs rfl
  go_enter Tryz.func209, Tryz.ntmps209
  go_wp2_with (go_at_call 142; with_reducible refine Calls.mono C ?_; rintro e w1 ⟨rfl, rfl⟩)
  go_ret
  exact ⟨rfl, rfl⟩
 ·clear hs
  go_enter Tryz.func209, Tryz.ntmps209
  go_wp2_with (go_at_call 142; with_reducible refine Calls.mono C ?_; rintro e w1 ⟨rfl, rfl⟩)
  go_ret
  exact ⟨rfl, rfl⟩
theorem times_right (a : Option Addr) (n c : Nat) (zs : List Int) (w : World) (h : IsWords w (.slice a n c) zs) (hz : Wd zs) :
  Calls Tryz.prog 209 #[.slice a n c] w fun e w' => e = .returned (.slice a (nl (val zs)) c) ∧ w = w' :=
 times_right0 a n c zs w h _ (h.low hz).1
theorem ret_slice {a : Option Addr} {n m : Nat} (h : n = m) : Ending.returned (.slice a n n) = .returned (.slice a m m) := by rw [h]
theorem times_cut (g M t n : Nat) (w : World) (h : t + n + 1 ≤ M) (hM : M ≤ 35184372088832) :
  Calls Tryz.prog 211 #[.slice (some ⟨g, 0, none⟩) M M, .int .i64 t, .int .i64 n] w fun e w' => e = .returned (.slice (some ⟨g, t, none⟩) (n + 1) (n + 1)) ∧ w = w' := by
 have e1 : (t : Int) + n + 1 - t = (n + 1 : Nat) := by omega
 have e2 : ((t : Int) + n + 1 - t).toNat = n + 1 := by omega
 go_enter Tryz.func211, Tryz.ntmps211
 go_wp2
 go_ret
 exact ⟨ret_slice (by omega), rfl⟩
theorem line_step {p q r S S' V A x z s y c c' : Nat} (hp : p = q * r) (hs : S' + s * p = S + y * p) (hi : S + c * p = V + A * x * q) (hy : y + 4294967296 * c' = z * x + s + c) :
  S' + c' * (p * 4294967296) = V + (A + z * r) * x * q := by
 have e : (y + 4294967296 * c') * p = (z * x + s + c) * p := by rw [hy]
 rw [Nat.add_mul, Nat.add_mul, Nat.add_mul] at e
 have e2 : c' * (p * 4294967296) = 4294967296 * c' * p := by rw [Nat.mul_comm p, ← Nat.mul_assoc, Nat.mul_comm c']
 have e3 : (A + z * r) * x * q = A * x * q + z * x * p := by
  rw [Nat.add_mul, Nat.add_mul, hp, Nat.mul_right_comm z r x, Nat.mul_assoc (z * x) r q, Nat.mul_comm r q]
 rw [e2, e3]; omega
theorem line_last {ss : List Int} {k c : Nat} (hk : k < ss.length) (h : val ss + c * 4294967296 ^ k < 4294967296 ^ (k + 1)) : (ss.getD k 0).toNat + c < 4294967296 := by
 have h1 := val_set ss k 0 hk
 have h2 : ((ss.getD k 0).toNat + c) * 4294967296 ^ k < 4294967296 * 4294967296 ^ k := by
  rw [Nat.add_mul, Nat.mul_comm 4294967296, ← Nat.pow_succ]
  simp only [Int.toNat_zero, Nat.zero_mul, Nat.add_zero] at h1
  omega
 exact Nat.lt_of_mul_lt_mul_right h2
theorem times_line (W : World) (g M t n c : Nat) (ss : List Int) (a : Option Addr) (zs : List Int) (x : Int) (w : World) (o : Own W w (.slice (some ⟨g, 0, none⟩) M M) M ss) (wS : Wd ss)
  (h : IsWords W (.slice a n c) zs) (hz : Wd zs) (x0 : 0 ≤ x) (x1 : x < 4294967296) (hM : t + n + 1 ≤ M) (hM2 : M ≤ 35184372088832) (hv : val ss + val zs * x.toNat * 4294967296 ^ t < 4294967296 ^ (t + n + 1)) :
  Calls Tryz.prog 210 #[.slice (some ⟨g, t, none⟩) (n + 1) (n + 1), .slice a n c, .int .u32 x] w fun e w' => e = .returned (.tuple #[]) ∧
   ∃ ss', Own W w' (.slice (some ⟨g, 0, none⟩) M M) M ss' ∧ Wd ss' ∧ val ss' = val ss + val zs * x.toNat * 4294967296 ^ t := by
 have hl : Hid (zs.length = n) := h.len
 have HV : Hid (val ss + val zs * x.toNat * 4294967296 ^ t < 4294967296 ^ (t + n + 1)) := hv
 clear hv
 go_enter Tryz.func210, Tryz.ntmps210
 go_wp2
 go_loopw [6, 11] (fun cr i v => ∃ (k : Nat) (cy : Int) (rs : List Int), k ≤ n ∧ i = .int .i64 k ∧ cr = .int .u32 cy ∧ 0 ≤ cy ∧ cy < 4294967296 ∧ Own W v (.slice (some ⟨g, 0, none⟩) M M) M rs ∧ Wd rs ∧ val rs + cy.toNat * 4294967296 ^ (t + k) = val ss + val (zs.take k) * x.toNat * 4294967296 ^ t) (fun _ i _ => n - (intOf i).toNat)
 case atStart => exact ⟨0, 0, ss, by omega, rfl, rfl, by omega, by omega, o, wS, by simp [val]⟩
 case round =>
  obtain ⟨k, cy, rs, hk, rfl, rfl, c0, c1, o, wR, hI⟩ := hrel
  have HI : Hid (val rs + cy.toNat * 4294967296 ^ (t + k) = val ss + val (zs.take k) * x.toNat * 4294967296 ^ t) := hI
  clear hI
  have hrl := o.length
  by_cases hlt : k < n
  ·have EQ : Hid (val (zs.take (k + 1)) = val (zs.take k) + (zs.getD k 0).toNat * 4294967296 ^ k) := val_take_succ zs k
   obtain ⟨z0, z1⟩ := wd_getD hz k
   rcases (h.below o.below).reads.1.2 with h0 | ⟨b, off, rfl, hcz⟩
   ·omega
   have hck := hcz k hlt
   obtain ⟨hc, hf, hg1, hg2⟩ := o.cell (t + k) (by omega)
   have ES := fun y => val_set rs (t + k) y (by omega)
   obtain ⟨y0, y1⟩ := wd_getD wR (t + k)
   generalize zs.getD k 0 = z at hck EQ z0 z1
   generalize rs.getD (t + k) 0 = s at hc ES y0 y1
   have AC := limb_mul z x s cy wr z0 z1 x0 x1 y0 y1 c0 c1
   have m0 : 0 ≤ z * x := Int.mul_nonneg z0 x0
   have m1 : z * x ≤ 4294967295 * 4294967295 := Int.mul_le_mul (by omega) (by omega) x0 (by omega)
   have m2 : (z * x).toNat = z.toNat * x.toNat := Int.toNat_mul z0 x0
   have HY : Hid (((z * x + s + cy) % 4294967296).toNat + 4294967296 * ((z * x + s + cy) / 4294967296).toNat = z.toNat * x.toNat + s.toNat + cy.toNat ∧ 0 ≤ (z * x + s + cy) / 4294967296 ∧ (z * x + s + cy) / 4294967296 < 4294967296 ∧ 0 ≤ (z * x + s + cy) % 4294967296 ∧ (z * x + s + cy) % 4294967296 < 4294967296) := by
    show _ ∧ _
    rw [← m2]
    generalize z * x = p at m0 m1
    exact ⟨by omega, by omega, by omega, by omega, by omega⟩
   generalize (z * x + s + cy) % 4294967296 = y at AC HY
   generalize (z * x + s + cy) / 4294967296 = cq at AC HY
   have HN : Hid (val (rs.set (t + k) y) + cq.toNat * 4294967296 ^ (t + (k + 1)) = val ss + val (zs.take (k + 1)) * x.toNat * 4294967296 ^ t) := by
    show _ = _
    rw [EQ.out, ← Nat.add_assoc, Nat.pow_succ]
    exact line_step (Nat.pow_add _ _ _) (ES y) HI.out HY.out.1
   have WN : Wd (rs.set (t + k) y) := wd_set wR (t + k) HY.out.2.2.2.1 HY.out.2.2.2.2
   clear EQ HI ES wR hz hcz m0 m1 m2 HV hl h hrl wS
   go_wp2_with (first
    | (go_at_call 226; with_reducible refine Calls.mono AC ?_; rintro e w3 ⟨rfl, b3⟩; have o3 := o.more b3; obtain ⟨hc3, hf3, -, -⟩ := o3.cell (t + k) (by omega)))
   go_roundw
   case rel => exact ⟨k + 1, cq, rs.set (t + k) y, by omega, by go_num, rfl, HY.out.2.1, HY.out.2.2.1, o3.set (t + k) y, WN, HN.out⟩
   case measure => simp [intOf]; omega
  ·obtain ⟨y0, y1⟩ := wd_getD wR (t + n)
   obtain ⟨hc, hf, hg1, hg2⟩ := o.cell (t + n) (by omega)
   have HI' : Hid (val rs + cy.toNat * 4294967296 ^ (t + n) = val ss + val zs * x.toNat * 4294967296 ^ t) := by
    have h1 := HI.out
    have h2 := hl.out
    rw [show k = n by omega, List.take_of_length_le (by omega)] at h1
    exact h1
   have HL := line_last (ss := rs) (k := t + n) (c := cy.toNat) (by omega) (by rw [HI'.out]; exact HV.out)
   have ES := fun y => val_set rs (t + n) y (by omega)
   generalize rs.getD (t + n) 0 = s at hc ES y0 y1 HL
   have HN : Hid (val (rs.set (t + n) (s + cy)) = val ss + val zs * x.toNat * 4294967296 ^ t) := by
    show _ = _
    have h1 := ES (s + cy)
    rw [show (s + cy).toNat = s.toNat + cy.toNat by omega, Nat.add_mul] at h1
    have h2 := HI'.out
    omega
   have WN : Wd (rs.set (t + n) (s + cy)) := wd_set wR (t + n) (by omega) (by omega)
   clear HI HI' ES wR hz HV hl h hrl wS
   go_wp2
   go_end0
   exact ⟨rfl, _, o.set (t + n) _, WN, HN.out⟩
end
section
open Go.RowKit
theorem one_fits {A x c n : Nat} (hA : A < 4294967296 ^ n) (hx : x < 4294967296) (hc : c < 4294967296) : c + A * x < 4294967296 ^ (n + 1) := by
 have h1 : A * x ≤ A * 4294967295 := Nat.mul_le_mul_left _ (by omega)
 have h2 : A * 4294967295 ≤ (4294967296 ^ n - 1) * 4294967295 := Nat.mul_le_mul_right _ (by omega)
 rw [Nat.pow_succ]
 generalize 4294967296 ^ n = p at *
 omega
theorem val_zeros_set (M : Nat) (c : Int) (hM : 0 < M) : val ((List.replicate M 0).set 0 c) = c.toNat := by
 have h := val_set (List.replicate M 0) 0 c (by simpa using hM)
 rw [val_zeros] at h
 have e : (List.replicate M (0 : Int)).getD 0 0 = 0 := by simp [List.getD_eq_getElem?_getD, hM]
 rw [e] at h
 simpa using h
theorem natOf_len (A : Nat) : (natOf A).length = nl A := rfl
theorem times_one (a : Option Addr) (n c : Nat) (zs : List Int) (x y : Int) (w : World) (h : IsWords w (.slice a n c) zs) (hz : Wd zs) (hn : n ≤ 1000000000000) (x0 : 0 ≤ x) (x1 : x < 4294967296) (y0 : 0 ≤ y) (y1 : y < 4294967296) :
  Calls Tryz.prog 221 #[.slice a n c, .int .u32 x, .int .u32 y] w (Ans w (val zs * x.toNat + y.toNat)) := by
 have R1 := times_right a n c zs w h hz
 have S1 := h.right hz
 have b1 := (h.low hz).2.2
 have hv := lt_nl (val zs)
 have wP := wd_natOf (val zs)
 have EV : Hid (val (natOf (val zs)) = val zs) := val_natOf (val zs)
 clear h hz
 generalize val zs = A at *
 generalize nl A = L at R1 S1 b1 hv
 generalize natOf A = ps at S1 wP EV
 have HV : Hid (A < 4294967296 ^ L) := hv
 clear hv
 obtain ⟨M, hM1, hM2⟩ : ∃ M, M ≤ L + 1 ∧ L + 1 ≤ M := ⟨_, Nat.le_refl _, Nat.le_refl _⟩
 have W0 : Wd ((List.replicate M 0).set 0 y) := wd_set (wd_zeros M) 0 y0 y1
 have V0 : Hid (val ((List.replicate M 0).set 0 y) = y.toNat) := val_zeros_set M y (by omega)
 have K := fun g v (o : Own w v (.slice (some ⟨g, 0, none⟩) M M) M ((List.replicate M 0).set 0 y)) => times_line w g M 0 L c _ a ps x v o W0 S1 wP x0 x1 (by omega) (by omega) (by rw [V0.out, EV.out]; simpa using one_fits HV.out (x := x.toNat) (c := y.toNat) (by omega) (by omega))
 have CT := fun g v => times_cut g M 0 L v (by omega) (by omega)
 have RR := fun g v (rs : List Int) (o : Own w v (.slice (some ⟨g, 0, none⟩) M M) M rs) (hr : Wd rs) => times_right _ _ _ rs v o.words hr
 clear S1 W0
 go_enter Tryz.func221, Tryz.ntmps221
 go_wp2_with (first
  | (go_at_call 209; with_reducible refine Calls.mono R1 ?_; rintro e w1 ⟨rfl, rfl⟩)
  | (at_make; refine wpl_make_words (.tmp 12) rfl rfl w w M _ rfl (by omega) (by omega) (Below.refl _ _) ?_; intro g w1 hg o1; obtain ⟨hc1, hf1, -, -⟩ := o1.cell 0 (by omega); have o2 := o1.set 0 y)
  | (go_at_call 211; with_reducible refine Calls.mono (CT _ _) ?_; rintro e w3 ⟨rfl, rfl⟩)
  | (go_at_call 210; (with_reducible refine Calls.mono (K _ _ o2) ?_); rintro e w4 ⟨rfl, rs, o4, h4, E4⟩; have E5 : Hid (val rs = A * x.toNat + y.toNat) := (by show _ = _; rw [E4, V0.out, EV.out]; simp; omega); clear E4)
  | (go_at_call 209; (with_reducible refine Calls.mono (RR _ _ _ o4 h4) ?_); rintro e w5 ⟨rfl, rfl⟩))
 go_ret
 have o6 := o4.right h4
 rw [E5.out] at o6 ⊢
 exact ⟨_, _, rfl, o6⟩
end
end Go.Proofs.YtaeladkcmpdkhaaGreatDoor
