/-
  Texts of mine put together in build order, as far as TreeRights needs them: TreeGood, PgFrame, TreeRefT, TreeRefP, TreeRefR, TreeRefS, TreeWalksC, TreeLawC. No conditions of their own.
-/
import Derived.WalkKit
import Derived.ProofKit
import Derived.Lib.AppendZerosOnto
import Derived.Laws.AppendOwn
import Derived.Laws.AppendOwnNone
import Derived.Test.YtbcfplaalepnbaaGreatDoorRows
import Derived.WalkLawsBesides
import Derived.Deep.QuietTactic
import Derived.BigQuiet
import Derived.Outline
import Derived.Lib.BitFns
import Derived.OpenShut
import Derived.Laws.CopyOwn
import Derived.Lib.DecodeN
import Derived.Deep.LoopGhost
import Derived.Deep.RegionLaw
import Derived.Deep.DrawnRows
import Derived.Deep.RegionWith
import Derived.Deep.RegionHeld3
import Derived.Laws.IdiomStrings
import Derived.Laws.Bits64b
import Derived.RangeFuncNested
import Derived.RangeFuncBound
import Derived.RangeFuncCalls
import Derived.RangeFuncLeaves
import Derived.Shelf.Abstract
import Derived.Shelf.RegionOpen
import Derived.OwnWalkIn
import Derived.TacticsInMore
import Derived.LoopNIn
import Derived.LoopIn
import Derived.Sort.LoopGhostIn
import Derived.Lib.AtoiAll
import Derived.Lib.OthersKept
import Derived.Shelf.Strconv.AtoiAll
import Derived.Shelf.Strconv.ErrVarAll
import Derived.Test.YtbcfplaalepnbaaGreatDoorProg
import Derived.Laws.EntriesVeiled
import Derived.Deep.DeepCutAuto
import Derived.Lib.Bytealg
import Derived.Lib.SmallJoins
import Derived.Lib.Strings
import Derived.Lib.BufferWrite
import Derived.Lib.UnsafeStr
import Derived.Laws.MakeOwn
import Derived.Test.YtbcfplaalepnbaaGreatDoorPack1
import Derived.Test.YtbcfplaalepnbaaGreatDoorPack2
import Derived.Test.YtbcfplaalepnbaaGreatDoorPack3
import Derived.Test.YtbcfplaalepnbaaGreatDoorPack4
import Derived.Test.YtbcfplaalepnbaaGreatDoorPack5
import Derived.Test.YtbcfplaalepnbaaGreatDoorPack6
import Derived.Test.YtbcfplaalepnbaaGreatDoorPack7
import Derived.Test.YtbcfplaalepnbaaGreatDoorPack8
import Derived.Test.YtbcfplaalepnbaaGreatDoorPack9
import Derived.Test.YtbcfplaalepnbaaGreatDoorPackTreeRights1
namespace Go.Proofs.YtbcfplaalepnbaaGreatDoor
open Go.Lib
def Piled (l : List Nd) (s i : Nat) (lo : List Int) : Prop := ∀ P : Nat → List Int → Prop, P s [] → (∀ (b r : Nat) (m : List Int), P b m → Seg l b r → P (r + 1) (m ++ [(r : Int)])) → P i lo
theorem Piled.none {l : List Nd} {s : Nat} : Piled l s s [] := fun _ h _ => h
theorem Piled.more {l : List Nd} {s b r : Nat} {lo : List Int} (h : Piled l s b lo) (hs : Seg l b r) : Piled l s (r + 1) (lo ++ [(r : Int)]) := fun P h0 h1 => h1 b r lo (h P h0 h1) hs
theorem Piled.last {l : List Nd} {s i : Nat} {lo : List Int} {a : Int} (h : Piled l s i (lo ++ [a])) : ∃ b r : Nat, a = (r : Int) ∧ i = r + 1 ∧ Piled l s b lo ∧ Seg l b r := by
  refine (h (fun i L => Piled l s i L ∧ ∀ (lo : List Int) (a : Int), L = lo ++ [a] → ∃ b r : Nat, a = (r : Int) ∧ i = r + 1 ∧ Piled l s b lo ∧ Seg l b r) ⟨Piled.none, fun lo a e => absurd e (by simp)⟩ ?_).2 lo a rfl
  intro b r m hm hs
  refine ⟨hm.1.more hs, fun lo a e => ?_⟩
  obtain ⟨e1, e2⟩ := List.append_inj' e rfl
  simp only [List.cons.injEq, and_true] at e2
  subst e1
  exact ⟨b, r, e2.symm, rfl, hm.1, hs⟩
theorem Piled.start {l : List Nd} {s i : Nat} (h : Piled l s i []) : i = s :=
  h (fun i L => L = [] → i = s) (fun _ => rfl) (fun b r m _ _ e => absurd e (by simp)) rfl
theorem Piled.step {m0 : List Nw} {ms : List Nw} {i : Nat} (hms : ms[i]? = m0[i]?) {s : Nat} {lo lo' : List Int} (h : Piled (m0.map Nw.nd) s i lo) (hs : sgStep ms i lo = some lo') : Piled (m0.map Nw.nd) s (i + 1) lo' := by
  unfold sgStep at hs
  rw [hms] at hs
  cases hm : m0[i]? with
  | none => rw [hm] at hs; exact absurd hs (by simp)
  | some m =>
    rw [hm] at hs
    dsimp only at hs
    split at hs
    · rename_i hc
      obtain ⟨h1, h2, h3⟩ := hc
      injection hs with hs
      have hn : (m0.map Nw.nd)[i]? = some m.nd := by rw [List.getElem?_map, hm]; rfl
      have hlo : lo = lo.take (lo.length - (ptsI m.kind m.a m.b).length) ++ ptsI m.kind m.a m.b := by
        conv => lhs; rw [← List.take_append_drop (lo.length - (ptsI m.kind m.a m.b).length) lo, h3]
      generalize lo.take (lo.length - (ptsI m.kind m.a m.b).length) = lt at *
      subst hs
      rw [hlo] at h
      have hkd := fill_kind h1
      by_cases k0 : m.kind = 0 ∨ m.kind = 1
      · have e : ptsI m.kind m.a m.b = [] := by unfold ptsI; rw [if_pos k0]
        rw [e, List.append_nil] at h
        exact h.more (Seg.leaf hn k0)
      · by_cases k6 : m.kind = 6 ∨ m.kind = 7
        · have e : ptsI m.kind m.a m.b = [m.a] := by unfold ptsI; rw [if_neg k0, if_pos k6]
          rw [e] at h
          obtain ⟨b, r, e1, rfl, p1, p2⟩ := h.last
          exact p1.more (p2.one hn k6 e1)
        · have e : ptsI m.kind m.a m.b = [m.a, m.b] := by unfold ptsI; rw [if_neg k0, if_neg k6]
          rw [e, show lt ++ [m.a, m.b] = lt ++ [m.a] ++ [m.b] by simp] at h
          obtain ⟨b, r, e1, rfl, p1, p2⟩ := h.last
          obtain ⟨b', r', e1', rfl, p1', p2'⟩ := p1.last
          exact p1'.more (p2'.two p2 hn (by show 2 ≤ m.kind; omega) (by show m.kind ≤ 5; omega) e1' e1)
    · exact absurd hs (by simp)
theorem Piled.run {m0 ms : List Nw} {j : Nat} (hms : ∀ p, p < j → ms[p]? = m0[p]?) {s : Nat} : ∀ (f i : Nat) (lo : List Int), Piled (m0.map Nw.nd) s i lo → i ≤ j → j - i < f → sgF ms j f i lo = true → ∃ x, Piled (m0.map Nw.nd) s j [x] := by
  intro f
  induction f with
  | zero => intro i lo _ _ h; omega
  | succ f ih =>
    intro i lo h hij hf hr
    unfold sgF at hr
    split at hr
    · rename_i hlt
      split at hr
      · exact absurd hr (by simp)
      · rename_i lo' hs
        exact ih (i + 1) lo' (h.step (hms i hlt) hs) hlt (by omega) hr
    · obtain rfl : i = j := by omega
      have := decide_eq_true_iff.1 hr
      obtain ⟨x, rfl⟩ := List.length_eq_one_iff.1 this
      exact ⟨x, h⟩
theorem single_seg {m0 : List Nw} {s i : Nat} (hsi : s ≤ i) (h : sgB (m0.take (i + 1)) (i + 1) s = true) : Seg (m0.map Nw.nd) s i := by
  unfold sgB at h
  obtain ⟨x, hx⟩ := Piled.run (m0 := m0) (s := s) (fun p hp => by rw [List.getElem?_take, if_pos hp]) _ s [] Piled.none (by omega) (by omega) h
  obtain ⟨b, r, -, e2, p1, p2⟩ := Piled.last (lo := []) hx
  obtain rfl : i = r := by omega
  rw [← p1.start]
  exact p2
end Go.Proofs.YtbcfplaalepnbaaGreatDoor
namespace Go.Proofs.YtbcfplaalepnbaaGreatDoor
open Go.ChangeShapes Go.WideShapes Go.ChangeAt Go.RowKit Go.Joins Go.Deep
def NdC (w : World) (ms : List Mn) : Prop := ∀ m ∈ ms, (∃ x y, m.2.1 = .slice x m.1.xs.length y ∧ IsWords w (.slice x m.1.xs.length y) m.1.xs) ∧ (∃ x y, m.2.2 = .slice x m.1.ys.length y ∧ IsWords w (.slice x m.1.ys.length y) m.1.ys) ∧ Wd m.1.xs ∧ Wd m.1.ys
structure PgC (w : World) (ia la oa a : Option Addr) (il ln ol n c : Nat) (ins outs : List ByteArray) (ls : List (ByteArray × Int)) (ms : List Mn) : Prop where
  hins : IsS w ia il ins
  hlets : IsLt w la ln ls
  houts : IsS w oa ol outs
  hall : IsN w a n ms
  hnodes : NdC w ms
  lsz : ∀ x ∈ ls, -9223372036854775808 ≤ x.2 ∧ x.2 < 9223372036854775808
  cap : n ≤ c
variable {H : Type} {enc : TypeId × Value → H} {W : World}
theorem wf_cell {a : Int} (h : (Lit.int .i64 a).wf = true) : -9223372036854775808 ≤ a ∧ a < 9223372036854775808 := by
  simp [Lit.wf, IntKind.min, IntKind.max, IntKind.signed, IntKind.bits] at h; omega
theorem lit_addr {w : World} {a : Addr} {v : Value} (h : w.cell? a = some v) : ∃ g o, a = ⟨g, o, none⟩ := by
  obtain ⟨g, o, s⟩ := a
  have := spot_none h
  exact ⟨g, o, by simpa using this⟩
theorem open_names {fuel : Nat} {v : Value} {y : DataW H × List MemPlace} (h : DataW.trod enc Tryz.prog W 0 (fun _ => true) true fuel 23 [v] = some y) :
    ∃ a n c xs, v = .slice a n c ∧ IsS W a n xs := by
  rcases open_strs Tryz.underlying23 Tryz.underlying9 (by kernel_rfl) h with ⟨hcs, -⟩ | ⟨a, len, cap, m, S, hcs, -, hl, -, hm, -, hc⟩
  · exact ⟨none, 0, 0, [], by simpa using hcs, rfl, .inl rfl⟩
  · refine ⟨some a, len, cap, (List.range len).map S, by simpa using hcs, by simp, ?_⟩
    rcases Nat.eq_zero_or_pos len with h0 | hp
    · exact .inl h0
    · have hlm : len ≤ m := by rw [hm]; split <;> omega
      obtain ⟨g, o, rfl⟩ := lit_addr (by have := (hc 0 (by omega)).1; simpa [Addr.add] using this)
      refine .inr ⟨g, o, rfl, fun j x hj => ?_⟩
      have hjl : j < len := by have := (List.getElem?_eq_some_iff.1 hj).1; simpa using this
      have e := (hc j (by omega)).1
      rw [add_lit] at e
      rw [e]
      have : S j = x := by simpa [hjl] using hj
      rw [this]
theorem open_lets {fuel : Nat} {v : Value} {y : DataW H × List MemPlace} (h : DataW.trod enc Tryz.prog W 0 (fun _ => true) true fuel 24 [v] = some y) :
    ∃ a n c xs, v = .slice a n c ∧ IsLt W a n xs ∧ ∀ x ∈ xs, -9223372036854775808 ≤ x.2 ∧ x.2 < 9223372036854775808 := by
  have hk : Tryz.prog.cellsOf 46 = 2 := by kernel_rfl
  rcases open_slice Tryz.underlying24 h with ⟨hcs, -⟩ | ⟨a, len, cap, m, n, D, Pl, hcs, -, hl, -, hm, -, hc⟩
  · exact ⟨none, 0, 0, [], by simpa using hcs, ⟨rfl, .inl rfl⟩, fun x hx => absurd hx (by simp)⟩
  · rw [hk] at hc
    have each : ∀ i, i < m → ∃ x : ByteArray × Int, W.cell? (a.add (i * 2)) = some (.string x.1) ∧ W.cell? (a.add (i * 2 + 1)) = some (.int .i64 x.2) ∧ -9223372036854775808 ≤ x.2 ∧ x.2 < 9223372036854775808 := fun i hi => by
      obtain ⟨cs, h1, h2⟩ := hc i hi
      obtain ⟨-, hlen, hcell⟩ := World.cells?_some h1
      match cs, hlen with
      | [c0, c1], _ =>
        obtain ⟨y0, y1, q, -, -, t0, t1⟩ := trod_struct2 Tryz.underlying46 h2
        obtain ⟨s, e0, -, -⟩ := DataW.trod_string Tryz.underlying9 t0
        obtain ⟨r, e1, -, wf⟩ := DataW.trod_int Tryz.underlying3 t1
        have k0 := hcell 0 (by omega)
        have k1 := hcell 1 (by omega)
        rw [add_add] at k0 k1
        have e0 : c0 = .string s := by simpa [show Tryz.prog.cellsOf 9 = 1 by kernel_rfl] using e0
        have e1 : c1 = .int .i64 r := by simpa [show Tryz.prog.cellsOf 3 = 1 by kernel_rfl] using e1
        exact ⟨(s, r), by rw [← e0]; simpa using k0, by rw [← e1]; simpa using k1, wf_cell wf⟩
    have : Inhabited (ByteArray × Int) := ⟨(⟨#[]⟩, 0)⟩
    obtain ⟨S, hS⟩ := choose_lt each
    have hlm : len ≤ m := by rw [hm]; split <;> omega
    refine ⟨some a, len, cap, (List.range len).map S, by simpa using hcs, ⟨by simp, ?_⟩, fun x hx => ?_⟩
    · rcases Nat.eq_zero_or_pos len with h0 | hp
      · exact .inl h0
      · obtain ⟨g, o, rfl⟩ := lit_addr (by have := (hS 0 (by omega)).1; simpa [Addr.add] using this)
        refine .inr ⟨g, o, rfl, fun j x hj => ?_⟩
        have hjl : j < len := by have := (List.getElem?_eq_some_iff.1 hj).1; simpa using this
        have : S j = x := by simpa [hjl] using hj
        subst this
        obtain ⟨q1, q2, -⟩ := hS j (by omega)
        rw [add_lit] at q1 q2
        exact ⟨q1, by rw [Nat.add_assoc]; exact q2⟩
    · obtain ⟨j, hj, rfl⟩ := List.mem_map.1 hx
      exact (hS j (by have := List.mem_range.1 hj; omega)).2.2
set_option maxRecDepth 100000 in
theorem open_node {fuel : Nat} {cs : List Value} {y : DataW H × List MemPlace} (h : DataW.trod enc Tryz.prog W 0 (fun _ => true) true fuel 44 cs = some y) :
    ∃ m : Mn, cs = encM m ∧ (∃ x y, m.2.1 = .slice x m.1.xs.length y ∧ IsWords W (.slice x m.1.xs.length y) m.1.xs) ∧ (∃ x y, m.2.2 = .slice x m.1.ys.length y ∧ IsWords W (.slice x m.1.ys.length y) m.1.ys) ∧ Wd m.1.xs ∧ Wd m.1.ys := by
  have k1 : Tryz.prog.cellsOf 3 = 1 := by kernel_rfl
  have k2 : Tryz.prog.cellsOf 9 = 1 := by kernel_rfl
  have k3 : Tryz.prog.cellsOf 42 = 3 := by kernel_rfl
  have k4 : Tryz.prog.cellsOf 44 = 8 := by kernel_rfl
  obtain ⟨xs, n, -, -, hl, hxs, hf⟩ := DataW.trod_struct Tryz.underlying44 h
  rw [k4] at hl
  match cs, hl with
  | [c0, c1, c2, c3, c4, c5, c6, c7], _ =>
  match xs, hxs with
  | [x0, x1, x2, x3, x4, x5], _ =>
  have f0 := hf 0 _ rfl
  have f1 := hf 1 _ rfl
  have f2 := hf 2 _ rfl
  have f3 := hf 3 _ rfl
  have f4 := hf 4 _ rfl
  have f5 := hf 5 _ rfl
  obtain ⟨a0, e0, -, -⟩ := DataW.trod_int Tryz.underlying3 f0
  obtain ⟨a1, e1, -, -⟩ := DataW.trod_int Tryz.underlying3 f1
  obtain ⟨a2, e2, -, -⟩ := DataW.trod_int Tryz.underlying3 f2
  obtain ⟨a3, e3, -, -⟩ := DataW.trod_int Tryz.underlying3 f3
  obtain ⟨a4, e4, -, -⟩ := DataW.trod_string Tryz.underlying9 f4
  obtain ⟨y0, y1, y2, q, -, -, t0, t1, t2⟩ := trod_struct3 Tryz.underlying42 f5
  obtain ⟨a5, e5, -⟩ := DataW.trod_bool Tryz.underlying4 t0
  have k5 : Tryz.prog.cellsOf 4 = 1 := by kernel_rfl
  have k6 : Tryz.prog.cellsOf 40 = 1 := by kernel_rfl
  simp only [k5, k6] at e5 t1 t2
  obtain ⟨ua, un, uc, zs, e6, w6⟩ := open_row (v := c6) t1
  obtain ⟨va, vn, vc, ys, e7, w7⟩ := open_row (v := c7) t2
  have u1 := came_words w6
  have u2 := came_words w7
  have l1 : (zs.take un).length = un := (came_reads w6).1.1
  have l2 : (ys.take vn).length = vn := (came_reads w7).1.1
  refine ⟨(⟨a0, a1, a2, a3, a4, a5, zs.take un, ys.take vn⟩, .slice ua un uc, .slice va vn vc), ?_, ⟨ua, uc, by rw [l1], by show IsWords W (.slice ua (zs.take un).length uc) (zs.take un); rw [l1]; exact u1⟩, ⟨va, vc, by rw [l2], by show IsWords W (.slice va (ys.take vn).length vc) (ys.take vn); rw [l2]; exact u2⟩, fun z hz => wf_u32 ((came_reads w6).2.2.2 z hz), fun z hz => wf_u32 ((came_reads w7).2.2.2 z hz)⟩
  have d0 : c0 = .int .i64 a0 := by simpa [k1] using e0
  have d1 : c1 = .int .i64 a1 := by simpa [k1] using e1
  have d2 : c2 = .int .i64 a2 := by simpa [k1] using e2
  have d3 : c3 = .int .i64 a3 := by simpa [k1] using e3
  have d4 : c4 = .string a4 := by simpa [k2] using e4
  have d5 : c5 = .bool a5 := by simpa [k3] using e5
  rw [d0, d1, d2, d3, d4, d5, e6, e7]; rfl
theorem open_nodes {fuel : Nat} {v : Value} {y : DataW H × List MemPlace} (h : DataW.trod enc Tryz.prog W 0 (fun _ => true) true fuel 25 [v] = some y) :
    ∃ a n c ms, v = .slice a n c ∧ IsN W a n ms ∧ NdC W ms ∧ n ≤ c := by
  have hk : Tryz.prog.cellsOf 44 = 8 := by kernel_rfl
  rcases open_slice Tryz.underlying25 h with ⟨hcs, -⟩ | ⟨a, len, cap, m, n, D, Pl, hcs, -, hl, -, hm, -, hc⟩
  · exact ⟨none, 0, 0, [], by simpa using hcs, ⟨rfl, .inl rfl⟩, fun m hm => absurd hm (by simp), Nat.le_refl 0⟩
  · rw [hk] at hc
    have each : ∀ i, i < m → ∃ x : Mn, (∀ j u, (encM x)[j]? = some u → W.cell? (a.add (i * 8 + j)) = some u) ∧ ((∃ p q, x.2.1 = .slice p x.1.xs.length q ∧ IsWords W (.slice p x.1.xs.length q) x.1.xs) ∧ (∃ p q, x.2.2 = .slice p x.1.ys.length q ∧ IsWords W (.slice p x.1.ys.length q) x.1.ys) ∧ Wd x.1.xs ∧ Wd x.1.ys) := fun i hi => by
      obtain ⟨cs, h1, h2⟩ := hc i hi
      obtain ⟨-, hlen, hcell⟩ := World.cells?_some h1
      obtain ⟨x, rfl, hx⟩ := open_node h2
      refine ⟨x, fun j u hj => ?_, hx⟩
      have hj8 : j < 8 := by have := (List.getElem?_eq_some_iff.1 hj).1; rwa [encM_length] at this
      rw [← add_add, hcell j hj8]; exact hj
    have : Inhabited Mn := ⟨(⟨0, 0, 0, 0, ⟨#[]⟩, false, [], []⟩, .nilIface, .nilIface)⟩
    obtain ⟨S, hS⟩ := choose_lt each
    have hlm : len ≤ m := by rw [hm]; split <;> omega
    refine ⟨some a, len, cap, (List.range len).map S, by simpa using hcs, ⟨by simp, ?_⟩, fun x hx => ?_, hl⟩
    · rcases Nat.eq_zero_or_pos len with h0 | hp
      · exact .inl h0
      · obtain ⟨g, o, rfl⟩ := lit_addr (by have := (hS 0 (by omega)).1 0 _ rfl; simpa [Addr.add] using this)
        refine .inr ⟨g, o, rfl, fun j x hj k u hu => ?_⟩
        have hjl : j < len := by have := (List.getElem?_eq_some_iff.1 hj).1; simpa using this
        have : S j = x := by simpa [hjl] using hj
        subst this
        have q1 := (hS j (by omega)).1 k u hu
        rw [add_lit] at q1
        rw [Nat.add_assoc]; exact q1
    · obtain ⟨j, hj, rfl⟩ := List.mem_map.1 hx
      exact (hS j (by have := List.mem_range.1 hj; omega)).2
set_option maxRecDepth 100000 in
theorem open_Prog {base : Nat} {v : Value} {d : DataW H} {p : List MemPlace} (hv : Value.okWide Tryz.prog W .any base 27 v) (h : DataW.Trod enc Tryz.prog W 0 (fun _ => true) true 27 v d p) :
    ∃ ia il ic la ln lc oa ol oc a n c ins outs ls ms, v = .agg #[.slice ia il ic, .slice la ln lc, .slice oa ol oc, .slice a n c] ∧ PgC W ia la oa a il ln ol n c ins outs ls ms := by
  obtain ⟨c0, c1, c2, c3, y0, y1, y2, y3, m, rfl, -, -, h0, h1, h2, h3⟩ := open_agg4 Tryz.underlying27 (by kernel_rfl) (by kernel_rfl) hv h
  obtain ⟨ia, il, ic, ins, e0, w0⟩ := open_names h0
  obtain ⟨la, ln, lc, ls, e1, w1, z1⟩ := open_lets h1
  obtain ⟨oa, ol, oc, outs, e2, w2⟩ := open_names h2
  obtain ⟨a, n, c, ms, e3, w3, z3, hc⟩ := open_nodes h3
  exact ⟨ia, il, ic, la, ln, lc, oa, ol, oc, a, n, c, ins, outs, ls, ms, by rw [e0, e1, e2, e3], w0, w1, w2, w3, z3, z1, hc⟩
end Go.Proofs.YtbcfplaalepnbaaGreatDoor
namespace Go.Proofs.YtbcfplaalepnbaaGreatDoor
open Go.RowKit Go.Lib
def fewN (m : Nw) : Bool := decide (m.xs.length ≤ 6) && decide (m.ys.length ≤ 6) && decide (m.name.size ≤ 60)
def fewQ (most n il ln ol : Nat) (ms : List Nw) : Bool := decide (n ≤ most) && decide (il ≤ 8) && decide (ln ≤ 8) && decide (ol ≤ 8) && ms.all fewN
set_option maxHeartbeats 4000000 in
theorem ref_few1 (w : World) (k : Nat) (s0 : Bool) (a0 b0 : Option Addr) (n0 c0 m0 d0 t : Nat) (h : BoxC w k #[.bool s0, .slice a0 n0 c0, .slice b0 m0 d0] 42) (r : Bool) (hr : decide (n0 ≤ t ∧ m0 ≤ t) = r) :
    Calls Tryz.prog 36 #[.slice (some ⟨k, 0, none⟩) 1 1, .int .i64 t] w fun e w' => e = .returned (.bool r) ∧ w = w' := by
  have x1 := (h.cell 1).1
  have x2 := (h.cell 2).1
  simp only [List.getElem?_toArray, List.getElem?_cons_succ, List.getElem?_cons_zero] at x1 x2
  have HR : Hid (decide (n0 ≤ t ∧ m0 ≤ t) = r) := hr
  clear h hr
  go_enter Tryz.func36, Tryz.ntmps36
  go_wp2
  go_loopg [5] 1 (fun g s5 v => ∃ i : Nat, s5 = .int .i64 i ∧ i + g = 1 ∧ w = v ∧ (1 ≤ i → n0 ≤ t ∧ m0 ≤ t))
  case atStart => exact ⟨0, rfl, rfl, rfl, by omega⟩
  case round =>
    obtain ⟨i, rfl, hi, rfl, q0⟩ := hrel
    rcases (by omega : i = 1 ∧ gk = 0 ∨ i = 0 ∧ gk = 1) with ⟨rfl, rfl⟩ | ⟨rfl, rfl⟩
    · have HB : Hid (r = true) := by show r = true; rw [← HR.out]; exact decide_eq_true (q0 (by omega))
      clear q0 hi
      go_wp2
      go_ret
      exact ⟨by rw [HB.out]; rfl, rfl⟩
    · by_cases hn : n0 ≤ t
      case neg =>
        have HB : Hid (r = false) := by show r = false; rw [← HR.out]; exact decide_eq_false (by omega)
        have hn' : (t : Int) < n0 := by omega
        clear hi q0 hn
        go_wp2
        go_ret
        exact ⟨by rw [HB.out]; rfl, rfl⟩
      case pos =>
        have hn' : ¬ (t : Int) < n0 := by omega
        by_cases hm : m0 ≤ t
        case neg =>
          have HB : Hid (r = false) := by show r = false; rw [← HR.out]; exact decide_eq_false (by omega)
          have hm' : (t : Int) < m0 := by omega
          clear hi q0 hn hm
          go_wp2
          go_ret
          exact ⟨by rw [HB.out]; rfl, rfl⟩
        case pos =>
          have hm' : ¬ (t : Int) < m0 := by omega
          have HN : Hid (n0 ≤ t ∧ m0 ≤ t) := ⟨hn, hm⟩
          clear hi hn hm q0
          go_wp2
          have h2 := HN.out
          go_roundg 0
          case measure => omega
          case rel => exact ⟨1, rfl, by omega, rfl, fun _ => h2⟩
set_option maxRecDepth 100000 in
set_option maxHeartbeats 32000000 in
theorem ref_tFew {w : World} {ia la oa a : Option Addr} {il ic ln lc ol oc n c : Nat} {ins outs : List ByteArray} {ls : List (ByteArray × Int)} {ms : List Mn} (h : PgC w ia la oa a il ln ol n c ins outs ls ms) (most : Nat) (hmost : most ≤ 400) (r : Bool) (hr : fewQ most n il ln ol (ms.map (·.1)) = r) :
    Calls Tryz.prog 13 #[.agg #[.slice ia il ic, .slice la ln lc, .slice oa ol oc, .slice a n c], .int .i64 most] w fun e w' => e = .returned (.bool r) ∧ Below w.heap.size w w' := by
  obtain ⟨B1, bV, hs⟩ := boxes1 w #[.slice ia il ic, .slice la ln lc, .slice oa ol oc, .slice a n c] 27
  have x0 := (B1.cell 0).1
  have x1 := (B1.cell 1).1
  have x2 := (B1.cell 2).1
  have x3 := (B1.cell 3).1
  unfold fewQ at hr
  by_cases h1 : n ≤ most
  case neg =>
    obtain rfl : r = false := by rw [← hr, decide_eq_false h1]; rfl
    have k1 : (most : Int) < n := by omega
    clear hr h B1 hs h1
    go_enter Tryz.func13, Tryz.ntmps13
    go_wp2
    go_ret
    exact ⟨rfl, bV⟩
  have k1 : ¬ (most : Int) < n := by omega
  by_cases h2 : il ≤ 8
  case neg =>
    obtain rfl : r = false := by rw [← hr, decide_eq_false h2]; simp
    have k2 : 8 < (il : Int) := by omega
    clear hr h B1 hs h1 h2
    go_enter Tryz.func13, Tryz.ntmps13
    go_wp2
    go_ret
    exact ⟨rfl, bV⟩
  have k2 : ¬ 8 < (il : Int) := by omega
  by_cases h3 : ln ≤ 8
  case neg =>
    obtain rfl : r = false := by rw [← hr, decide_eq_false h3]; simp
    have k3 : 8 < (ln : Int) := by omega
    clear hr h B1 hs h1 h2 h3
    go_enter Tryz.func13, Tryz.ntmps13
    go_wp2
    go_ret
    exact ⟨rfl, bV⟩
  have k3 : ¬ 8 < (ln : Int) := by omega
  by_cases h4 : ol ≤ 8
  case neg =>
    obtain rfl : r = false := by rw [← hr, decide_eq_false h4]; simp
    have k4 : 8 < (ol : Int) := by omega
    clear hr h B1 hs h1 h2 h3 h4
    go_enter Tryz.func13, Tryz.ntmps13
    go_wp2
    go_ret
    exact ⟨rfl, bV⟩
  have k4 : ¬ 8 < (ol : Int) := by omega
  rw [decide_eq_true h1, decide_eq_true h2, decide_eq_true h3, decide_eq_true h4, Bool.true_and, Bool.true_and, Bool.true_and, Bool.true_and] at hr
  have HH : Hid (PgC w ia la oa a il ln ol n c ins outs ls ms ∧ n ≤ 400 ∧ (ms.map (·.1)).all fewN = r ∧ Below w.heap.size w (w.alloc (.cells #[.slice ia il ic, .slice la ln lc, .slice oa ol oc, .slice a n c] 27))) := ⟨h, by omega, hr, bV⟩
  have CB : Hid (∀ v, Below (w.alloc (.cells #[.slice ia il ic, .slice la ln lc, .slice oa ol oc, .slice a n c] 27)).heap.size (w.alloc (.cells #[.slice ia il ic, .slice la ln lc, .slice oa ol oc, .slice a n c] 27)) v → v.cell? ⟨w.heap.size, 3, none⟩ = some (.slice a n c)) := fun v b => ((B1.more b).cell 3).1
  clear hr h h1 h2 h3 h4 B1 hs bV hmost
  go_enter Tryz.func13, Tryz.ntmps13
  go_wp2
  clear x0 x1 x2 x3 k1 k2 k3 k4
  generalize w.alloc (.cells #[.slice ia il ic, .slice la ln lc, .slice oa ol oc, .slice a n c] 27) = V at *
  go_loopg [5] n (fun g s5 v => ∃ t : Nat, s5 = .int .i64 t ∧ t + g = n ∧ (∀ j m, j < t → ms[j]? = some m → fewN m.1 = true) ∧ Below V.heap.size V v)
  case atStart => exact ⟨0, rfl, by omega, fun j x hj => absurd hj (by omega), Below.refl _ _⟩
  case round =>
    obtain ⟨t, rfl, hg, hN, bw⟩ := hrel
    obtain ⟨hP, hn, hr, hV⟩ := HH.out
    have bW := below_more hV bw
    have x3 := CB.out _ bw
    rcases Nat.lt_or_ge t n with ht | ht
    · have p1 : (t : Int) < n := by omega
      obtain ⟨m, hm⟩ : ∃ m, ms[t]? = some m := ⟨_, List.getElem?_eq_getElem (by have := hP.hall.1; omega)⟩
      have hmm := List.mem_of_getElem? hm
      obtain ⟨⟨ux, uy, hu, -⟩, ⟨vx, vy, hv, -⟩, -⟩ := hP.hnodes m hmm
      obtain ⟨gm, om, rfl, n0, n1, n2, n3, n4, n5, n6, n7⟩ := (hP.hall.below bW).node hm
      rw [hu] at n6
      rw [hv] at n7
      have FW := fun (v : World) (q : Bool) (hq : decide (m.1.xs.length ≤ 6 ∧ m.1.ys.length ≤ 6) = q) => ref_few1 (v.alloc (.cells #[.bool m.1.neg, .slice ux m.1.xs.length uy, .slice vx m.1.ys.length vy] 42)) v.heap.size m.1.neg ux vx m.1.xs.length uy m.1.ys.length vy 6 (BoxC.new v _ _) q hq
      have q4 : (wr.alloc (.cells #[.bool m.1.neg, .slice ux m.1.xs.length uy, .slice vx m.1.ys.length vy] 42)).cell? ⟨gm, om + t * 8 + 4, none⟩ = some (.string m.1.name) := by
        rw [((Below.refl _ wr).alloc (Nat.le_refl _) _).cell (World.block_lt_of_cell? wr _ n4)]; exact n4
      have q3 : (wr.alloc (.cells #[.bool m.1.neg, .slice ux m.1.xs.length uy, .slice vx m.1.ys.length vy] 42)).cell? ⟨w.heap.size, 3, none⟩ = some (.slice (some ⟨gm, om, none⟩) n c) := CB.out _ (bw.alloc bw.size _)
      have hfew : fewN m.1 = (decide (m.1.xs.length ≤ 6 ∧ m.1.ys.length ≤ 6) && decide (m.1.name.size ≤ 60)) := by unfold fewN; rw [Bool.decide_and]
      have no : fewN m.1 = false → r = false := fun hf => by
        rw [← hr, List.all_eq_false]
        exact ⟨m.1, List.mem_map_of_mem hmm, by rw [hf]; simp⟩
      have yes : fewN m.1 = true → ∀ j m', j < t + 1 → ms[j]? = some m' → fewN m'.1 = true := fun hf j m' hj hm' => by
        rcases Nat.lt_or_ge j t with q | q
        · exact hN j m' q hm'
        · obtain rfl : j = t := by omega
          rw [hm] at hm'
          injection hm' with hm'
          rw [← hm']; exact hf
      have HB : Hid (Below w.heap.size w wr ∧ Below V.heap.size V wr ∧ t + 1 + (n - (t + 1)) = n ∧ n - (t + 1) < gk) := ⟨bW, bw, by omega, by omega⟩
      have WT : Hid (wrap64 ((t : Int) + 1) = (t : Int) + 1) := wrap_smalls (by omega) (by omega)
      clear hg hN hn hr hV bW bw hm hmm hu hv hP HH ht
      generalize m.1.xs.length = lx at *
      generalize m.1.ys.length = ly at *
      generalize m.1.name = Y at *
      generalize m.1.neg = G at *
      generalize m.1.kind = K at *
      generalize m.1.a = A at *
      generalize m.1.b = B at *
      generalize m.1.exp = X at *
      by_cases f1 : lx ≤ 6 ∧ ly ≤ 6
      case neg =>
        have hrf := no (by rw [hfew, decide_eq_false f1]; rfl)
        subst hrf
        have FW := fun v => FW v false (decide_eq_false f1)
        clear no yes hfew f1
        go_wp2_with (go_at_call 36; (with_reducible refine Calls.mono (FW _) ?_); rintro e w3 ⟨rfl, rfl⟩)
        go_ret
        exact ⟨rfl, HB.out.1.alloc HB.out.1.size _⟩
      have FW := fun v => FW v true (decide_eq_true f1)
      by_cases f2 : Y.size ≤ 60
      case neg =>
        have hrf := no (by rw [hfew, decide_eq_false f2]; simp)
        subst hrf
        have k60 : 60 < (Y.size : Int) := by omega
        clear no yes hfew f1 f2
        go_wp2_with (go_at_call 36; (with_reducible refine Calls.mono (FW _) ?_); rintro e w3 ⟨rfl, rfl⟩)
        go_ret
        exact ⟨rfl, HB.out.1.alloc HB.out.1.size _⟩
      have k60 : ¬ 60 < (Y.size : Int) := by omega
      have HY : Hid (∀ j m', j < t + 1 → ms[j]? = some m' → fewN m'.1 = true) := yes (by rw [hfew, decide_eq_true f1, decide_eq_true f2]; rfl)
      clear no yes hfew f1 f2
      have wT := WT.out
      go_wp2_with (go_at_call 36; (with_reducible refine Calls.mono (FW _) ?_); rintro e w3 ⟨rfl, rfl⟩)
      obtain ⟨-, j2, j3, j4⟩ := HB.out
      go_roundg (n - (t + 1))
      case measure => exact j4
      case rel => exact ⟨t + 1, by first | rfl | (rw [wT]; rfl), j3, HY.out, j2.alloc j2.size _⟩
    · have p1 : ¬ (t : Int) < n := by omega
      have hrt : r = true := by
        rw [← hr, List.all_eq_true]
        intro x hx
        obtain ⟨m, hm, rfl⟩ := List.mem_map.1 hx
        obtain ⟨j, hj, he⟩ := List.getElem_of_mem hm
        exact hN j m (by have := hP.hall.1; omega) (by rw [List.getElem?_eq_getElem hj, he])
      subst hrt
      clear hg hN hn hr hV hP HH ht
      go_wp2
      go_ret
      exact ⟨rfl, bW⟩
theorem PgC.few {w : World} {ia la oa a : Option Addr} {il ln ol n c : Nat} {ins outs : List ByteArray} {ls : List (ByteArray × Int)} {ms : List Mn} (h : PgC w ia la oa a il ln ol n c ins outs ls ms) (hf : (ms.map (·.1)).all fewN = true) : PgR w ia la oa a il ln ol n c ins outs ls ms ∧ ∀ m ∈ ms, m.1.xs.length ≤ 3000 ∧ m.1.ys.length ≤ 3000 := by
  have each : ∀ m ∈ ms, m.1.xs.length ≤ 6 ∧ m.1.ys.length ≤ 6 ∧ m.1.name.size ≤ 60 := fun m hm => by
    have := List.all_eq_true.1 hf m.1 (List.mem_map_of_mem hm)
    unfold fewN at this
    simp only [Bool.and_eq_true, decide_eq_true_eq] at this
    exact ⟨this.1.1, this.1.2, this.2⟩
  refine ⟨⟨h.hins, h.hlets, h.houts, h.hall, fun m hm => ?_, h.lsz, h.cap⟩, fun m hm => ?_⟩
  · obtain ⟨q1, q2, q3, q4⟩ := h.hnodes m hm
    obtain ⟨e1, e2, e3⟩ := each m hm
    exact ⟨q1, q2, q3, q4, by omega, by omega, by omega⟩
  · obtain ⟨e1, e2, e3⟩ := each m hm
    exact ⟨by omega, by omega⟩
theorem PgC.below {w w' : World} {ia la oa a : Option Addr} {il ln ol n c : Nat} {ins outs : List ByteArray} {ls : List (ByteArray × Int)} {ms : List Mn} (h : PgC w ia la oa a il ln ol n c ins outs ls ms) (hb : Below w.heap.size w w') : PgC w' ia la oa a il ln ol n c ins outs ls ms :=
  ⟨h.hins.below hb, h.hlets.below hb, h.houts.below hb, h.hall.below hb, fun m hm => by
    obtain ⟨⟨x, y, e, h1⟩, ⟨x', y', e', h1'⟩, r⟩ := h.hnodes m hm
    exact ⟨⟨x, y, e, h1.below hb⟩, ⟨x', y', e', h1'.below hb⟩, r⟩, h.lsz, h.cap⟩
end Go.Proofs.YtbcfplaalepnbaaGreatDoor
namespace Go.Proofs.YtbcfplaalepnbaaGreatDoor
open Go.RowKit Go.Lib
def fillD (m : Nw) : Bool :=
  if m.kind = 0 then nameB m.name && noneB m && (m.a == 0) && (m.b == 0) && (m.exp == 0)
  else if m.kind = 1 then rghB m.neg m.xs m.ys && !m.neg && emptyB m.name && (m.a == 0) && (m.b == 0) && (m.exp == 0) && decide ((decOf (val m.xs)).length ≤ 40) && decide ((decOf (val m.ys)).length ≤ 40)
  else if m.kind = 2 ∨ m.kind = 3 ∨ m.kind = 4 ∨ m.kind = 5 then emptyB m.name && noneB m && (m.exp == 0)
  else if m.kind = 6 then emptyB m.name && noneB m && (m.b == 0) && (m.exp == 0)
  else if m.kind = 7 then emptyB m.name && noneB m && (m.b == 0) && decide (-20 ≤ m.exp) && decide (m.exp ≤ 20)
  else false
theorem rgh_short {s : Bool} {xs ys : List Int} (h : rghB s xs ys = true) : (decOf (val xs)).length ≤ 40 → shortB xs = true := fun hA => by
  unfold rghB at h
  have h := (decide_eq_true_iff.1 h).2.1
  have hl : val xs < 4294967296 ^ 5 := Nat.lt_of_lt_of_le (lt_decOf (val xs)) (Nat.le_trans (Nat.pow_le_pow_right (by decide) hA) (by decide))
  have e : xs.length ≤ 5 := by
    have e1 : val xs = (rv s (val xs) (val ys)).num.natAbs := by
      have := congrArg val h
      rw [val_natOf] at this
      exact this.symm
    rw [← h, ← e1]
    exact nl_le 5 _ hl
  unfold shortB
  rw [decide_eq_true e, decide_eq_true hA]; rfl
theorem rgh_short2 {s : Bool} {xs ys : List Int} (h : rghB s xs ys = true) : (decOf (val ys)).length ≤ 40 → shortB ys = true := fun hA => by
  unfold rghB at h
  have h := (decide_eq_true_iff.1 h).2.2
  have hl : val ys < 4294967296 ^ 5 := Nat.lt_of_lt_of_le (lt_decOf (val ys)) (Nat.le_trans (Nat.pow_le_pow_right (by decide) hA) (by decide))
  have e : ys.length ≤ 5 := by
    have e1 : val ys = (rv s (val xs) (val ys)).den := by
      have := congrArg val h
      rw [val_natOf] at this
      exact this.symm
    rw [← h, ← e1]
    exact nl_le 5 _ hl
  unfold shortB
  rw [decide_eq_true e, decide_eq_true hA]; rfl
theorem num_doc (s : Bool) (xs ys : List Int) : numR s xs ys = (rghB s xs ys && !s && decide ((decOf (val xs)).length ≤ 40) && decide ((decOf (val ys)).length ≤ 40)) := by
  unfold numR
  cases hr : rghB s xs ys with
  | false => simp
  | true =>
    have e1 : shortB xs = decide ((decOf (val xs)).length ≤ 40) := by
      by_cases h : (decOf (val xs)).length ≤ 40
      · rw [rgh_short hr h, decide_eq_true h]
      · unfold shortB; rw [decide_eq_false h]; simp
    have e2 : shortB ys = decide ((decOf (val ys)).length ≤ 40) := by
      by_cases h : (decOf (val ys)).length ≤ 40
      · rw [rgh_short2 hr h, decide_eq_true h]
      · unfold shortB; rw [decide_eq_false h]; simp
    rw [e1, e2]; simp
theorem fill_doc (m : Nw) : fillD m = fillR m := by
  unfold fillD fillR
  rw [num_doc]
  by_cases k0 : m.kind = 0
  · rw [if_pos k0, if_pos k0]
    cases nameB m.name <;> cases noneB m <;> cases (m.a == 0) <;> cases (m.b == 0) <;> cases (m.exp == 0) <;> rfl
  rw [if_neg k0, if_neg k0]
  by_cases k1 : m.kind = 1
  · rw [if_pos k1, if_pos k1]
    cases rghB m.neg m.xs m.ys <;> cases m.neg <;> cases emptyB m.name <;> cases (m.a == 0) <;> cases (m.b == 0) <;> cases (m.exp == 0) <;> simp
  rw [if_neg k1, if_neg k1]
  by_cases k2 : m.kind = 2 ∨ m.kind = 3 ∨ m.kind = 4 ∨ m.kind = 5
  · rw [if_pos k2, if_pos k2]
    cases emptyB m.name <;> cases noneB m <;> cases (m.exp == 0) <;> rfl
  rw [if_neg k2, if_neg k2]
  by_cases k6 : m.kind = 6
  · rw [if_pos k6, if_pos k6]
    cases emptyB m.name <;> cases noneB m <;> cases (m.b == 0) <;> cases (m.exp == 0) <;> rfl
  rw [if_neg k6, if_neg k6]
  by_cases k7 : m.kind = 7
  · rw [if_pos k7, if_pos k7]
    rw [show decide (-20 ≤ m.exp ∧ m.exp ≤ 20) = (decide (-20 ≤ m.exp) && decide (m.exp ≤ 20)) from Bool.decide_and ..]
    cases emptyB m.name <;> cases noneB m <;> cases (m.b == 0) <;> simp
  · rw [if_neg k7, if_neg k7]
theorem none_dec (m : Nw) : noneB m = decide (m.neg = false ∧ m.xs = [] ∧ m.ys = []) := by
  unfold noneB
  rw [Bool.decide_and, Bool.decide_and, Bool.and_assoc]
  congr 1
  · cases m.neg <;> rfl
  · congr 1
    · cases m.xs <;> simp
    · cases m.ys <;> simp
set_option maxHeartbeats 64000000 in
theorem ref_tfields {w : World} {k a b x : Int} {nm : ByteArray} {ng : Bool} {ua va : Option Addr} {uc vc : Nat} {xs ys : List Int} (hu : IsWords w (.slice ua xs.length uc) xs) (hx : Wd xs) (hv : IsWords w (.slice va ys.length vc) ys) (hy : Wd ys) (hn : xs.length ≤ 3000) (hm : ys.length ≤ 3000) (hs : nm.size ≤ 1000000) (r : Bool) (hr : fillR ⟨k, a, b, x, nm, ng, xs, ys⟩ = r) :
    Calls Tryz.prog 38 #[.agg #[.int .i64 k, .int .i64 a, .int .i64 b, .int .i64 x, .string nm, .bool ng, .slice ua xs.length uc, .slice va ys.length vc]] w fun e w' => e = .returned (.bool r) ∧ Below w.heap.size w w' := by
  rw [← fill_doc] at hr
  have EQ := fun (v : World) (dv : Below w.heap.size w v) (q : Bool) (hq : noneB ⟨k, a, b, x, nm, ng, xs, ys⟩ = q) => ref_requal (s := ng) (s' := false) (xs' := []) (ys' := []) (hu.below dv) (hv.below dv) (Own.nil (Below.refl _ v)).words (Own.nil (Below.refl _ v)).words q (by rw [← hq, none_dec])
  have RT := fun (v : World) (dv : Below w.heap.size w v) (q : Bool) (hq : rghB ng xs ys = q) => ref_rright (s := ng) (hu.below dv) hx (hv.below dv) hy hn hm _ rfl q (by rw [← hq]; rfl)
  have P1 := fun (v : World) (dv : Below w.heap.size w v) => ref_print (hu.below dv) hx (by omega) _ rfl
  have P2 := fun (v : World) (dv : Below w.heap.size w v) => ref_print (hv.below dv) hy (by omega) _ rfl
  have SN := fun (v : World) (q : Bool) (hq : nameB nm = q) => ref_sname hs q hq v
  obtain ⟨b1, bV, hV⟩ := boxes1 w #[.int .i64 k, .int .i64 a, .int .i64 b, .int .i64 x, .string nm, .bool ng, .slice ua xs.length uc, .slice va ys.length vc] 44
  have HB : Hid (BoxC _ _ _ _ ∧ Below w.heap.size w _ ∧ w.heap.size < _) := ⟨b1, bV, hV⟩
  have HE : ∀ y : ByteArray, emptyB y = (y.toList == []) := fun _ => rfl
  unfold fillD at hr
  dsimp only at hr
  generalize hnone : noneB ⟨k, a, b, x, nm, ng, xs, ys⟩ = nb at *
  generalize hrgh : rghB ng xs ys = qb at *
  generalize hname : nameB nm = sb at *
  generalize hP : decOf (val xs) = X at *
  generalize hQ : decOf (val ys) = Y at *
  have z1 : (ByteArray.size ⟨X.toArray⟩ : Int) = (X.length : Int) := by show ((X.toArray.size : Nat) : Int) = _; rw [List.size_toArray]
  have z2 : (ByteArray.size ⟨Y.toArray⟩ : Int) = (Y.length : Int) := by show ((Y.toArray.size : Nat) : Int) = _; rw [List.size_toArray]
  rw [HE] at hr
  clear b1 bV hV hu hx hv hy hn hm hs HE hP hQ
  by_cases k0 : k = 0
  · subst k0
    rw [if_pos (by decide)] at hr
    cases hs0 : sb with
    | false =>
      have hr' : r = false := by rw [← hr]; simp [hs0]
      subst hr'
      clear hr
      go_enter Tryz.func38, Tryz.ntmps38
      go_wp2_with (first
        | (go_at_call 64; (with_reducible refine Calls.mono (EQ _ HB.out.2.1 _ rfl) ?_); rintro e w1 ⟨rfl, d1⟩; have D := HB.out.1.more d1; have e0 := (D.cell 0).1; have e1 := (D.cell 1).1; have e2 := (D.cell 2).1; have e3 := (D.cell 3).1; have e4 := (D.cell 4).1; have e5 := (D.cell 5).1; have e6 := (D.cell 6).1; have e7 := (D.cell 7).1; have bb := below_more HB.out.2.1 d1; have hw1 := Nat.lt_of_lt_of_le HB.out.2.2 d1.size)
        | (go_at_call 39; (with_reducible refine Calls.mono (SN _ _ rfl) ?_); rintro e w2 ⟨rfl, rfl⟩))
      go_ret
      exact ⟨by first | rfl | simp | (simp; omega), bb⟩
    | true =>
      cases hn0 : nb with
      | false =>
        have hr' : r = false := by rw [← hr]; simp [hs0, hn0]
        subst hr'
        clear hr
        go_enter Tryz.func38, Tryz.ntmps38
        go_wp2_with (first
          | (go_at_call 64; (with_reducible refine Calls.mono (EQ _ HB.out.2.1 _ rfl) ?_); rintro e w1 ⟨rfl, d1⟩; have D := HB.out.1.more d1; have e0 := (D.cell 0).1; have e1 := (D.cell 1).1; have e2 := (D.cell 2).1; have e3 := (D.cell 3).1; have e4 := (D.cell 4).1; have e5 := (D.cell 5).1; have e6 := (D.cell 6).1; have e7 := (D.cell 7).1; have bb := below_more HB.out.2.1 d1; have hw1 := Nat.lt_of_lt_of_le HB.out.2.2 d1.size)
          | (go_at_call 39; (with_reducible refine Calls.mono (SN _ _ rfl) ?_); rintro e w2 ⟨rfl, rfl⟩))
        go_ret
        exact ⟨by first | rfl | simp | (simp; omega), bb⟩
      | true =>
        cases ha : (a == 0) with
        | false =>
          have hr' : r = false := by rw [← hr]; simp [hs0, hn0, ha]
          subst hr'
          clear hr
          go_enter Tryz.func38, Tryz.ntmps38
          go_wp2_with (first
            | (go_at_call 64; (with_reducible refine Calls.mono (EQ _ HB.out.2.1 _ rfl) ?_); rintro e w1 ⟨rfl, d1⟩; have D := HB.out.1.more d1; have e0 := (D.cell 0).1; have e1 := (D.cell 1).1; have e2 := (D.cell 2).1; have e3 := (D.cell 3).1; have e4 := (D.cell 4).1; have e5 := (D.cell 5).1; have e6 := (D.cell 6).1; have e7 := (D.cell 7).1; have bb := below_more HB.out.2.1 d1; have hw1 := Nat.lt_of_lt_of_le HB.out.2.2 d1.size)
            | (go_at_call 39; (with_reducible refine Calls.mono (SN _ _ rfl) ?_); rintro e w2 ⟨rfl, rfl⟩))
          go_ret
          exact ⟨by first | rfl | simp | (simp; omega), bb⟩
        | true =>
          cases hb : (b == 0) with
          | false =>
            have hr' : r = false := by rw [← hr]; simp [hs0, hn0, ha, hb]
            subst hr'
            clear hr
            go_enter Tryz.func38, Tryz.ntmps38
            go_wp2_with (first
              | (go_at_call 64; (with_reducible refine Calls.mono (EQ _ HB.out.2.1 _ rfl) ?_); rintro e w1 ⟨rfl, d1⟩; have D := HB.out.1.more d1; have e0 := (D.cell 0).1; have e1 := (D.cell 1).1; have e2 := (D.cell 2).1; have e3 := (D.cell 3).1; have e4 := (D.cell 4).1; have e5 := (D.cell 5).1; have e6 := (D.cell 6).1; have e7 := (D.cell 7).1; have bb := below_more HB.out.2.1 d1; have hw1 := Nat.lt_of_lt_of_le HB.out.2.2 d1.size)
              | (go_at_call 39; (with_reducible refine Calls.mono (SN _ _ rfl) ?_); rintro e w2 ⟨rfl, rfl⟩))
            go_ret
            exact ⟨by first | rfl | simp | (simp; omega), bb⟩
          | true =>
            cases hx0 : (x == 0) with
            | false =>
              have hr' : r = false := by rw [← hr]; simp [hs0, hn0, ha, hb, hx0]
              subst hr'
              clear hr
              go_enter Tryz.func38, Tryz.ntmps38
              go_wp2_with (first
                | (go_at_call 64; (with_reducible refine Calls.mono (EQ _ HB.out.2.1 _ rfl) ?_); rintro e w1 ⟨rfl, d1⟩; have D := HB.out.1.more d1; have e0 := (D.cell 0).1; have e1 := (D.cell 1).1; have e2 := (D.cell 2).1; have e3 := (D.cell 3).1; have e4 := (D.cell 4).1; have e5 := (D.cell 5).1; have e6 := (D.cell 6).1; have e7 := (D.cell 7).1; have bb := below_more HB.out.2.1 d1; have hw1 := Nat.lt_of_lt_of_le HB.out.2.2 d1.size)
                | (go_at_call 39; (with_reducible refine Calls.mono (SN _ _ rfl) ?_); rintro e w2 ⟨rfl, rfl⟩))
              go_ret
              exact ⟨by first | rfl | simp | (simp; omega), bb⟩
            | true =>
              have hr' : r = true := by rw [← hr]; simp [hs0, hn0, ha, hb, hx0]
              subst hr'
              clear hr
              go_enter Tryz.func38, Tryz.ntmps38
              go_wp2_with (first
                | (go_at_call 64; (with_reducible refine Calls.mono (EQ _ HB.out.2.1 _ rfl) ?_); rintro e w1 ⟨rfl, d1⟩; have D := HB.out.1.more d1; have e0 := (D.cell 0).1; have e1 := (D.cell 1).1; have e2 := (D.cell 2).1; have e3 := (D.cell 3).1; have e4 := (D.cell 4).1; have e5 := (D.cell 5).1; have e6 := (D.cell 6).1; have e7 := (D.cell 7).1; have bb := below_more HB.out.2.1 d1; have hw1 := Nat.lt_of_lt_of_le HB.out.2.2 d1.size)
                | (go_at_call 39; (with_reducible refine Calls.mono (SN _ _ rfl) ?_); rintro e w2 ⟨rfl, rfl⟩))
              go_ret
              exact ⟨by first | rfl | simp | (simp; omega), bb⟩
  by_cases k1 : k = 1
  · subst k1
    rw [if_neg (by decide), if_pos (by decide)] at hr
    cases hq0 : qb with
    | false =>
      have hr' : r = false := by rw [← hr]; simp [hq0]
      subst hr'
      clear hr
      go_enter Tryz.func38, Tryz.ntmps38
      go_wp2_with (first
        | (go_at_call 64; (with_reducible refine Calls.mono (EQ _ HB.out.2.1 _ rfl) ?_); rintro e w1 ⟨rfl, d1⟩; have D := HB.out.1.more d1; have e0 := (D.cell 0).1; have e1 := (D.cell 1).1; have e2 := (D.cell 2).1; have e3 := (D.cell 3).1; have e4 := (D.cell 4).1; have e5 := (D.cell 5).1; have e6 := (D.cell 6).1; have e7 := (D.cell 7).1; have bb := below_more HB.out.2.1 d1; have hw1 := Nat.lt_of_lt_of_le HB.out.2.2 d1.size)
        | (go_at_call 65; (with_reducible refine Calls.mono (RT _ bb _ rfl) ?_); rintro e w2 ⟨rfl, d2⟩; replace D := D.more d2; replace e0 := (D.cell 0).1; replace e1 := (D.cell 1).1; replace e2 := (D.cell 2).1; replace e3 := (D.cell 3).1; replace e4 := (D.cell 4).1; replace e5 := (D.cell 5).1; replace e6 := (D.cell 6).1; replace e7 := (D.cell 7).1; replace bb := below_more bb d2))
      go_ret
      exact ⟨by first | rfl | simp | (simp; omega), bb⟩
    | true =>
      cases ng with
      | true =>
        have hr' : r = false := by rw [← hr]; simp [hq0]
        subst hr'
        clear hr
        go_enter Tryz.func38, Tryz.ntmps38
        go_wp2_with (first
          | (go_at_call 64; (with_reducible refine Calls.mono (EQ _ HB.out.2.1 _ rfl) ?_); rintro e w1 ⟨rfl, d1⟩; have D := HB.out.1.more d1; have e0 := (D.cell 0).1; have e1 := (D.cell 1).1; have e2 := (D.cell 2).1; have e3 := (D.cell 3).1; have e4 := (D.cell 4).1; have e5 := (D.cell 5).1; have e6 := (D.cell 6).1; have e7 := (D.cell 7).1; have bb := below_more HB.out.2.1 d1; have hw1 := Nat.lt_of_lt_of_le HB.out.2.2 d1.size)
          | (go_at_call 65; (with_reducible refine Calls.mono (RT _ bb _ rfl) ?_); rintro e w2 ⟨rfl, d2⟩; replace D := D.more d2; replace e0 := (D.cell 0).1; replace e1 := (D.cell 1).1; replace e2 := (D.cell 2).1; replace e3 := (D.cell 3).1; replace e4 := (D.cell 4).1; replace e5 := (D.cell 5).1; replace e6 := (D.cell 6).1; replace e7 := (D.cell 7).1; replace bb := below_more bb d2))
        go_ret
        exact ⟨by first | rfl | simp | (simp; omega), bb⟩
      | false =>
        cases hm0 : (nm.toList == []) with
        | false =>
          have hr' : r = false := by rw [← hr]; simp [hq0, hm0]
          subst hr'
          clear hr
          have hm09 : (nm.toList != []) = true := by rw [bne, hm0]; rfl
          go_enter Tryz.func38, Tryz.ntmps38
          go_wp2_with (first
            | (go_at_call 64; (with_reducible refine Calls.mono (EQ _ HB.out.2.1 _ rfl) ?_); rintro e w1 ⟨rfl, d1⟩; have D := HB.out.1.more d1; have e0 := (D.cell 0).1; have e1 := (D.cell 1).1; have e2 := (D.cell 2).1; have e3 := (D.cell 3).1; have e4 := (D.cell 4).1; have e5 := (D.cell 5).1; have e6 := (D.cell 6).1; have e7 := (D.cell 7).1; have bb := below_more HB.out.2.1 d1; have hw1 := Nat.lt_of_lt_of_le HB.out.2.2 d1.size)
            | (go_at_call 65; (with_reducible refine Calls.mono (RT _ bb _ rfl) ?_); rintro e w2 ⟨rfl, d2⟩; replace D := D.more d2; replace e0 := (D.cell 0).1; replace e1 := (D.cell 1).1; replace e2 := (D.cell 2).1; replace e3 := (D.cell 3).1; replace e4 := (D.cell 4).1; replace e5 := (D.cell 5).1; replace e6 := (D.cell 6).1; replace e7 := (D.cell 7).1; replace bb := below_more bb d2))
          go_ret
          exact ⟨by first | rfl | simp | (simp; omega), bb⟩
        | true =>
          have hm09 : (nm.toList != []) = false := by rw [bne, hm0]; rfl
          cases ha : (a == 0) with
          | false =>
            have hr' : r = false := by rw [← hr]; simp [hq0, hm0, ha]
            subst hr'
            clear hr
            have ha9 : (a != 0) = true := by rw [bne, ha]; rfl
            go_enter Tryz.func38, Tryz.ntmps38
            go_wp2_with (first
              | (go_at_call 64; (with_reducible refine Calls.mono (EQ _ HB.out.2.1 _ rfl) ?_); rintro e w1 ⟨rfl, d1⟩; have D := HB.out.1.more d1; have e0 := (D.cell 0).1; have e1 := (D.cell 1).1; have e2 := (D.cell 2).1; have e3 := (D.cell 3).1; have e4 := (D.cell 4).1; have e5 := (D.cell 5).1; have e6 := (D.cell 6).1; have e7 := (D.cell 7).1; have bb := below_more HB.out.2.1 d1; have hw1 := Nat.lt_of_lt_of_le HB.out.2.2 d1.size)
              | (go_at_call 65; (with_reducible refine Calls.mono (RT _ bb _ rfl) ?_); rintro e w2 ⟨rfl, d2⟩; replace D := D.more d2; replace e0 := (D.cell 0).1; replace e1 := (D.cell 1).1; replace e2 := (D.cell 2).1; replace e3 := (D.cell 3).1; replace e4 := (D.cell 4).1; replace e5 := (D.cell 5).1; replace e6 := (D.cell 6).1; replace e7 := (D.cell 7).1; replace bb := below_more bb d2))
            go_ret
            exact ⟨by first | rfl | simp | (simp; omega), bb⟩
          | true =>
            have ha9 : (a != 0) = false := by rw [bne, ha]; rfl
            cases hb : (b == 0) with
            | false =>
              have hr' : r = false := by rw [← hr]; simp [hq0, hm0, ha, hb]
              subst hr'
              clear hr
              have hb9 : (b != 0) = true := by rw [bne, hb]; rfl
              go_enter Tryz.func38, Tryz.ntmps38
              go_wp2_with (first
                | (go_at_call 64; (with_reducible refine Calls.mono (EQ _ HB.out.2.1 _ rfl) ?_); rintro e w1 ⟨rfl, d1⟩; have D := HB.out.1.more d1; have e0 := (D.cell 0).1; have e1 := (D.cell 1).1; have e2 := (D.cell 2).1; have e3 := (D.cell 3).1; have e4 := (D.cell 4).1; have e5 := (D.cell 5).1; have e6 := (D.cell 6).1; have e7 := (D.cell 7).1; have bb := below_more HB.out.2.1 d1; have hw1 := Nat.lt_of_lt_of_le HB.out.2.2 d1.size)
                | (go_at_call 65; (with_reducible refine Calls.mono (RT _ bb _ rfl) ?_); rintro e w2 ⟨rfl, d2⟩; replace D := D.more d2; replace e0 := (D.cell 0).1; replace e1 := (D.cell 1).1; replace e2 := (D.cell 2).1; replace e3 := (D.cell 3).1; replace e4 := (D.cell 4).1; replace e5 := (D.cell 5).1; replace e6 := (D.cell 6).1; replace e7 := (D.cell 7).1; replace bb := below_more bb d2))
              go_ret
              exact ⟨by first | rfl | simp | (simp; omega), bb⟩
            | true =>
              have hb9 : (b != 0) = false := by rw [bne, hb]; rfl
              cases hx0 : (x == 0) with
              | false =>
                have hr' : r = false := by rw [← hr]; simp [hq0, hm0, ha, hb, hx0]
                subst hr'
                clear hr
                have hx09 : (x != 0) = true := by rw [bne, hx0]; rfl
                go_enter Tryz.func38, Tryz.ntmps38
                go_wp2_with (first
                  | (go_at_call 64; (with_reducible refine Calls.mono (EQ _ HB.out.2.1 _ rfl) ?_); rintro e w1 ⟨rfl, d1⟩; have D := HB.out.1.more d1; have e0 := (D.cell 0).1; have e1 := (D.cell 1).1; have e2 := (D.cell 2).1; have e3 := (D.cell 3).1; have e4 := (D.cell 4).1; have e5 := (D.cell 5).1; have e6 := (D.cell 6).1; have e7 := (D.cell 7).1; have bb := below_more HB.out.2.1 d1; have hw1 := Nat.lt_of_lt_of_le HB.out.2.2 d1.size)
                  | (go_at_call 65; (with_reducible refine Calls.mono (RT _ bb _ rfl) ?_); rintro e w2 ⟨rfl, d2⟩; replace D := D.more d2; replace e0 := (D.cell 0).1; replace e1 := (D.cell 1).1; replace e2 := (D.cell 2).1; replace e3 := (D.cell 3).1; replace e4 := (D.cell 4).1; replace e5 := (D.cell 5).1; replace e6 := (D.cell 6).1; replace e7 := (D.cell 7).1; replace bb := below_more bb d2))
                go_ret
                exact ⟨by first | rfl | simp | (simp; omega), bb⟩
              | true =>
                have hx09 : (x != 0) = false := by rw [bne, hx0]; rfl
                cases hd1 : decide (X.length ≤ 40) with
                | false =>
                  have hr' : r = false := by rw [← hr]; simp [hq0, hm0, ha, hb, hx0, hd1]
                  subst hr'
                  clear hr
                  have k40 : decide ((X.length : Int) ≤ 40) = false := decide_eq_false (by have := decide_eq_false_iff_not.1 hd1; omega)
                  go_enter Tryz.func38, Tryz.ntmps38
                  go_wp2_with (first
                    | (go_at_call 64; (with_reducible refine Calls.mono (EQ _ HB.out.2.1 _ rfl) ?_); rintro e w1 ⟨rfl, d1⟩; have D := HB.out.1.more d1; have e0 := (D.cell 0).1; have e1 := (D.cell 1).1; have e2 := (D.cell 2).1; have e3 := (D.cell 3).1; have e4 := (D.cell 4).1; have e5 := (D.cell 5).1; have e6 := (D.cell 6).1; have e7 := (D.cell 7).1; have bb := below_more HB.out.2.1 d1; have hw1 := Nat.lt_of_lt_of_le HB.out.2.2 d1.size)
                    | (go_at_call 65; (with_reducible refine Calls.mono (RT _ bb _ rfl) ?_); rintro e w2 ⟨rfl, d2⟩; replace D := D.more d2; replace e0 := (D.cell 0).1; replace e1 := (D.cell 1).1; replace e2 := (D.cell 2).1; replace e3 := (D.cell 3).1; replace e4 := (D.cell 4).1; replace e5 := (D.cell 5).1; replace e6 := (D.cell 6).1; replace e7 := (D.cell 7).1; replace bb := below_more bb d2)
                    | (go_at_call 66; (with_reducible refine Calls.mono (P1 _ bb) ?_); rintro e w3 ⟨rfl, d3⟩; replace D := D.more d3; replace e0 := (D.cell 0).1; replace e1 := (D.cell 1).1; replace e2 := (D.cell 2).1; replace e3 := (D.cell 3).1; replace e4 := (D.cell 4).1; replace e5 := (D.cell 5).1; replace e6 := (D.cell 6).1; replace e7 := (D.cell 7).1; replace bb := below_more bb d3))
                  go_ret
                  exact ⟨by first | rfl | simp | (simp; omega), bb⟩
                | true =>
                  have k40 : (X.length : Int) ≤ 40 := by have := decide_eq_true_iff.1 hd1; omega
                  cases hd2 : decide (Y.length ≤ 40) with
                  | false =>
                    have hr' : r = false := by rw [← hr]; simp [hq0, hm0, ha, hb, hx0, hd1, hd2]
                    subst hr'
                    clear hr
                    have k41 : decide ((Y.length : Int) ≤ 40) = false := decide_eq_false (by have := decide_eq_false_iff_not.1 hd2; omega)
                    go_enter Tryz.func38, Tryz.ntmps38
                    go_wp2_with (first
                      | (go_at_call 64; (with_reducible refine Calls.mono (EQ _ HB.out.2.1 _ rfl) ?_); rintro e w1 ⟨rfl, d1⟩; have D := HB.out.1.more d1; have e0 := (D.cell 0).1; have e1 := (D.cell 1).1; have e2 := (D.cell 2).1; have e3 := (D.cell 3).1; have e4 := (D.cell 4).1; have e5 := (D.cell 5).1; have e6 := (D.cell 6).1; have e7 := (D.cell 7).1; have bb := below_more HB.out.2.1 d1; have hw1 := Nat.lt_of_lt_of_le HB.out.2.2 d1.size)
                      | (go_at_call 65; (with_reducible refine Calls.mono (RT _ bb _ rfl) ?_); rintro e w2 ⟨rfl, d2⟩; replace D := D.more d2; replace e0 := (D.cell 0).1; replace e1 := (D.cell 1).1; replace e2 := (D.cell 2).1; replace e3 := (D.cell 3).1; replace e4 := (D.cell 4).1; replace e5 := (D.cell 5).1; replace e6 := (D.cell 6).1; replace e7 := (D.cell 7).1; replace bb := below_more bb d2)
                      | (go_at_call 66; (with_reducible refine Calls.mono (P1 _ bb) ?_); rintro e w3 ⟨rfl, d3⟩; replace D := D.more d3; replace e0 := (D.cell 0).1; replace e1 := (D.cell 1).1; replace e2 := (D.cell 2).1; replace e3 := (D.cell 3).1; replace e4 := (D.cell 4).1; replace e5 := (D.cell 5).1; replace e6 := (D.cell 6).1; replace e7 := (D.cell 7).1; replace bb := below_more bb d3)
                      | (go_at_call 66; (with_reducible refine Calls.mono (P2 _ bb) ?_); rintro e w4 ⟨rfl, d4⟩; replace bb := below_more bb d4))
                    go_ret
                    exact ⟨by first | rfl | simp | (simp; omega), bb⟩
                  | true =>
                    have k41 : (Y.length : Int) ≤ 40 := by have := decide_eq_true_iff.1 hd2; omega
                    have hr' : r = true := by rw [← hr]; simp [hq0, hm0, ha, hb, hx0, hd1, hd2]
                    subst hr'
                    clear hr
                    go_enter Tryz.func38, Tryz.ntmps38
                    go_wp2_with (first
                      | (go_at_call 64; (with_reducible refine Calls.mono (EQ _ HB.out.2.1 _ rfl) ?_); rintro e w1 ⟨rfl, d1⟩; have D := HB.out.1.more d1; have e0 := (D.cell 0).1; have e1 := (D.cell 1).1; have e2 := (D.cell 2).1; have e3 := (D.cell 3).1; have e4 := (D.cell 4).1; have e5 := (D.cell 5).1; have e6 := (D.cell 6).1; have e7 := (D.cell 7).1; have bb := below_more HB.out.2.1 d1; have hw1 := Nat.lt_of_lt_of_le HB.out.2.2 d1.size)
                      | (go_at_call 65; (with_reducible refine Calls.mono (RT _ bb _ rfl) ?_); rintro e w2 ⟨rfl, d2⟩; replace D := D.more d2; replace e0 := (D.cell 0).1; replace e1 := (D.cell 1).1; replace e2 := (D.cell 2).1; replace e3 := (D.cell 3).1; replace e4 := (D.cell 4).1; replace e5 := (D.cell 5).1; replace e6 := (D.cell 6).1; replace e7 := (D.cell 7).1; replace bb := below_more bb d2)
                      | (go_at_call 66; (with_reducible refine Calls.mono (P1 _ bb) ?_); rintro e w3 ⟨rfl, d3⟩; replace D := D.more d3; replace e0 := (D.cell 0).1; replace e1 := (D.cell 1).1; replace e2 := (D.cell 2).1; replace e3 := (D.cell 3).1; replace e4 := (D.cell 4).1; replace e5 := (D.cell 5).1; replace e6 := (D.cell 6).1; replace e7 := (D.cell 7).1; replace bb := below_more bb d3)
                      | (go_at_call 66; (with_reducible refine Calls.mono (P2 _ bb) ?_); rintro e w4 ⟨rfl, d4⟩; replace bb := below_more bb d4))
                    go_ret
                    exact ⟨by first | rfl | simp | (simp; omega), bb⟩
  by_cases k2 : k = 2
  · subst k2
    rw [if_neg (by decide), if_neg (by decide), if_pos (by decide)] at hr
    cases hm0 : (nm.toList == []) with
    | false =>
      have hr' : r = false := by rw [← hr]; simp [hm0]
      subst hr'
      clear hr
      go_enter Tryz.func38, Tryz.ntmps38
      go_wp2_with (first
        | (go_at_call 64; (with_reducible refine Calls.mono (EQ _ HB.out.2.1 _ rfl) ?_); rintro e w1 ⟨rfl, d1⟩; have D := HB.out.1.more d1; have e0 := (D.cell 0).1; have e1 := (D.cell 1).1; have e2 := (D.cell 2).1; have e3 := (D.cell 3).1; have e4 := (D.cell 4).1; have e5 := (D.cell 5).1; have e6 := (D.cell 6).1; have e7 := (D.cell 7).1; have bb := below_more HB.out.2.1 d1; have hw1 := Nat.lt_of_lt_of_le HB.out.2.2 d1.size))
      go_ret
      exact ⟨by first | rfl | simp | (simp; omega), bb⟩
    | true =>
      cases hn0 : nb with
      | false =>
        have hr' : r = false := by rw [← hr]; simp [hm0, hn0]
        subst hr'
        clear hr
        go_enter Tryz.func38, Tryz.ntmps38
        go_wp2_with (first
          | (go_at_call 64; (with_reducible refine Calls.mono (EQ _ HB.out.2.1 _ rfl) ?_); rintro e w1 ⟨rfl, d1⟩; have D := HB.out.1.more d1; have e0 := (D.cell 0).1; have e1 := (D.cell 1).1; have e2 := (D.cell 2).1; have e3 := (D.cell 3).1; have e4 := (D.cell 4).1; have e5 := (D.cell 5).1; have e6 := (D.cell 6).1; have e7 := (D.cell 7).1; have bb := below_more HB.out.2.1 d1; have hw1 := Nat.lt_of_lt_of_le HB.out.2.2 d1.size))
        go_ret
        exact ⟨by first | rfl | simp | (simp; omega), bb⟩
      | true =>
        cases hx0 : (x == 0) with
        | false =>
          have hr' : r = false := by rw [← hr]; simp [hm0, hn0, hx0]
          subst hr'
          clear hr
          go_enter Tryz.func38, Tryz.ntmps38
          go_wp2_with (first
            | (go_at_call 64; (with_reducible refine Calls.mono (EQ _ HB.out.2.1 _ rfl) ?_); rintro e w1 ⟨rfl, d1⟩; have D := HB.out.1.more d1; have e0 := (D.cell 0).1; have e1 := (D.cell 1).1; have e2 := (D.cell 2).1; have e3 := (D.cell 3).1; have e4 := (D.cell 4).1; have e5 := (D.cell 5).1; have e6 := (D.cell 6).1; have e7 := (D.cell 7).1; have bb := below_more HB.out.2.1 d1; have hw1 := Nat.lt_of_lt_of_le HB.out.2.2 d1.size))
          go_ret
          exact ⟨by first | rfl | simp | (simp; omega), bb⟩
        | true =>
          have hr' : r = true := by rw [← hr]; simp [hm0, hn0, hx0]
          subst hr'
          clear hr
          go_enter Tryz.func38, Tryz.ntmps38
          go_wp2_with (first
            | (go_at_call 64; (with_reducible refine Calls.mono (EQ _ HB.out.2.1 _ rfl) ?_); rintro e w1 ⟨rfl, d1⟩; have D := HB.out.1.more d1; have e0 := (D.cell 0).1; have e1 := (D.cell 1).1; have e2 := (D.cell 2).1; have e3 := (D.cell 3).1; have e4 := (D.cell 4).1; have e5 := (D.cell 5).1; have e6 := (D.cell 6).1; have e7 := (D.cell 7).1; have bb := below_more HB.out.2.1 d1; have hw1 := Nat.lt_of_lt_of_le HB.out.2.2 d1.size))
          go_ret
          exact ⟨by first | rfl | simp | (simp; omega), bb⟩
  by_cases k3 : k = 3
  · subst k3
    rw [if_neg (by decide), if_neg (by decide), if_pos (by decide)] at hr
    cases hm0 : (nm.toList == []) with
    | false =>
      have hr' : r = false := by rw [← hr]; simp [hm0]
      subst hr'
      clear hr
      go_enter Tryz.func38, Tryz.ntmps38
      go_wp2_with (first
        | (go_at_call 64; (with_reducible refine Calls.mono (EQ _ HB.out.2.1 _ rfl) ?_); rintro e w1 ⟨rfl, d1⟩; have D := HB.out.1.more d1; have e0 := (D.cell 0).1; have e1 := (D.cell 1).1; have e2 := (D.cell 2).1; have e3 := (D.cell 3).1; have e4 := (D.cell 4).1; have e5 := (D.cell 5).1; have e6 := (D.cell 6).1; have e7 := (D.cell 7).1; have bb := below_more HB.out.2.1 d1; have hw1 := Nat.lt_of_lt_of_le HB.out.2.2 d1.size))
      go_ret
      exact ⟨by first | rfl | simp | (simp; omega), bb⟩
    | true =>
      cases hn0 : nb with
      | false =>
        have hr' : r = false := by rw [← hr]; simp [hm0, hn0]
        subst hr'
        clear hr
        go_enter Tryz.func38, Tryz.ntmps38
        go_wp2_with (first
          | (go_at_call 64; (with_reducible refine Calls.mono (EQ _ HB.out.2.1 _ rfl) ?_); rintro e w1 ⟨rfl, d1⟩; have D := HB.out.1.more d1; have e0 := (D.cell 0).1; have e1 := (D.cell 1).1; have e2 := (D.cell 2).1; have e3 := (D.cell 3).1; have e4 := (D.cell 4).1; have e5 := (D.cell 5).1; have e6 := (D.cell 6).1; have e7 := (D.cell 7).1; have bb := below_more HB.out.2.1 d1; have hw1 := Nat.lt_of_lt_of_le HB.out.2.2 d1.size))
        go_ret
        exact ⟨by first | rfl | simp | (simp; omega), bb⟩
      | true =>
        cases hx0 : (x == 0) with
        | false =>
          have hr' : r = false := by rw [← hr]; simp [hm0, hn0, hx0]
          subst hr'
          clear hr
          go_enter Tryz.func38, Tryz.ntmps38
          go_wp2_with (first
            | (go_at_call 64; (with_reducible refine Calls.mono (EQ _ HB.out.2.1 _ rfl) ?_); rintro e w1 ⟨rfl, d1⟩; have D := HB.out.1.more d1; have e0 := (D.cell 0).1; have e1 := (D.cell 1).1; have e2 := (D.cell 2).1; have e3 := (D.cell 3).1; have e4 := (D.cell 4).1; have e5 := (D.cell 5).1; have e6 := (D.cell 6).1; have e7 := (D.cell 7).1; have bb := below_more HB.out.2.1 d1; have hw1 := Nat.lt_of_lt_of_le HB.out.2.2 d1.size))
          go_ret
          exact ⟨by first | rfl | simp | (simp; omega), bb⟩
        | true =>
          have hr' : r = true := by rw [← hr]; simp [hm0, hn0, hx0]
          subst hr'
          clear hr
          go_enter Tryz.func38, Tryz.ntmps38
          go_wp2_with (first
            | (go_at_call 64; (with_reducible refine Calls.mono (EQ _ HB.out.2.1 _ rfl) ?_); rintro e w1 ⟨rfl, d1⟩; have D := HB.out.1.more d1; have e0 := (D.cell 0).1; have e1 := (D.cell 1).1; have e2 := (D.cell 2).1; have e3 := (D.cell 3).1; have e4 := (D.cell 4).1; have e5 := (D.cell 5).1; have e6 := (D.cell 6).1; have e7 := (D.cell 7).1; have bb := below_more HB.out.2.1 d1; have hw1 := Nat.lt_of_lt_of_le HB.out.2.2 d1.size))
          go_ret
          exact ⟨by first | rfl | simp | (simp; omega), bb⟩
  by_cases k4 : k = 4
  · subst k4
    rw [if_neg (by decide), if_neg (by decide), if_pos (by decide)] at hr
    cases hm0 : (nm.toList == []) with
    | false =>
      have hr' : r = false := by rw [← hr]; simp [hm0]
      subst hr'
      clear hr
      go_enter Tryz.func38, Tryz.ntmps38
      go_wp2_with (first
        | (go_at_call 64; (with_reducible refine Calls.mono (EQ _ HB.out.2.1 _ rfl) ?_); rintro e w1 ⟨rfl, d1⟩; have D := HB.out.1.more d1; have e0 := (D.cell 0).1; have e1 := (D.cell 1).1; have e2 := (D.cell 2).1; have e3 := (D.cell 3).1; have e4 := (D.cell 4).1; have e5 := (D.cell 5).1; have e6 := (D.cell 6).1; have e7 := (D.cell 7).1; have bb := below_more HB.out.2.1 d1; have hw1 := Nat.lt_of_lt_of_le HB.out.2.2 d1.size))
      go_ret
      exact ⟨by first | rfl | simp | (simp; omega), bb⟩
    | true =>
      cases hn0 : nb with
      | false =>
        have hr' : r = false := by rw [← hr]; simp [hm0, hn0]
        subst hr'
        clear hr
        go_enter Tryz.func38, Tryz.ntmps38
        go_wp2_with (first
          | (go_at_call 64; (with_reducible refine Calls.mono (EQ _ HB.out.2.1 _ rfl) ?_); rintro e w1 ⟨rfl, d1⟩; have D := HB.out.1.more d1; have e0 := (D.cell 0).1; have e1 := (D.cell 1).1; have e2 := (D.cell 2).1; have e3 := (D.cell 3).1; have e4 := (D.cell 4).1; have e5 := (D.cell 5).1; have e6 := (D.cell 6).1; have e7 := (D.cell 7).1; have bb := below_more HB.out.2.1 d1; have hw1 := Nat.lt_of_lt_of_le HB.out.2.2 d1.size))
        go_ret
        exact ⟨by first | rfl | simp | (simp; omega), bb⟩
      | true =>
        cases hx0 : (x == 0) with
        | false =>
          have hr' : r = false := by rw [← hr]; simp [hm0, hn0, hx0]
          subst hr'
          clear hr
          go_enter Tryz.func38, Tryz.ntmps38
          go_wp2_with (first
            | (go_at_call 64; (with_reducible refine Calls.mono (EQ _ HB.out.2.1 _ rfl) ?_); rintro e w1 ⟨rfl, d1⟩; have D := HB.out.1.more d1; have e0 := (D.cell 0).1; have e1 := (D.cell 1).1; have e2 := (D.cell 2).1; have e3 := (D.cell 3).1; have e4 := (D.cell 4).1; have e5 := (D.cell 5).1; have e6 := (D.cell 6).1; have e7 := (D.cell 7).1; have bb := below_more HB.out.2.1 d1; have hw1 := Nat.lt_of_lt_of_le HB.out.2.2 d1.size))
          go_ret
          exact ⟨by first | rfl | simp | (simp; omega), bb⟩
        | true =>
          have hr' : r = true := by rw [← hr]; simp [hm0, hn0, hx0]
          subst hr'
          clear hr
          go_enter Tryz.func38, Tryz.ntmps38
          go_wp2_with (first
            | (go_at_call 64; (with_reducible refine Calls.mono (EQ _ HB.out.2.1 _ rfl) ?_); rintro e w1 ⟨rfl, d1⟩; have D := HB.out.1.more d1; have e0 := (D.cell 0).1; have e1 := (D.cell 1).1; have e2 := (D.cell 2).1; have e3 := (D.cell 3).1; have e4 := (D.cell 4).1; have e5 := (D.cell 5).1; have e6 := (D.cell 6).1; have e7 := (D.cell 7).1; have bb := below_more HB.out.2.1 d1; have hw1 := Nat.lt_of_lt_of_le HB.out.2.2 d1.size))
          go_ret
          exact ⟨by first | rfl | simp | (simp; omega), bb⟩
  by_cases k5 : k = 5
  · subst k5
    rw [if_neg (by decide), if_neg (by decide), if_pos (by decide)] at hr
    cases hm0 : (nm.toList == []) with
    | false =>
      have hr' : r = false := by rw [← hr]; simp [hm0]
      subst hr'
      clear hr
      go_enter Tryz.func38, Tryz.ntmps38
      go_wp2_with (first
        | (go_at_call 64; (with_reducible refine Calls.mono (EQ _ HB.out.2.1 _ rfl) ?_); rintro e w1 ⟨rfl, d1⟩; have D := HB.out.1.more d1; have e0 := (D.cell 0).1; have e1 := (D.cell 1).1; have e2 := (D.cell 2).1; have e3 := (D.cell 3).1; have e4 := (D.cell 4).1; have e5 := (D.cell 5).1; have e6 := (D.cell 6).1; have e7 := (D.cell 7).1; have bb := below_more HB.out.2.1 d1; have hw1 := Nat.lt_of_lt_of_le HB.out.2.2 d1.size))
      go_ret
      exact ⟨by first | rfl | simp | (simp; omega), bb⟩
    | true =>
      cases hn0 : nb with
      | false =>
        have hr' : r = false := by rw [← hr]; simp [hm0, hn0]
        subst hr'
        clear hr
        go_enter Tryz.func38, Tryz.ntmps38
        go_wp2_with (first
          | (go_at_call 64; (with_reducible refine Calls.mono (EQ _ HB.out.2.1 _ rfl) ?_); rintro e w1 ⟨rfl, d1⟩; have D := HB.out.1.more d1; have e0 := (D.cell 0).1; have e1 := (D.cell 1).1; have e2 := (D.cell 2).1; have e3 := (D.cell 3).1; have e4 := (D.cell 4).1; have e5 := (D.cell 5).1; have e6 := (D.cell 6).1; have e7 := (D.cell 7).1; have bb := below_more HB.out.2.1 d1; have hw1 := Nat.lt_of_lt_of_le HB.out.2.2 d1.size))
        go_ret
        exact ⟨by first | rfl | simp | (simp; omega), bb⟩
      | true =>
        cases hx0 : (x == 0) with
        | false =>
          have hr' : r = false := by rw [← hr]; simp [hm0, hn0, hx0]
          subst hr'
          clear hr
          go_enter Tryz.func38, Tryz.ntmps38
          go_wp2_with (first
            | (go_at_call 64; (with_reducible refine Calls.mono (EQ _ HB.out.2.1 _ rfl) ?_); rintro e w1 ⟨rfl, d1⟩; have D := HB.out.1.more d1; have e0 := (D.cell 0).1; have e1 := (D.cell 1).1; have e2 := (D.cell 2).1; have e3 := (D.cell 3).1; have e4 := (D.cell 4).1; have e5 := (D.cell 5).1; have e6 := (D.cell 6).1; have e7 := (D.cell 7).1; have bb := below_more HB.out.2.1 d1; have hw1 := Nat.lt_of_lt_of_le HB.out.2.2 d1.size))
          go_ret
          exact ⟨by first | rfl | simp | (simp; omega), bb⟩
        | true =>
          have hr' : r = true := by rw [← hr]; simp [hm0, hn0, hx0]
          subst hr'
          clear hr
          go_enter Tryz.func38, Tryz.ntmps38
          go_wp2_with (first
            | (go_at_call 64; (with_reducible refine Calls.mono (EQ _ HB.out.2.1 _ rfl) ?_); rintro e w1 ⟨rfl, d1⟩; have D := HB.out.1.more d1; have e0 := (D.cell 0).1; have e1 := (D.cell 1).1; have e2 := (D.cell 2).1; have e3 := (D.cell 3).1; have e4 := (D.cell 4).1; have e5 := (D.cell 5).1; have e6 := (D.cell 6).1; have e7 := (D.cell 7).1; have bb := below_more HB.out.2.1 d1; have hw1 := Nat.lt_of_lt_of_le HB.out.2.2 d1.size))
          go_ret
          exact ⟨by first | rfl | simp | (simp; omega), bb⟩
  by_cases k6 : k = 6
  · subst k6
    rw [if_neg (by decide), if_neg (by decide), if_neg (by decide), if_pos (by decide)] at hr
    cases hm0 : (nm.toList == []) with
    | false =>
      have hr' : r = false := by rw [← hr]; simp [hm0]
      subst hr'
      clear hr
      go_enter Tryz.func38, Tryz.ntmps38
      go_wp2_with (first
        | (go_at_call 64; (with_reducible refine Calls.mono (EQ _ HB.out.2.1 _ rfl) ?_); rintro e w1 ⟨rfl, d1⟩; have D := HB.out.1.more d1; have e0 := (D.cell 0).1; have e1 := (D.cell 1).1; have e2 := (D.cell 2).1; have e3 := (D.cell 3).1; have e4 := (D.cell 4).1; have e5 := (D.cell 5).1; have e6 := (D.cell 6).1; have e7 := (D.cell 7).1; have bb := below_more HB.out.2.1 d1; have hw1 := Nat.lt_of_lt_of_le HB.out.2.2 d1.size))
      go_ret
      exact ⟨by first | rfl | simp | (simp; omega), bb⟩
    | true =>
      cases hn0 : nb with
      | false =>
        have hr' : r = false := by rw [← hr]; simp [hm0, hn0]
        subst hr'
        clear hr
        go_enter Tryz.func38, Tryz.ntmps38
        go_wp2_with (first
          | (go_at_call 64; (with_reducible refine Calls.mono (EQ _ HB.out.2.1 _ rfl) ?_); rintro e w1 ⟨rfl, d1⟩; have D := HB.out.1.more d1; have e0 := (D.cell 0).1; have e1 := (D.cell 1).1; have e2 := (D.cell 2).1; have e3 := (D.cell 3).1; have e4 := (D.cell 4).1; have e5 := (D.cell 5).1; have e6 := (D.cell 6).1; have e7 := (D.cell 7).1; have bb := below_more HB.out.2.1 d1; have hw1 := Nat.lt_of_lt_of_le HB.out.2.2 d1.size))
        go_ret
        exact ⟨by first | rfl | simp | (simp; omega), bb⟩
      | true =>
        cases hb : (b == 0) with
        | false =>
          have hr' : r = false := by rw [← hr]; simp [hm0, hn0, hb]
          subst hr'
          clear hr
          go_enter Tryz.func38, Tryz.ntmps38
          go_wp2_with (first
            | (go_at_call 64; (with_reducible refine Calls.mono (EQ _ HB.out.2.1 _ rfl) ?_); rintro e w1 ⟨rfl, d1⟩; have D := HB.out.1.more d1; have e0 := (D.cell 0).1; have e1 := (D.cell 1).1; have e2 := (D.cell 2).1; have e3 := (D.cell 3).1; have e4 := (D.cell 4).1; have e5 := (D.cell 5).1; have e6 := (D.cell 6).1; have e7 := (D.cell 7).1; have bb := below_more HB.out.2.1 d1; have hw1 := Nat.lt_of_lt_of_le HB.out.2.2 d1.size))
          go_ret
          exact ⟨by first | rfl | simp | (simp; omega), bb⟩
        | true =>
          cases hx0 : (x == 0) with
          | false =>
            have hr' : r = false := by rw [← hr]; simp [hm0, hn0, hb, hx0]
            subst hr'
            clear hr
            go_enter Tryz.func38, Tryz.ntmps38
            go_wp2_with (first
              | (go_at_call 64; (with_reducible refine Calls.mono (EQ _ HB.out.2.1 _ rfl) ?_); rintro e w1 ⟨rfl, d1⟩; have D := HB.out.1.more d1; have e0 := (D.cell 0).1; have e1 := (D.cell 1).1; have e2 := (D.cell 2).1; have e3 := (D.cell 3).1; have e4 := (D.cell 4).1; have e5 := (D.cell 5).1; have e6 := (D.cell 6).1; have e7 := (D.cell 7).1; have bb := below_more HB.out.2.1 d1; have hw1 := Nat.lt_of_lt_of_le HB.out.2.2 d1.size))
            go_ret
            exact ⟨by first | rfl | simp | (simp; omega), bb⟩
          | true =>
            have hr' : r = true := by rw [← hr]; simp [hm0, hn0, hb, hx0]
            subst hr'
            clear hr
            go_enter Tryz.func38, Tryz.ntmps38
            go_wp2_with (first
              | (go_at_call 64; (with_reducible refine Calls.mono (EQ _ HB.out.2.1 _ rfl) ?_); rintro e w1 ⟨rfl, d1⟩; have D := HB.out.1.more d1; have e0 := (D.cell 0).1; have e1 := (D.cell 1).1; have e2 := (D.cell 2).1; have e3 := (D.cell 3).1; have e4 := (D.cell 4).1; have e5 := (D.cell 5).1; have e6 := (D.cell 6).1; have e7 := (D.cell 7).1; have bb := below_more HB.out.2.1 d1; have hw1 := Nat.lt_of_lt_of_le HB.out.2.2 d1.size))
            go_ret
            exact ⟨by first | rfl | simp | (simp; omega), bb⟩
  by_cases k7 : k = 7
  · subst k7
    rw [if_neg (by decide), if_neg (by decide), if_neg (by decide), if_neg (by decide), if_pos (by decide)] at hr
    cases hm0 : (nm.toList == []) with
    | false =>
      have hr' : r = false := by rw [← hr]; simp [hm0]
      subst hr'
      clear hr
      go_enter Tryz.func38, Tryz.ntmps38
      go_wp2_with (first
        | (go_at_call 64; (with_reducible refine Calls.mono (EQ _ HB.out.2.1 _ rfl) ?_); rintro e w1 ⟨rfl, d1⟩; have D := HB.out.1.more d1; have e0 := (D.cell 0).1; have e1 := (D.cell 1).1; have e2 := (D.cell 2).1; have e3 := (D.cell 3).1; have e4 := (D.cell 4).1; have e5 := (D.cell 5).1; have e6 := (D.cell 6).1; have e7 := (D.cell 7).1; have bb := below_more HB.out.2.1 d1; have hw1 := Nat.lt_of_lt_of_le HB.out.2.2 d1.size))
      go_ret
      exact ⟨by first | rfl | simp | (simp; omega), bb⟩
    | true =>
      cases hn0 : nb with
      | false =>
        have hr' : r = false := by rw [← hr]; simp [hm0, hn0]
        subst hr'
        clear hr
        go_enter Tryz.func38, Tryz.ntmps38
        go_wp2_with (first
          | (go_at_call 64; (with_reducible refine Calls.mono (EQ _ HB.out.2.1 _ rfl) ?_); rintro e w1 ⟨rfl, d1⟩; have D := HB.out.1.more d1; have e0 := (D.cell 0).1; have e1 := (D.cell 1).1; have e2 := (D.cell 2).1; have e3 := (D.cell 3).1; have e4 := (D.cell 4).1; have e5 := (D.cell 5).1; have e6 := (D.cell 6).1; have e7 := (D.cell 7).1; have bb := below_more HB.out.2.1 d1; have hw1 := Nat.lt_of_lt_of_le HB.out.2.2 d1.size))
        go_ret
        exact ⟨by first | rfl | simp | (simp; omega), bb⟩
      | true =>
        cases hb : (b == 0) with
        | false =>
          have hr' : r = false := by rw [← hr]; simp [hm0, hn0, hb]
          subst hr'
          clear hr
          go_enter Tryz.func38, Tryz.ntmps38
          go_wp2_with (first
            | (go_at_call 64; (with_reducible refine Calls.mono (EQ _ HB.out.2.1 _ rfl) ?_); rintro e w1 ⟨rfl, d1⟩; have D := HB.out.1.more d1; have e0 := (D.cell 0).1; have e1 := (D.cell 1).1; have e2 := (D.cell 2).1; have e3 := (D.cell 3).1; have e4 := (D.cell 4).1; have e5 := (D.cell 5).1; have e6 := (D.cell 6).1; have e7 := (D.cell 7).1; have bb := below_more HB.out.2.1 d1; have hw1 := Nat.lt_of_lt_of_le HB.out.2.2 d1.size))
          go_ret
          exact ⟨by first | rfl | simp | (simp; omega), bb⟩
        | true =>
          cases he1 : decide (-20 ≤ x) with
          | false =>
            have hr' : r = false := by rw [← hr]; simp [hm0, hn0, hb, he1]
            subst hr'
            clear hr
            have k20 : ¬ (-20 ≤ x) := decide_eq_false_iff_not.1 he1
            go_enter Tryz.func38, Tryz.ntmps38
            go_wp2_with (first
              | (go_at_call 64; (with_reducible refine Calls.mono (EQ _ HB.out.2.1 _ rfl) ?_); rintro e w1 ⟨rfl, d1⟩; have D := HB.out.1.more d1; have e0 := (D.cell 0).1; have e1 := (D.cell 1).1; have e2 := (D.cell 2).1; have e3 := (D.cell 3).1; have e4 := (D.cell 4).1; have e5 := (D.cell 5).1; have e6 := (D.cell 6).1; have e7 := (D.cell 7).1; have bb := below_more HB.out.2.1 d1; have hw1 := Nat.lt_of_lt_of_le HB.out.2.2 d1.size))
            go_ret
            exact ⟨by first | rfl | simp | (simp; omega), bb⟩
          | true =>
            have k20 : -20 ≤ x := decide_eq_true_iff.1 he1
            cases he2 : decide (x ≤ 20) with
            | false =>
              have hr' : r = false := by rw [← hr]; simp [hm0, hn0, hb, he1, he2]
              subst hr'
              clear hr
              have k21 : ¬ (x ≤ 20) := decide_eq_false_iff_not.1 he2
              go_enter Tryz.func38, Tryz.ntmps38
              go_wp2_with (first
                | (go_at_call 64; (with_reducible refine Calls.mono (EQ _ HB.out.2.1 _ rfl) ?_); rintro e w1 ⟨rfl, d1⟩; have D := HB.out.1.more d1; have e0 := (D.cell 0).1; have e1 := (D.cell 1).1; have e2 := (D.cell 2).1; have e3 := (D.cell 3).1; have e4 := (D.cell 4).1; have e5 := (D.cell 5).1; have e6 := (D.cell 6).1; have e7 := (D.cell 7).1; have bb := below_more HB.out.2.1 d1; have hw1 := Nat.lt_of_lt_of_le HB.out.2.2 d1.size))
              go_ret
              exact ⟨by first | rfl | simp | (simp; omega), bb⟩
            | true =>
              have k21 : x ≤ 20 := decide_eq_true_iff.1 he2
              have hr' : r = true := by rw [← hr]; simp [hm0, hn0, hb, he1, he2]
              subst hr'
              clear hr
              go_enter Tryz.func38, Tryz.ntmps38
              go_wp2_with (first
                | (go_at_call 64; (with_reducible refine Calls.mono (EQ _ HB.out.2.1 _ rfl) ?_); rintro e w1 ⟨rfl, d1⟩; have D := HB.out.1.more d1; have e0 := (D.cell 0).1; have e1 := (D.cell 1).1; have e2 := (D.cell 2).1; have e3 := (D.cell 3).1; have e4 := (D.cell 4).1; have e5 := (D.cell 5).1; have e6 := (D.cell 6).1; have e7 := (D.cell 7).1; have bb := below_more HB.out.2.1 d1; have hw1 := Nat.lt_of_lt_of_le HB.out.2.2 d1.size))
              go_ret
              exact ⟨by first | rfl | simp | (simp; omega), bb⟩
  have hr' : r = false := by
    rw [← hr, if_neg k0, if_neg k1, if_neg (by omega), if_neg k6, if_neg k7]
  subst hr'
  have g0 : (k == 0) = false := by rw [beq_eq_false_iff_ne]; exact k0
  have g1 : (k == 1) = false := by rw [beq_eq_false_iff_ne]; exact k1
  have g6 : (k == 6) = false := by rw [beq_eq_false_iff_ne]; exact k6
  have g7 : (k == 7) = false := by rw [beq_eq_false_iff_ne]; exact k7
  by_cases j2 : 2 ≤ k
  · have j5 : ¬ k ≤ 5 := by omega
    clear hr k0 k1 k2 k3 k4 k5 k6 k7
    go_enter Tryz.func38, Tryz.ntmps38
    go_wp2_with (first
      | (go_at_call 64; (with_reducible refine Calls.mono (EQ _ HB.out.2.1 _ rfl) ?_); rintro e w1 ⟨rfl, d1⟩; have D := HB.out.1.more d1; have e0 := (D.cell 0).1; have e1 := (D.cell 1).1; have e2 := (D.cell 2).1; have e3 := (D.cell 3).1; have e4 := (D.cell 4).1; have e5 := (D.cell 5).1; have e6 := (D.cell 6).1; have e7 := (D.cell 7).1; have bb := below_more HB.out.2.1 d1; have hw1 := Nat.lt_of_lt_of_le HB.out.2.2 d1.size))
    go_ret
    exact ⟨by first | rfl | simp | (simp; omega), bb⟩
  · have j3 : decide (2 ≤ k) = false := decide_eq_false j2
    clear hr k0 k1 k2 k3 k4 k5 k6 k7 j2
    go_enter Tryz.func38, Tryz.ntmps38
    go_wp2_with (first
      | (go_at_call 64; (with_reducible refine Calls.mono (EQ _ HB.out.2.1 _ rfl) ?_); rintro e w1 ⟨rfl, d1⟩; have D := HB.out.1.more d1; have e0 := (D.cell 0).1; have e1 := (D.cell 1).1; have e2 := (D.cell 2).1; have e3 := (D.cell 3).1; have e4 := (D.cell 4).1; have e5 := (D.cell 5).1; have e6 := (D.cell 6).1; have e7 := (D.cell 7).1; have bb := below_more HB.out.2.1 d1; have hw1 := Nat.lt_of_lt_of_le HB.out.2.2 d1.size))
    go_ret
    exact ⟨by first | rfl | simp | (simp; omega), bb⟩
end Go.Proofs.YtbcfplaalepnbaaGreatDoor
namespace Go.Proofs.YtbcfplaalepnbaaGreatDoor
open Go.RowKit Go.Lib
theorem ref_sname_any {s : ByteArray} (r : Bool) (hr : nameB s = r) (w : World) :
    Calls Tryz.prog 39 #[.string s] w fun e w' => e = .returned (.bool r) ∧ w = w' := by
  by_cases hs : s.size ≤ 1000000
  · exact ref_sname hs r hr w
  · unfold nameB at hr
    obtain rfl : r = false := by rw [← hr, decide_eq_false (by omega)]; rfl
    have k1 : ¬ (s.size : Int) < 1 := by omega
    have k2 : 40 < (s.size : Int) := by omega
    clear hr hs
    go_enter Tryz.func39, Tryz.ntmps39
    go_wp2
    go_ret
    exact ⟨rfl, rfl⟩
set_option maxHeartbeats 8000000 in
theorem ref_tlist {w : World} {a : Option Addr} {n c : Nat} {xs : List ByteArray} (h : IsS w a n xs) (r : Bool) (hr : (decide (1 ≤ n) && decide (n ≤ 40) && xs.all nameB) = r) :
    Calls Tryz.prog 37 #[.slice a n c, .int .i64 1] w fun e w' => e = .returned (.bool r) ∧ Below w.heap.size w w' := by
  by_cases h1 : 1 ≤ n
  case neg =>
    have k1 : (n : Int) < 1 := by omega
    obtain rfl : r = false := by rw [← hr, decide_eq_false h1]; rfl
    clear hr h
    go_enter Tryz.func37, Tryz.ntmps37
    go_wp2
    go_ret
    exact ⟨rfl, Below.refl _ _⟩
  have k1 : ¬ (n : Int) < 1 := by omega
  by_cases h2 : n ≤ 40
  case neg =>
    have k2 : 40 < (n : Int) := by omega
    obtain rfl : r = false := by rw [← hr, decide_eq_false h2]; simp
    clear hr h h1 h2
    go_enter Tryz.func37, Tryz.ntmps37
    go_wp2
    go_ret
    exact ⟨rfl, Below.refl _ _⟩
  have k2 : ¬ 40 < (n : Int) := by omega
  rw [decide_eq_true h1, decide_eq_true h2, Bool.true_and, Bool.true_and] at hr
  have HH : Hid (xs.length = n ∧ IsS w a n xs ∧ n ≤ 40 ∧ xs.all nameB = r) := ⟨h.1, h, h2, hr⟩
  clear h hr h1 h2
  go_enter Tryz.func37, Tryz.ntmps37
  go_wp2
  go_loopg [5] n (fun g s5 v => ∃ t : Nat, s5 = .int .i64 t ∧ t + g = n ∧ (∀ j x, j < t → xs[j]? = some x → nameB x = true) ∧ Below w.heap.size w v)
  case atStart => exact ⟨0, rfl, by omega, fun j x hj => absurd hj (by omega), Below.refl _ _⟩
  case round =>
    obtain ⟨t, rfl, hg, hN, bw⟩ := hrel
    obtain ⟨hl, hc, hn, hr⟩ := HH.out
    rcases Nat.lt_or_ge t n with ht | ht
    · have p1 : (t : Int) < n := by omega
      obtain ⟨x, hx⟩ : ∃ x, xs[t]? = some x := ⟨_, List.getElem?_eq_getElem (by omega)⟩
      obtain ⟨g1, o1, rfl, c1⟩ := (hc.below bw).2.resolve_left (by omega)
      have c1 := c1 t x hx
      cases hb : nameB x with
      | false =>
        have hrf : r = false := by
          rw [← hr, List.all_eq_false]
          exact ⟨x, List.mem_of_getElem? hx, by rw [hb]; simp⟩
        subst hrf
        have SN := fun v => ref_sname_any (s := x) false hb v
        have HB : Hid (Below w.heap.size w wr) := bw
        clear hg hN bw hl hc hn hr hx hb HH
        go_wp2_with (go_at_call 39; (with_reducible refine Calls.mono (SN _) ?_); rintro e w2 ⟨rfl, rfl⟩)
        go_ret
        exact ⟨rfl, HB.out⟩
      | true =>
        have SN := fun v => ref_sname_any (s := x) true hb v
        have WT : Hid (wrap64 ((t : Int) + 1) = (t : Int) + 1) := wrap_smalls (by omega) (by omega)
        have HN : Hid ((∀ j y, j < t + 1 → xs[j]? = some y → nameB y = true) ∧ t + 1 + (n - (t + 1)) = n ∧ n - (t + 1) < gk ∧ Below w.heap.size w wr) := ⟨fun j y hj hy => by
          rcases Nat.lt_or_ge j t with q | q
          · exact hN j y q hy
          · obtain rfl : j = t := by omega
            rw [hx] at hy
            injection hy with hy
            rw [← hy]; exact hb, by omega, by omega, bw⟩
        clear hg hN bw hl hc hn hr hx hb HH
        have wT := WT.out
        go_wp2_with (go_at_call 39; (with_reducible refine Calls.mono (SN _) ?_); rintro e w2 ⟨rfl, rfl⟩)
        obtain ⟨j1, j2, j3, j4⟩ := HN.out
        go_roundg (n - (t + 1))
        case measure => exact j3
        case rel => exact ⟨t + 1, by first | rfl | (rw [wT]; rfl), j2, j1, j4⟩
    · have p1 : ¬ (t : Int) < n := by omega
      have e : t = n := by omega
      have hrt : r = true := by
        rw [← hr, List.all_eq_true]
        intro x hx
        obtain ⟨j, hj, he⟩ := List.getElem_of_mem hx
        exact hN j x (by omega) (by rw [List.getElem?_eq_getElem hj, he])
      subst hrt
      clear hg hN hn hr hl hc HH e ht
      go_wp2
      go_ret
      exact ⟨rfl, bw⟩
theorem single_begin {m0 : List Nw} (hf : ∀ m ∈ m0, fillR m = true) {f k : Nat} (hfk : f ≤ k) : sgB (m0.take (k + 1)) (k + 1) f = decide (beginF (m0.map Nw.nd) f (k + 1) k = f) := by
  have hk : ∀ n ∈ m0.map Nw.nd, 0 ≤ n.kind ∧ n.kind ≤ 7 := fun n hn => by
    obtain ⟨m, hm, rfl⟩ := List.mem_map.1 hn
    exact fill_kind (hf m hm)
  cases h : sgB (m0.take (k + 1)) (k + 1) f with
  | true => rw [decide_eq_true (begin_seg (single_seg hfk h) f (Nat.le_refl _) (k + 1) (Nat.le_refl _))]
  | false =>
    symm
    rw [decide_eq_false_iff_not]
    intro e
    rw [seg_single hf (seg_begin hk (k + 1) k f e (Nat.le_refl _))] at h
    exact absurd h (by simp)
theorem rgt_doc {ins outs : List ByteArray} {ls : List (ByteArray × Int)} {ms : List Nw} : rgtB ins outs ls ms = ((decide (1 ≤ ins.length) && decide (ins.length ≤ 40) && ins.all nameB) && (decide (1 ≤ outs.length) && decide (outs.length ≤ 40) && outs.all nameB) && decide (ls.length ≤ 40) && decide (ms.length ≤ 400) && grF ms ls 0 && lowB (ms.map Nw.nd)) := by
  unfold rgtB fewB
  rw [show decide (0 < ins.length) = decide (1 ≤ ins.length) from rfl, show decide (0 < outs.length) = decide (1 ≤ outs.length) from rfl]
  cases decide (ms.length ≤ 400) <;> cases decide (ins.length ≤ 40) <;> cases decide (ls.length ≤ 40) <;> cases decide (outs.length ≤ 40) <;> cases decide (1 ≤ ins.length) <;> cases decide (1 ≤ outs.length) <;> cases ins.all nameB <;> cases outs.all nameB <;> simp
end Go.Proofs.YtbcfplaalepnbaaGreatDoor
namespace Go.Proofs.YtbcfplaalepnbaaGreatDoor
open Go.RowKit Go.Lib
theorem grF_nil (ms : List Nw) (fr : Int) : grF ms [] fr = decide (fr = ms.length) := rfl
theorem grF_cons (ms : List Nw) (l : ByteArray × Int) (ls : List (ByteArray × Int)) (fr : Int) : grF ms (l :: ls) fr = (nameB l.1 && decide (fr ≤ l.2) && decide (l.2 < ms.length) && sgB (ms.take (l.2.toNat + 1)) (l.2.toNat + 1) fr.toNat && grF ms ls (l.2 + 1)) := rfl
theorem drop_at {α : Type} {l : List α} {t : Nat} {x : α} (h : l[t]? = some x) : l.drop t = x :: l.drop (t + 1) := by
  obtain ⟨ht, e⟩ := List.getElem?_eq_some_iff.1 h
  rw [List.drop_eq_getElem_cons ht, e]
set_option maxRecDepth 100000 in
set_option maxHeartbeats 128000000 in
theorem ref_tRight {w : World} {ia la oa a : Option Addr} {il ic ln lc ol oc n c : Nat} {ins outs : List ByteArray} {ls : List (ByteArray × Int)} {ms : List Mn} (h : PgR w ia la oa a il ln ol n c ins outs ls ms) (hS : ∀ m ∈ ms, m.1.xs.length ≤ 3000 ∧ m.1.ys.length ≤ 3000) (r : Bool) (hr : rgtB ins outs ls (ms.map (·.1)) = r) :
    Calls Tryz.prog 14 #[.agg #[.slice ia il ic, .slice la ln lc, .slice oa ol oc, .slice a n c]] w fun e w' => e = .returned (.bool r) ∧ Below w.heap.size w w' := by
  obtain ⟨B1, bV, hs⟩ := boxes1 w #[.slice ia il ic, .slice la ln lc, .slice oa ol oc, .slice a n c] 27
  have hlen : (ms.map (·.1)).length = n := by rw [List.length_map]; exact h.hall.1
  have hnd : (ms.map (·.1)).map Nw.nd = ms.map fun m => m.1.nd := by rw [List.map_map]; rfl
  rw [rgt_doc, hlen, h.hins.1, h.houts.1, h.hlets.1] at hr
  have CB : Hid (∀ v, Below (w.alloc (.cells #[.slice ia il ic, .slice la ln lc, .slice oa ol oc, .slice a n c] 27)).heap.size (w.alloc (.cells #[.slice ia il ic, .slice la ln lc, .slice oa ol oc, .slice a n c] 27)) v → v.cell? ⟨w.heap.size, 0, none⟩ = some (.slice ia il ic) ∧ v.cell? ⟨w.heap.size, 1, none⟩ = some (.slice la ln lc) ∧ v.cell? ⟨w.heap.size, 2, none⟩ = some (.slice oa ol oc) ∧ v.cell? ⟨w.heap.size, 3, none⟩ = some (.slice a n c)) := fun v b => ⟨((B1.more b).cell 0).1, ((B1.more b).cell 1).1, ((B1.more b).cell 2).1, ((B1.more b).cell 3).1⟩
  have HV : Hid (Below w.heap.size w (w.alloc (.cells #[.slice ia il ic, .slice la ln lc, .slice oa ol oc, .slice a n c] 27))) := bV
  have HP : Hid (PgR w ia la oa a il ln ol n c ins outs ls ms ∧ (∀ m ∈ ms, m.1.xs.length ≤ 3000 ∧ m.1.ys.length ≤ 3000) ∧ (ms.map (·.1)).length = n ∧ (ms.map (·.1)).map Nw.nd = ms.map fun m => m.1.nd) := ⟨h, hS, hlen, hnd⟩
  have L1 := fun (q : Bool) (hq : (decide (1 ≤ il) && decide (il ≤ 40) && ins.all nameB) = q) => ref_tlist (c := ic) (h.hins.below bV) q hq
  have L2 := fun (q : Bool) (hq : (decide (1 ≤ ol) && decide (ol ≤ 40) && outs.all nameB) = q) (v : World) (b : Below w.heap.size w v) => ref_tlist (c := oc) (h.houts.below b) q hq
  have x00 := (B1.cell 0).1
  clear h hS hlen hnd B1 bV hs
  have hv1 : (decide (1 ≤ il) && decide (il ≤ 40) && ins.all nameB) = true → il ≤ 40 := fun h => by simp only [Bool.and_eq_true, decide_eq_true_eq] at h; exact h.1.2
  have hv2 : (decide (1 ≤ ol) && decide (ol ≤ 40) && outs.all nameB) = true → ol ≤ 40 := fun h => by simp only [Bool.and_eq_true, decide_eq_true_eq] at h; exact h.1.2
  generalize (decide (1 ≤ il) && decide (il ≤ 40) && ins.all nameB) = v1 at *
  generalize (decide (1 ≤ ol) && decide (ol ≤ 40) && outs.all nameB) = v2 at *
  cases v1 with
  | false =>
    obtain rfl : r = false := by rw [← hr]; rfl
    clear hr hv1 hv2
    go_enter Tryz.func14, Tryz.ntmps14
    go_wp2_with (first
      | (go_at_call 37; (with_reducible refine Calls.mono (L1 false rfl) ?_); rintro e w1 ⟨rfl, d1⟩; have b1 := below_more HV.out d1; obtain ⟨x0, x1, x2, x3⟩ := CB.out w1 d1)
      | (go_at_call 37; (with_reducible refine Calls.mono (L2 v2 rfl _ b1) ?_); rintro e w2 ⟨rfl, d2⟩; have d12 := below_more d1 d2; have b2 := below_more b1 d2; obtain ⟨z0, z1, z2, z3⟩ := CB.out w2 d12))
    go_ret
    exact ⟨rfl, b2⟩
  | true =>
  cases v2 with
  | false =>
    obtain rfl : r = false := by rw [← hr]; rfl
    clear hr hv1 hv2
    go_enter Tryz.func14, Tryz.ntmps14
    go_wp2_with (first
      | (go_at_call 37; (with_reducible refine Calls.mono (L1 true rfl) ?_); rintro e w1 ⟨rfl, d1⟩; have b1 := below_more HV.out d1; obtain ⟨x0, x1, x2, x3⟩ := CB.out w1 d1)
      | (go_at_call 37; (with_reducible refine Calls.mono (L2 false rfl _ b1) ?_); rintro e w2 ⟨rfl, d2⟩; have d12 := below_more d1 d2; have b2 := below_more b1 d2; obtain ⟨z0, z1, z2, z3⟩ := CB.out w2 d12))
    go_ret
    exact ⟨rfl, b2⟩
  | true =>
  rw [Bool.true_and, Bool.true_and] at hr
  have HL : Hid (il ≤ 40 ∧ ol ≤ 40) := ⟨hv1 rfl, hv2 rfl⟩
  clear hv1 hv2
  by_cases hl40 : ln ≤ 40
  case neg =>
    obtain rfl : r = false := by rw [← hr, decide_eq_false hl40]; rfl
    have k1 : 40 < (ln : Int) := by omega
    clear hr hl40
    go_enter Tryz.func14, Tryz.ntmps14
    go_wp2_with (first
      | (go_at_call 37; (with_reducible refine Calls.mono (L1 true rfl) ?_); rintro e w1 ⟨rfl, d1⟩; have b1 := below_more HV.out d1; obtain ⟨x0, x1, x2, x3⟩ := CB.out w1 d1)
      | (go_at_call 37; (with_reducible refine Calls.mono (L2 true rfl _ b1) ?_); rintro e w2 ⟨rfl, d2⟩; have d12 := below_more d1 d2; have b2 := below_more b1 d2; obtain ⟨z0, z1, z2, z3⟩ := CB.out w2 d12))
    go_ret
    exact ⟨rfl, b2⟩
  have k1 : ¬ 40 < (ln : Int) := by omega
  by_cases hn4 : n ≤ 400
  case neg =>
    obtain rfl : r = false := by rw [← hr, decide_eq_false hn4]; simp
    have k2 : 400 < (n : Int) := by omega
    clear hr hl40 hn4
    go_enter Tryz.func14, Tryz.ntmps14
    go_wp2_with (first
      | (go_at_call 37; (with_reducible refine Calls.mono (L1 true rfl) ?_); rintro e w1 ⟨rfl, d1⟩; have b1 := below_more HV.out d1; obtain ⟨x0, x1, x2, x3⟩ := CB.out w1 d1)
      | (go_at_call 37; (with_reducible refine Calls.mono (L2 true rfl _ b1) ?_); rintro e w2 ⟨rfl, d2⟩; have d12 := below_more d1 d2; have b2 := below_more b1 d2; obtain ⟨z0, z1, z2, z3⟩ := CB.out w2 d12))
    go_ret
    exact ⟨rfl, b2⟩
  have k2 : ¬ 400 < (n : Int) := by omega
  rw [decide_eq_true hl40, decide_eq_true hn4, Bool.true_and, Bool.true_and] at hr
  have HR : Hid ((grF (ms.map (·.1)) ls 0 && lowB ((ms.map (·.1)).map Nw.nd)) = r ∧ ln ≤ 40 ∧ n ≤ 400) := ⟨hr, hl40, hn4⟩
  clear hr hl40 hn4
  go_enter Tryz.func14, Tryz.ntmps14
  go_wp2_with (first
      | (go_at_call 37; (with_reducible refine Calls.mono (L1 true rfl) ?_); rintro e w1 ⟨rfl, d1⟩; have b1 := below_more HV.out d1; obtain ⟨x0, x1, x2, x3⟩ := CB.out w1 d1)
      | (go_at_call 37; (with_reducible refine Calls.mono (L2 true rfl _ b1) ?_); rintro e w2 ⟨rfl, d2⟩; have d12 := below_more d1 d2; have b2 := below_more b1 d2; obtain ⟨z0, z1, z2, z3⟩ := CB.out w2 d12))
  clear L1 L2 x0 x1 x2 x3 z0 z1 z2 z3 d1 d2 x00 k1 k2 b1
  have HW : Hid (Below (w.alloc (.cells #[.slice ia il ic, .slice la ln lc, .slice oa ol oc, .slice a n c] 27)).heap.size (w.alloc (.cells #[.slice ia il ic, .slice la ln lc, .slice oa ol oc, .slice a n c] 27)) w2) := d12
  clear d12 b2
  generalize w.alloc (.cells #[.slice ia il ic, .slice la ln lc, .slice oa ol oc, .slice a n c] 27) = V at *
  go_loopg [5] n (fun g s5 v => ∃ t : Nat, s5 = .int .i64 t ∧ t + g = n ∧ (∀ j m, j < t → ms[j]? = some m → fillR m.1 = true) ∧ Below V.heap.size V v)
  case atStart => exact ⟨0, rfl, by omega, fun j x hj => absurd hj (by omega), HW.out⟩
  case round =>
    obtain ⟨t, rfl, hg, hN, bw⟩ := hrel
    clear HW
    obtain ⟨x0, x1, x2, x3⟩ := CB.out _ bw
    have bW := below_more HV.out bw
    rcases Nat.lt_or_ge t n with ht | ht
    · have p1 : (t : Int) < n := by omega
      have hn4 := HR.out.2.2
      obtain ⟨m, hm⟩ : ∃ m, ms[t]? = some m := ⟨_, List.getElem?_eq_getElem (by have := HP.out.1.hall.1; omega)⟩
      have hmm := List.mem_of_getElem? hm
      obtain ⟨⟨ux, uy, hu, hw1⟩, ⟨vx, vy, hv, hw2⟩, hd1, hd2, -, -, hnm⟩ := HP.out.1.hnodes m hmm
      obtain ⟨hs1, hs2⟩ := HP.out.2.1 m hmm
      obtain ⟨gm, om, rfl, n0, n1, n2, n3, n4, n5, n6, n7⟩ := (HP.out.1.hall.below bW).node hm
      rw [hu] at n6
      rw [hv] at n7
      have FD := fun (q : Bool) (hq : fillR m.1 = q) => ref_tfields (k := m.1.kind) (a := m.1.a) (b := m.1.b) (x := m.1.exp) (nm := m.1.name) (ng := m.1.neg) (hw1.below bW) hd1 (hw2.below bW) hd2 hs1 hs2 hnm q hq
      cases hf : fillR m.1 with
      | false =>
        have hrf : r = false := by
          rw [← HR.out.1]
          cases hgr : grF (ms.map (·.1)) ls 0 with
          | false => rfl
          | true =>
            exfalso
            obtain ⟨m', h1, h2, -⟩ := gr_all (ms.map (·.1)) ls 0 (Int.le_refl _) hgr t (by omega) (by rw [HP.out.2.2.1]; exact ht)
            rw [List.getElem?_map, hm] at h1
            have : m.1 = m' := by simpa using h1
            rw [← this, hf] at h2
            exact absurd h2 (by simp)
        subst hrf
        have FD := FD false hf
        have HB : Hid (Below w.heap.size w wr) := bW
        clear hg hN bw bW hn4 hm hmm hu hv hw1 hw2 hd1 hd2 hnm hs1 hs2 hf HR ht
        generalize m.1.kind = K at *
        generalize m.1.a = A at *
        generalize m.1.b = B at *
        generalize m.1.exp = X at *
        generalize m.1.name = Y at *
        generalize m.1.neg = G at *
        generalize m.1.xs.length = lx at *
        generalize m.1.ys.length = ly at *
        go_wp2_with (go_at_call 38; (with_reducible refine Calls.mono FD ?_); rintro e w3 ⟨rfl, d3⟩)
        go_ret
        exact ⟨rfl, below_more HB.out d3⟩
      | true =>
        have FD := FD true hf
        have WT : Hid (wrap64 ((t : Int) + 1) = (t : Int) + 1) := wrap_smalls (by omega) (by omega)
        have HN : Hid ((∀ j m, j < t + 1 → ms[j]? = some m → fillR m.1 = true) ∧ t + 1 + (n - (t + 1)) = n ∧ n - (t + 1) < gk ∧ Below V.heap.size V wr) := ⟨fun j m' hj hm' => by
          rcases Nat.lt_or_ge j t with q | q
          · exact hN j m' q hm'
          · obtain rfl : j = t := by omega
            rw [hm] at hm'
            injection hm' with hm'
            rw [← hm']; exact hf, by omega, by omega, bw⟩
        clear hg hN bw bW hn4 hm hmm hu hv hw1 hw2 hd1 hd2 hnm hs1 hs2 hf ht
        generalize m.1.kind = K at *
        generalize m.1.a = A at *
        generalize m.1.b = B at *
        generalize m.1.exp = X at *
        generalize m.1.name = Y at *
        generalize m.1.neg = G at *
        generalize m.1.xs.length = lx at *
        generalize m.1.ys.length = ly at *
        have wT := WT.out
        go_wp2_with (go_at_call 38; (with_reducible refine Calls.mono FD ?_); rintro e w3 ⟨rfl, d3⟩)
        obtain ⟨j1, j2, j3, j4⟩ := HN.out
        go_roundg (n - (t + 1))
        case measure => exact j3
        case rel => exact ⟨t + 1, by first | rfl | (rw [wT]; rfl), j2, j1, below_more j4 d3⟩
    · have p1 : ¬ (t : Int) < n := by omega
      have hF : ∀ m ∈ ms.map (·.1), fillR m = true := fun m hm => by
        obtain ⟨m', hm', rfl⟩ := List.mem_map.1 hm
        obtain ⟨j, hj, he⟩ := List.getElem_of_mem hm'
        exact hN j m' (by have := HP.out.1.hall.1; omega) (by rw [List.getElem?_eq_getElem hj, he])
      have HF : Hid ((∀ m ∈ ms.map (·.1), fillR m = true) ∧ Below V.heap.size V wr) := ⟨hF, bw⟩
      clear hg hN hF bw bW ht
      go_wp2
      clear x0 x1 x2 x3 p1
      go_loopg [7, 8] ln (fun g s7 s8 v => ∃ t f : Nat, s7 = .int .i64 f ∧ s8 = .int .i64 t ∧ t + g = ln ∧ f ≤ n ∧ grF (ms.map (·.1)) (ls.drop t) f = grF (ms.map (·.1)) ls 0 ∧ Below V.heap.size V v)
      case atStart => exact ⟨0, 0, rfl, rfl, by omega, Nat.zero_le _, rfl, HF.out.2⟩
      case round =>
        obtain ⟨t, f, rfl, rfl, hg, hfn, hgr, bw⟩ := hrel
        obtain ⟨x0, x1, x2, x3⟩ := CB.out _ bw
        have bW := below_more HV.out bw
        obtain ⟨hR, hl40, hn4⟩ := HR.out
        have WF := fun (q : Nat) (hq : q ≤ n) => (wrap_smalls (x := (q : Int) + 1) (by omega) (by omega))
        rcases Nat.lt_or_ge t ln with ht | ht
        · have p1 : (t : Int) < ln := by omega
          obtain ⟨⟨nm, rt⟩, hx⟩ : ∃ x, ls[t]? = some x := ⟨_, List.getElem?_eq_getElem (by have := HP.out.1.hlets.1; omega)⟩
          obtain ⟨gl, ol', rfl, cl⟩ := (HP.out.1.hlets.below bW).2.resolve_left (by omega)
          obtain ⟨c1, c2⟩ := cl t _ hx
          dsimp only at c1 c2
          rw [drop_at hx, grF_cons] at hgr
          dsimp only at hgr
          rw [HP.out.2.2.1] at hgr
          have WT : Hid (wrap64 ((t : Int) + 1) = (t : Int) + 1) := wrap_smalls (by omega) (by omega)
          have HB : Hid (Below w.heap.size w wr) := bW
          cases hb : nameB nm with
          | false =>
            have hrf : r = false := by rw [← hR, ← hgr, hb]; simp
            subst hrf
            have SN := fun v => ref_sname_any (s := nm) false hb v
            clear hg hfn hgr bw bW hR hl40 hn4 WF cl hx hb HR ht
            go_wp2_with (go_at_call 39; (with_reducible refine Calls.mono (SN _) ?_); rintro e w3 ⟨rfl, rfl⟩)
            go_ret
            exact ⟨rfl, HB.out⟩
          | true =>
          have SN := fun v => ref_sname_any (s := nm) true hb v
          by_cases h1 : (f : Int) ≤ rt
          case neg =>
            have hrf : r = false := by rw [← hR, ← hgr, decide_eq_false h1]; simp
            subst hrf
            have k1 : rt < (f : Int) := by omega
            clear hg hfn hgr bw bW hR hl40 hn4 WF cl hx hb HR ht h1
            go_wp2_with (go_at_call 39; (with_reducible refine Calls.mono (SN _) ?_); rintro e w3 ⟨rfl, rfl⟩)
            go_ret
            exact ⟨rfl, HB.out⟩
          have k1 : ¬ rt < (f : Int) := by omega
          by_cases h2 : rt < (n : Int)
          case neg =>
            have hrf : r = false := by rw [← hR, ← hgr, decide_eq_false h2]; simp
            subst hrf
            have k2 : (n : Int) ≤ rt := by omega
            clear hg hfn hgr bw bW hR hl40 hn4 WF cl hx hb HR ht h1 h2
            go_wp2_with (go_at_call 39; (with_reducible refine Calls.mono (SN _) ?_); rintro e w3 ⟨rfl, rfl⟩)
            go_ret
            exact ⟨rfl, HB.out⟩
          have k2 : ¬ (n : Int) ≤ rt := by omega
          obtain ⟨k, rfl⟩ : ∃ k : Nat, rt = (k : Int) := ⟨rt.toNat, by omega⟩
          rw [hb, decide_eq_true h1, decide_eq_true h2, Int.toNat_natCast, Int.toNat_natCast, single_begin HF.out.1 (by omega), HP.out.2.2.2] at hgr
          have BG := ref_tbegin (c := c) (HP.out.1.hall) (by omega) (fun m hm => by
            obtain ⟨⟨x, y, e, -⟩, ⟨x', y', e', -⟩, -⟩ := HP.out.1.hnodes m hm
            exact ⟨⟨x, _, y, e⟩, ⟨x', _, y', e'⟩⟩) f (by omega) (k + 1) k h2 (Int.le_refl _) (by omega) wr bW
          generalize beginF (ms.map fun m => m.1.nd) f (k + 1) k = D at *
          by_cases hD : D = (f : Int)
          case neg =>
            have hrf : r = false := by rw [← hR, ← hgr, decide_eq_false hD]; simp
            subst hrf
            have e1 : (D == (f : Int)) = false := by rw [beq_eq_false_iff_ne]; exact hD
            have e2 : (D != (f : Int)) = true := by rw [bne, e1]; rfl
            clear hg hfn hgr bw bW hR hl40 hn4 WF cl hx hb HR ht h1 h2 hD
            go_wp2_with (first
              | (go_at_call 39; (with_reducible refine Calls.mono (SN _) ?_); rintro e w3 ⟨rfl, rfl⟩)
              | (go_at_call 40; (with_reducible refine Calls.mono BG ?_); rintro e w4 ⟨rfl, d4⟩))
            go_ret
            exact ⟨rfl, below_more HB.out d4⟩
          subst hD
          rw [decide_eq_true rfl] at hgr
          simp only [Bool.true_and] at hgr
          have WK : Hid (wrap64 ((k : Int) + 1) = (k : Int) + 1) := WF k (by omega)
          have HN : Hid (t + 1 + (ln - (t + 1)) = ln ∧ ln - (t + 1) < gk ∧ k + 1 ≤ n ∧ grF (ms.map (·.1)) (ls.drop (t + 1)) ((k + 1 : Nat) : Int) = grF (ms.map (·.1)) ls 0 ∧ Below V.heap.size V wr) := ⟨by omega, by omega, by omega, hgr, bw⟩
          clear hg hfn hgr bw bW hR hl40 hn4 WF cl hx hb ht h1 h2
          have wT := WT.out
          have wK := WK.out
          go_wp2_with (first
            | (go_at_call 39; (with_reducible refine Calls.mono (SN _) ?_); rintro e w3 ⟨rfl, rfl⟩)
            | (go_at_call 40; (with_reducible refine Calls.mono BG ?_); rintro e w4 ⟨rfl, d4⟩))
          obtain ⟨j1, j2, j3, j4, j5⟩ := HN.out
          go_roundg (ln - (t + 1))
          case measure => exact j2
          case rel => exact ⟨t + 1, k + 1, by first | rfl | (rw [wK]; rfl), by first | rfl | (rw [wT]; rfl), j1, j3, j4, below_more j5 d4⟩
        · have p1 : ¬ (t : Int) < ln := by omega
          have e : t = ln := by omega
          rw [List.drop_of_length_le (by have := HP.out.1.hlets.1; omega), grF_nil] at hgr
          rw [HP.out.2.2.1] at hgr
          by_cases hfn' : (f : Int) = (n : Int)
          case neg =>
            have hrf : r = false := by rw [← hR, ← hgr, decide_eq_false hfn']; rfl
            subst hrf
            have e1 : ((f : Int) == (n : Int)) = false := by rw [beq_eq_false_iff_ne]; exact hfn'
            have e2 : ((f : Int) != (n : Int)) = true := by rw [bne, e1]; rfl
            clear hg hfn hgr hR hl40 hn4 WF HR ht e hfn' bw
            go_wp2
            go_ret
            exact ⟨rfl, bW⟩
          rw [decide_eq_true hfn'] at hgr
          rw [← hgr, Bool.true_and] at hR
          have hB := (gr_behind hgr.symm).1
          rw [HP.out.2.2.2] at hB hR
          have LG := ref_tlong (c := c) (HP.out.1.hall.below bW) (by omega) hB (fun m hm => by
            obtain ⟨⟨x, y, e, -⟩, ⟨x', y', e', -⟩, -⟩ := HP.out.1.hnodes m hm
            exact ⟨⟨x, _, y, e⟩, ⟨x', _, y', e'⟩⟩) il ic ln lc ol oc ia la oa (!r) (by
              rw [← hR]
              have hlen' : (ms.map fun m => m.1.nd).length = n := by rw [List.length_map]; exact HP.out.1.hall.1
              have h12 := HL.out
              unfold lngB lowB
              rw [hlen', decide_eq_false (by omega : ¬ 400 < n), decide_eq_false (by omega : ¬ 40 < ln), decide_eq_false (by omega : ¬ 40 < il), decide_eq_false (by omega : ¬ 40 < ol)]
              simp)
          obtain rfl : f = n := by omega
          have HB : Hid (Below w.heap.size w wr) := bW
          clear hg hfn hgr hR hl40 hn4 WF HR ht e hfn' bw bW hB
          go_wp2_with (go_at_call 33; (with_reducible refine Calls.mono LG ?_); rintro e w5 ⟨rfl, d5⟩)
          go_ret
          exact ⟨by simp, below_more HB.out d5⟩
end Go.Proofs.YtbcfplaalepnbaaGreatDoor
namespace Go.Proofs.YtbcfplaalepnbaaGreatDoor
open Go.RowKit Go.Lib
theorem isI_nil (w : World) : IsI w none 0 [] := ⟨rfl, .inl rfl⟩
theorem OwnC.isI {W w : World} {a : Option Addr} {n c : Nat} {l : List Int} (h : OwnC 3 1 W w (.slice a n c) n (flat encI l)) : IsI w a n l := by
  obtain ⟨h1, h2⟩ := h.ints
  refine ⟨h1, h2.imp id ?_⟩
  rintro ⟨g, e, hc⟩
  exact ⟨g, 0, e, fun j x hj => by rw [Nat.zero_add]; exact hc j x hj⟩
set_option maxHeartbeats 32000000 in
theorem walk_TreeRights {ia la oa a : Option Addr} {il ic ln lc ol oc n c : Nat} {ins outs : List ByteArray} {ls : List (ByteArray × Int)} {ms : List Mn} (w : World) (h : PgC w ia la oa a il ln ol n c ins outs ls ms) (he : ErrV w) :
    Calls Tryz.prog 4 #[.agg #[.slice ia il ic, .slice la ln lc, .slice oa ol oc, .slice a n c]] w fun e w' => e = .returned (.bool true) ∧ Below w.heap.size w w' := by
  obtain ⟨B1, bV, -⟩ := boxes1 w #[.slice ia il ic, .slice la ln lc, .slice oa ol oc, .slice a n c] 27
  have AW := tree_awake _ (he.below bV)
  have CB : Hid (∀ v, Below (w.alloc (.cells #[.slice ia il ic, .slice la ln lc, .slice oa ol oc, .slice a n c] 27)).heap.size (w.alloc (.cells #[.slice ia il ic, .slice la ln lc, .slice oa ol oc, .slice a n c] 27)) v → v.cell? ⟨w.heap.size, 0, none⟩ = some (.slice ia il ic) ∧ v.cell? ⟨w.heap.size, 1, none⟩ = some (.slice la ln lc) ∧ v.cell? ⟨w.heap.size, 2, none⟩ = some (.slice oa ol oc) ∧ v.cell? ⟨w.heap.size, 3, none⟩ = some (.slice a n c)) := fun v b => ⟨((B1.more b).cell 0).1, ((B1.more b).cell 1).1, ((B1.more b).cell 2).1, ((B1.more b).cell 3).1⟩
  have HV : Hid (Below w.heap.size w (w.alloc (.cells #[.slice ia il ic, .slice la ln lc, .slice oa ol oc, .slice a n c] 27))) := bV
  have FW0 := fun (v : World) (b : Below w.heap.size w v) (q : Bool) (hq : fewQ 40 n il ln ol (ms.map (·.1)) = q) => ref_tFew (ic := ic) (lc := lc) (oc := oc) (h.below b) 40 (by omega) q hq
  cases hf : fewQ 40 n il ln ol (ms.map (·.1)) with
  | false =>
    have FW := fun v b => FW0 v b false hf
    clear FW0 hf h he B1 bV
    go_enter Tryz.func4, Tryz.ntmps4
    go_wp2_with (first
      | (go_at_call 9; (with_reducible refine Calls.mono AW ?_); rintro e w1 ⟨rfl, d1⟩; obtain ⟨x0, x1, x2, x3⟩ := CB.out w1 d1; have b1 := below_more HV.out d1)
      | (go_at_call 13; (with_reducible refine Calls.mono (FW _ b1) ?_); rintro e w2 ⟨rfl, d2⟩))
    go_ret
    exact ⟨rfl, below_more b1 d2⟩
  | true =>
  have FW := fun v b => FW0 v b true hf
  unfold fewQ at hf
  simp only [Bool.and_eq_true, decide_eq_true_eq] at hf
  obtain ⟨⟨⟨⟨hn, h8⟩, h9⟩, h10⟩, hall⟩ := hf
  obtain ⟨PR, hS⟩ := h.few hall
  have RG0 := fun (v : World) (b : Below w.heap.size w v) (q : Bool) (hq : rgtB ins outs ls (ms.map (·.1)) = q) => ref_tRight (ic := ic) (lc := lc) (oc := oc) (PR.below b) hS q hq
  have TR0 := fun (v : World) (b : Below w.heap.size w v) (q : Bool) (hq : rgtB ins outs ls (ms.map (·.1)) = q) => tree_right (ic := ic) (lc := lc) (oc := oc) (PR.below b) q hq
  have TH0 := fun (v : World) (b : Below w.heap.size w v) (q : Bool) (hq : rgtB ins outs ls (ms.map (·.1)) = q) => tree_Heights (ic := ic) (lc := lc) (oc := oc) (PR.below b) q hq
  cases hr : rgtB ins outs ls (ms.map (·.1)) with
  | false =>
    have RG := fun v b => RG0 v b false hr
    have TR := fun v b => TR0 v b false hr
    have TH := fun v b => TH0 v b false hr
    rw [if_neg (by simp)] at TH
    clear RG0 TR0 TH0 FW0 hr h he B1 bV PR hS hn h8 h9 h10 hall
    go_enter Tryz.func4, Tryz.ntmps4
    go_wp2_with (first
      | (go_at_call 9; (with_reducible refine Calls.mono AW ?_); rintro e w1 ⟨rfl, d1⟩; obtain ⟨x0, x1, x2, x3⟩ := CB.out w1 d1; have b1 := below_more HV.out d1)
      | (go_at_call 13; (with_reducible refine Calls.mono (FW _ b1) ?_); rintro e w2 ⟨rfl, d2⟩; have c2 := below_more d1 d2; obtain ⟨u0, u1, u2, u3⟩ := CB.out w2 c2; have b2 := below_more b1 d2)
      | (go_at_call 14; (with_reducible refine Calls.mono (RG _ b2) ?_); rintro e w3 ⟨rfl, d3⟩; have c3 := below_more c2 d3; obtain ⟨y0, y1, y2, y3⟩ := CB.out w3 c3; have b3 := below_more b2 d3)
      | (go_at_call 16; (with_reducible refine Calls.mono (TR _ b3) ?_); rintro e w4 ⟨rfl, d4⟩; have c4 := below_more c3 d4; obtain ⟨z0, z1, z2, z3⟩ := CB.out w4 c4; have b4 := below_more b3 d4)
      | (go_at_call 18; (with_reducible refine Calls.mono (TH _ b4) ?_); rintro e w5 ⟨ha, hm, hc, rfl, hI, d5⟩; obtain rfl : 0 = hm := hI.1)
      | (go_at_call 17; (with_reducible refine Calls.mono (ref_ints hI (isI_nil _) (by omega)) ?_); rintro e w6 ⟨rfl, d6⟩))
    go_ret
    exact ⟨rfl, below_more b4 (below_more d5 d6)⟩
  | true =>
    have RG := fun v b => RG0 v b true hr
    have TR := fun v b => TR0 v b true hr
    have TH := fun v b => TH0 v b true hr
    rw [if_pos rfl] at TH
    have hB := (gr_behind (ms := ms.map (·.1)) (ls := ls) (by
      rw [rgt_doc] at hr
      simp only [Bool.and_eq_true] at hr
      exact hr.1.2)).1
    rw [List.map_map] at hB
    have RH := fun (v : World) (b : Below w.heap.size w v) => ref_theights (c := c) (PR.hall.below b) (by omega) hB (fun m hm => by
      obtain ⟨⟨x, y, e, -⟩, ⟨x', y', e', -⟩, -⟩ := PR.hnodes m hm
      exact ⟨⟨x, _, y, e⟩, ⟨x', _, y', e'⟩⟩) il ic ln lc ol oc ia la oa rfl rfl rfl
    have RH2 : ∀ v, Below w.heap.size w v → Calls Tryz.prog 15 #[.agg #[.slice ia il ic, .slice la ln lc, .slice oa ol oc, .slice a n c]] v fun e w' => ∃ ha hc, e = .returned (.slice ha n hc) ∧ IsI w' ha n (hts (ms.map fun m => m.1.nd) n) ∧ Below v.heap.size v w' := fun v b => (RH v b).mono (fun e w' q => by
      obtain ⟨ha, hc, q1, q2⟩ := q
      exact ⟨ha, hc, q1, OwnC.isI q2, q2.below⟩)
    clear RH
    generalize hts (ms.map fun m => m.1.nd) n = HS at *
    have hn' : Hid (n ≤ 40) := hn
    clear RG0 TR0 TH0 FW0 hr h he B1 bV PR hS hn h8 h9 h10 hall hB
    go_enter Tryz.func4, Tryz.ntmps4
    go_wp2_with (first
      | (go_at_call 9; (with_reducible refine Calls.mono AW ?_); rintro e w1 ⟨rfl, d1⟩; obtain ⟨x0, x1, x2, x3⟩ := CB.out w1 d1; have b1 := below_more HV.out d1)
      | (go_at_call 13; (with_reducible refine Calls.mono (FW _ b1) ?_); rintro e w2 ⟨rfl, d2⟩; have c2 := below_more d1 d2; obtain ⟨u0, u1, u2, u3⟩ := CB.out w2 c2; have b2 := below_more b1 d2)
      | (go_at_call 14; (with_reducible refine Calls.mono (RG _ b2) ?_); rintro e w3 ⟨rfl, d3⟩; have c3 := below_more c2 d3; obtain ⟨y0, y1, y2, y3⟩ := CB.out w3 c3; have b3 := below_more b2 d3)
      | (go_at_call 15; (with_reducible refine Calls.mono (RH2 _ b3) ?_); rintro e w7 ⟨ja, jc, rfl, hJ, d7⟩; have c7 := below_more c3 d7; obtain ⟨t0, t1, t2, t3⟩ := CB.out w7 c7; have b7 := below_more b3 d7)
      | (go_at_call 16; (with_reducible refine Calls.mono (TR _ b7) ?_); rintro e w4 ⟨rfl, d4⟩; have c4 := below_more c7 d4; obtain ⟨z0, z1, z2, z3⟩ := CB.out w4 c4; have b4 := below_more b7 d4)
      | (go_at_call 18; (with_reducible refine Calls.mono (TH _ b4) ?_); rintro e w5 ⟨ha, hm, hc, rfl, hI, d5⟩; obtain rfl : n = hm := hJ.1.symm.trans hI.1)
      | (go_at_call 17; (with_reducible refine Calls.mono (ref_ints hI (hJ.below (below_more d4 d5)) (by have := hn'.out; omega)) ?_); rintro e w6 ⟨rfl, d6⟩))
    go_ret
    exact ⟨rfl, below_more b4 (below_more d5 d6)⟩
end Go.Proofs.YtbcfplaalepnbaaGreatDoor
namespace Go.Proofs.YtbcfplaalepnbaaGreatDoor
open Go.RowKit
theorem law_TreeRights (ia : Option Addr) (il ic : Nat) (la : Option Addr) (ln lc : Nat) (oa : Option Addr) (ol oc : Nat) (a : Option Addr) (n c : Nat) (ins outs : List ByteArray) (ls : List (ByteArray × Int)) (ms : List Mn) (w : World) (h : PgC w ia la oa a il ln ol n c ins outs ls ms) (he : ErrV w) :
    Calls Tryz.prog 4 #[.agg #[.slice ia il ic, .slice la ln lc, .slice oa ol oc, .slice a n c]] w fun e w' => e = .returned (.bool true) ∧ Below w.heap.size w w' := walk_TreeRights w h he
end Go.Proofs.YtbcfplaalepnbaaGreatDoor
