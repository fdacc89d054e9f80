/-
  Texts of mine put together in build order, as far as TreeParses, TreeRight need them: TreeQO, TreeMach, TreeQA, TreeQB, TreeQC, TreeQD, LexJoin, LexJoinB, LexCut, LexReach, LexBlank, LexPlaces, LexSpan, LexNum, TreeTok, SignA, StrIter. No conditions of their own.
-/
import Derived.WalkKit
import Derived.ProofKit
import Derived.Lib.AppendZerosOnto
import Derived.Laws.AppendOwn
import Derived.Laws.AppendOwnNone
import Derived.Test.YtbcfplaalepnbaaGreatDoorRows
import Derived.WalkLawsBesides
import Derived.Deep.QuietTactic
import Derived.BigQuiet
import Derived.Outline
import Derived.Lib.BitFns
import Derived.OpenShut
import Derived.Laws.CopyOwn
import Derived.Lib.DecodeN
import Derived.Deep.LoopGhost
import Derived.Deep.RegionLaw
import Derived.Deep.DrawnRows
import Derived.Deep.RegionWith
import Derived.Deep.RegionHeld3
import Derived.Laws.IdiomStrings
import Derived.Laws.Bits64b
import Derived.RangeFuncNested
import Derived.RangeFuncBound
import Derived.RangeFuncCalls
import Derived.RangeFuncLeaves
import Derived.Shelf.Abstract
import Derived.Shelf.RegionOpen
import Derived.OwnWalkIn
import Derived.TacticsInMore
import Derived.LoopNIn
import Derived.LoopIn
import Derived.Sort.LoopGhostIn
import Derived.Lib.AtoiAll
import Derived.Lib.OthersKept
import Derived.Test.YtbcfplaalepnbaaGreatDoorPack1
import Derived.Test.YtbcfplaalepnbaaGreatDoorPack2
import Derived.Test.YtbcfplaalepnbaaGreatDoorPack3
namespace Go.Proofs.YtbcfplaalepnbaaGreatDoor
open Go.RowKit Go.Lib
def mxI (l : List Nd) (P : List Int) : Int := P.foldl (fun x p => max x (tallI l p.toNat)) 0
theorem mxI_snoc (l : List Nd) (P : List Int) (p : Int) : mxI l (P ++ [p]) = max (mxI l P) (tallI l p.toNat) := by unfold mxI; rw [List.foldl_append]; rfl
theorem mxI_low (l : List Nd) {N : Int} : ∀ (P : List Int) (x : Int), 0 ≤ x → x ≤ N → (∀ p ∈ P, tallI l p.toNat ≤ N) → 0 ≤ P.foldl (fun x p => max x (tallI l p.toNat)) x ∧ P.foldl (fun x p => max x (tallI l p.toNat)) x ≤ N := by
  intro P
  induction P with
  | nil => intro x h0 h1 _; exact ⟨h0, h1⟩
  | cons p P ih =>
    intro x h0 h1 h
    have hp := h p (List.mem_cons_self ..)
    exact ih (max x (tallI l p.toNat)) (by omega) (by omega) (fun q hq => h q (List.mem_cons_of_mem _ hq))
theorem tall_pts {l : List Nd} (h : Behind l) {i : Nat} {n : Nd} (hn : l[i]? = some n) (h0 : 0 ≤ n.kind) (h7 : n.kind ≤ 7) : tallI l i = mxI l (ptsI n.kind n.a n.b) + 1 ∧ ∀ p ∈ ptsI n.kind n.a n.b, 0 ≤ p ∧ p < (i : Int) := by
  have hi := (List.getElem?_eq_some_iff.1 hn).1
  have hb := h i n hn
  rw [tall_step h hn]
  unfold ptsI
  by_cases k1 : n.kind ≤ 1
  · rw [if_pos k1, if_pos (show n.kind = 0 ∨ n.kind = 1 by omega)]
    exact ⟨rfl, fun p hp => absurd hp (by simp)⟩
  · rw [if_neg k1, if_neg (show ¬ (n.kind = 0 ∨ n.kind = 1) by omega)]
    obtain ⟨b1, b2, b3⟩ := hb (by omega)
    have ta := tall_range h l.length n.a.toNat (by omega) (by omega)
    by_cases k5 : n.kind ≤ 5
    · rw [if_pos k5, if_neg (show ¬ (n.kind = 6 ∨ n.kind = 7) by omega)]
      obtain ⟨b4, b5⟩ := b3 k5
      have tb := tall_range h l.length n.b.toNat (by omega) (by omega)
      refine ⟨?_, fun p hp => ?_⟩
      · show _ = max (max 0 (tallI l n.a.toNat)) (tallI l n.b.toNat) + 1
        omega
      · simp at hp
        rcases hp with rfl | rfl
        · exact ⟨b1, b2⟩
        · exact ⟨b4, b5⟩
    · rw [if_neg k5, if_pos (show n.kind = 6 ∨ n.kind = 7 by omega)]
      refine ⟨?_, fun p hp => ?_⟩
      · show _ = max 0 (tallI l n.a.toNat) + 1
        omega
      · simp at hp
        subst hp
        exact ⟨b1, b2⟩
theorem IsP.set {B g : Nat} {w : World} {pa : Option Addr} {P : List Int} (h : IsP B w pa P) (hg : g < B) (i : Nat) (y : Value) : IsP B (w.setCell ⟨g, i, none⟩ y) pa P := by
  rcases h with q | ⟨b, q1, q2, q3, q4⟩
  · exact .inl q
  · refine .inr ⟨b, q1, q2, by simpa using q3, fun j x hj => ?_⟩
    rw [World.cell?_setCell_other w]
    · exact q4 j x hj
    · intro e
      injection e with e1 e2 e3
      omega
theorem IsP.drew {B : Nat} {w : World} {pa : Option Addr} {P : List Int} (h : IsP B w pa P) : IsP B w.drew pa P := h
theorem mxI_take (l : List Nd) {P : List Int} {k : Nat} {p : Int} (hp : P[k]? = some p) : mxI l (P.take (k + 1)) = max (mxI l (P.take k)) (tallI l p.toNat) := by
  rw [List.take_add_one, hp, ← mxI_snoc]
  rfl
theorem pts_len (k a b : Int) : (ptsI k a b).length ≤ 2 := by
  unfold ptsI
  split
  · simp
  · split <;> simp
set_option maxHeartbeats 40000000 in
theorem tree_heights {w : World} {a : Option Addr} {n c : Nat} {ms : List Mn} (h : IsN w a n ms) (hn : n ≤ 100000) (hB : Behind (ms.map fun m => m.1.nd)) (hK : ∀ m ∈ ms, 0 ≤ m.1.kind ∧ m.1.kind ≤ 7) (hV : ∀ m ∈ ms, (∃ x y z, m.2.1 = .slice x y z) ∧ ∃ x y z, m.2.2 = .slice x y z) :
    Calls Tryz.prog 44 #[.slice a n c] w fun e w' => ∃ g, e = .returned (.slice (some ⟨g, 0, none⟩) n n) ∧ OwnC 3 1 w w' (.slice (some ⟨g, 0, none⟩) n n) n ((hts (ms.map fun m => m.1.nd) n).map (Value.int .i64)) := by
  have HH : Hid (IsN w a n ms ∧ n ≤ 100000 ∧ Behind (ms.map fun m => m.1.nd) ∧ (∀ m ∈ ms, 0 ≤ m.1.kind ∧ m.1.kind ≤ 7) ∧ (∀ m ∈ ms, (∃ x y z, m.2.1 = .slice x y z) ∧ ∃ x y z, m.2.2 = .slice x y z) ∧ Below w.heap.size w w) := ⟨h, hn, hB, hK, hV, Below.refl _ _⟩
  obtain ⟨l, hl⟩ : ∃ l, (ms.map fun m => m.1.nd) = l := ⟨_, rfl⟩
  rw [hl]
  have HL : Hid ((ms.map fun m => m.1.nd) = l) := hl
  have hN0 : ¬ (n : Int) < 0 := by omega
  have hN1 : n ≤ 1000000 := by omega
  clear h hn hB hK hV hl
  go_enter Tryz.func44, Tryz.ntmps44
  go_wp2_with (refine wpl_make_ints (.tmp 9) rfl rfl w _ n n rfl rfl hN1 HH.out.2.2.2.2.2 ?_; intro g0 w1 hg0 hg1 o1 bb1)
  go_loopg [13] n (fun g s13 v => ∃ (t : Nat) (xs : List Int), s13 = .int .i64 t ∧ t + g = n ∧ OwnC 3 1 w v (.slice (some ⟨g0, 0, none⟩) n n) n (xs.map (Value.int .i64)) ∧ xs.length = n ∧ (∀ j, j < t → xs[j]? = some (tallI l j)) ∧ (∀ j, t ≤ j → j < n → xs[j]? = some 0))
  case atStart => exact ⟨0, List.replicate n 0, rfl, by omega, o1, by simp, fun j hj => absurd hj (by omega), fun j _ hj => by simp [hj]⟩
  case round =>
    obtain ⟨t, xs, rfl, hg, o, hx, hlo, hhi⟩ := hrel
    have hn := HH.out.2.1
    clear o1 bb1 hg1
    rcases Nat.lt_or_ge t n with ht | ht
    · have k1 : (t : Int) < n := by omega
      obtain ⟨m, hm⟩ : ∃ m, ms[t]? = some m := ⟨_, List.getElem?_eq_getElem (by have := HH.out.1.1; omega)⟩
      obtain ⟨⟨ux, uy, uz, hu⟩, vx, vy, vz, hv⟩ := HH.out.2.2.2.2.1 m (List.mem_of_getElem? hm)
      obtain ⟨gm, om, rfl, n0, n1, n2, n3, n4, n5, n6, n7⟩ := (HH.out.1.below o.below).node hm
      have hgm : gm < wr.heap.size := World.block_lt_of_cell? wr _ n0
      rw [hu] at n6
      rw [hv] at n7
      have hlt : l[t]? = some m.1.nd := by rw [← HL.out, List.getElem?_map, hm]; rfl
      have hkk := HH.out.2.2.2.1 m (List.mem_of_getElem? hm)
      obtain ⟨e1, e2⟩ := tall_pts (HL.out ▸ HH.out.2.2.1) hlt hkk.1 hkk.2
      have PT := fun (v : World) => tree_parts m.1.kind m.1.a m.1.b m.1.exp m.1.name m.1.neg ux uy uz vx vy vz v
      have e3 := fun (P : List Int) (hP : ∀ p ∈ P, 0 ≤ p ∧ p < (t : Int)) => mxI_low l (N := 200000) P 0 (by omega) (by omega) (fun p hp => by
        have := (tall_range (HL.out ▸ HH.out.2.2.1) l.length p.toNat (by have := hP p hp; have := (List.getElem?_eq_some_iff.1 hlt).1; omega) (by have := hP p hp; have := (List.getElem?_eq_some_iff.1 hlt).1; omega)).2
        have := hP p hp
        omega)
      change tallI l t = mxI l (ptsI m.1.kind m.1.a m.1.b) + 1 at e1
      change ∀ p ∈ ptsI m.1.kind m.1.a m.1.b, 0 ≤ p ∧ p < (t : Int) at e2
      have hP2 := pts_len m.1.kind m.1.a m.1.b
      generalize ptsI m.1.kind m.1.a m.1.b = P at *
      generalize m.1.kind = d0 at *
      generalize m.1.a = d1 at *
      generalize m.1.b = d2 at *
      generalize m.1.exp = d3 at *
      generalize m.1.name = d4 at *
      generalize m.1.neg = d5 at *
      have HQ : Hid (OwnC 3 1 w wr (.slice (some ⟨g0, 0, none⟩) n n) n (xs.map (Value.int .i64)) ∧ xs.length = n ∧ (∀ j, j < t → xs[j]? = some (tallI l j)) ∧ (∀ j, t ≤ j → j < n → xs[j]? = some 0) ∧ t + gk = n ∧ t < n ∧ tallI l t = mxI l P + 1 ∧ (∀ p ∈ P, 0 ≤ p ∧ p < (t : Int)) ∧ n ≤ 100000 ∧ (0 ≤ mxI l P ∧ mxI l P ≤ 200000)) := ⟨o, hx, hlo, hhi, hg, ht, e1, e2, hn, e3 P e2⟩
      have bw := o.below
      have h00 := (o.at1 (k := 0) (y := .int .i64 (xs.getD 0 0)) (by rw [List.getElem?_map]; cases xs with | nil => simp at hx; omega | cons x r => rfl)).2.2.2
      clear o hx hlo hhi hg ht e1 e2 e3 hm hu hv hlt hkk hn
      go_wp2_with (go_at_call 71; (with_reducible refine Calls.mono (PT _) ?_); rintro e v2 ⟨pa, pc, rfl, hp, b2⟩)
      have bB := ((Below.refl wr.heap.size wr).alloc (Nat.le_refl _) (.cells #[.int .i64 d0, .int .i64 d1, .int .i64 d2, .int .i64 d3, .string d4, .bool d5, .slice ux uy uz, .slice vx vy vz] 44))
      have b3 := below_more bB b2
      have o2 := HQ.out.1.more b3
      have hp' : IsP (g0 + 1) v2 pa P := by
        rcases hp with q | ⟨b, q1, q2, q3, q4⟩
        · exact .inl q
        · exact .inr ⟨b, q1, by have : wr.heap.size ≤ _ := bB.size; omega, q3, q4⟩
      have HP2 : Hid (P.length ≤ 2) := hP2
      clear hp n0 n1 n2 n3 n4 n5 n6 n7 PT hP2
      go_loopg [21] P.length (fun g s21 v => ∃ k : Nat, s21 = .int .i64 k ∧ k + g = P.length ∧ OwnC 3 1 w v (.slice (some ⟨g0, 0, none⟩) n n) n ((xs.set t (mxI l (P.take k))).map (Value.int .i64)) ∧ IsP (g0 + 1) v pa P)
      case atStart =>
        refine ⟨0, rfl, by omega, ?_, hp'⟩
        have : xs.set t (mxI l (P.take 0)) = xs := by
          apply List.ext_getElem?
          intro j
          rw [List.getElem?_set]
          split
          · rename_i q
            subst q
            rw [HQ.out.2.2.2.1 t (Nat.le_refl _) HQ.out.2.2.2.2.2.1, if_pos (by have := HQ.out.2.1; have := HQ.out.2.2.2.2.2.1; omega)]
            rfl
          · rfl
        rw [this]
        exact o2
      case round =>
        obtain ⟨k, rfl, hk, o, hP⟩ := hrel
        have hg01 : g0 < wr.heap.size := (o.at1 (k := 0) (y := ((xs.set t (mxI l (P.take k))).map (Value.int .i64)).getD 0 .nilIface) (by
          have : 0 < ((xs.set t (mxI l (P.take k))).map (Value.int .i64)).length := by rw [List.length_map, List.length_set]; have := HQ.out.2.1; have := HQ.out.2.2.2.2.2.1; omega
          rw [List.getD_eq_getElem?_getD, List.getElem?_eq_getElem this]; rfl)).2.2.2
        have hlen := HQ.out.2.1
        have htn := HQ.out.2.2.2.2.2.1
        have hn := HQ.out.2.2.2.2.2.2.2.2.1
        have hm1 := HQ.out.2.2.2.2.2.2.2.2.2
        have ct := (o.at1 (k := t) (y := .int .i64 (mxI l (P.take k))) (by rw [List.getElem?_map, List.getElem?_set_self (by omega)]; rfl))
        obtain ⟨ct, cf, -, -⟩ := ct
        rcases Nat.lt_or_ge k P.length with hkl | hkl
        · have k2 : (k : Int) < P.length := by omega
          obtain ⟨b, rfl, q2, q3, q4⟩ := hP.resolve_left (fun e => by rw [e] at hkl; simp at hkl)
          obtain ⟨p, hp⟩ : ∃ p, P[k]? = some p := ⟨_, List.getElem?_eq_getElem hkl⟩
          have cb := q4 k p hp
          obtain ⟨p0, p1⟩ := HQ.out.2.2.2.2.2.2.2.1 p (List.mem_of_getElem? hp)
          have hmx := mxI_take l hp
          obtain ⟨q, rfl⟩ := Int.eq_ofNat_of_zero_le p0
          have hqt : q < t := by omega
          have cq := (o.at1 (k := q) (y := .int .i64 (tallI l q)) (by rw [List.getElem?_map, List.getElem?_set_ne (by omega), HQ.out.2.2.1 q hqt]; rfl)).1
          rw [show ((q : Int)).toNat = q from rfl] at hmx
          have q5 : (q : Int) < n := by omega
          have q6 : q < n := by omega
          have q7 : (t : Int) < n := by omega
          have HO : Hid (OwnC 3 1 w wr (.slice (some ⟨g0, 0, none⟩) n n) n ((xs.set t (mxI l (P.take k))).map (Value.int .i64)) ∧ IsP (g0 + 1) wr (some ⟨b, 0, none⟩) P ∧ k + gk = P.length ∧ k < P.length ∧ mxI l (P.take (k + 1)) = max (mxI l (P.take k)) (tallI l q)) := ⟨o, hP, hk, hkl, hmx⟩
          have hPl : P.length ≤ 2 := HP2.out
          have w1 : wrap64 ((k : Int) + 1) = (k : Int) + 1 := wrap_smalls (by omega) (by omega)
          generalize mxI l (P.take k) = M at *
          generalize tallI l q = T at *
          clear o hP hk hkl hmx q4 hp p0 p1 hqt hlen htn hn hm1 hPl b2 bB b3 o2 hp'
          have hqw : g0 < wr.heap.size := hg01
          have SO : ∀ v, Below wr.heap.size wr v → (v.cell? ⟨g0, t, none⟩ = some (.int .i64 M) ∧ v.cell? ⟨g0, q, none⟩ = some (.int .i64 T)) := fun v hb => ⟨by rw [hb.cell (p := ⟨g0, t, none⟩) hqw]; exact ct, by rw [hb.cell (p := ⟨g0, q, none⟩) hqw]; exact cq⟩
          have bs := (Below.refl wr.heap.size wr).drew
          rcases Int.lt_or_le M T with mt | mt
          · have mx : max M T = T := by omega
            have mt' : ¬ T ≤ M := by omega
            go_wp2
            go_region_law (fail)
            all_goals
              obtain ⟨o, hP, hk, hkl, hmx⟩ := HO.out
              have f1 : k + 1 + (P.length - (k + 1)) = P.length ∧ P.length - (k + 1) < gk ∧ g0 < g0 + 1 := by clear w1 ct cq cb mx hmx; omega
              go_wp2
              go_roundg (P.length - (k + 1))
              case measure => exact f1.2.1
              case rel =>
                refine ⟨k + 1, by first | rfl | (rw [w1]; rfl), f1.1, ?_, (hP.drew).set f1.2.2 _ _⟩
                rw [hmx, mx]
                have := (o.drew).set1 t (.int .i64 T)
                rw [← List.map_set, List.set_set] at this
                exact this
          · have mx : max M T = M := by omega
            have mt' : ¬ M < T := by omega
            go_wp2
            go_region_law (fail)
            all_goals
              obtain ⟨o, hP, hk, hkl, hmx⟩ := HO.out
              have f1 : k + 1 + (P.length - (k + 1)) = P.length ∧ P.length - (k + 1) < gk ∧ g0 < g0 + 1 := by clear w1 ct cq cb mx hmx; omega
              go_wp2
              go_roundg (P.length - (k + 1))
              case measure => exact f1.2.1
              case rel =>
                refine ⟨k + 1, by first | rfl | (rw [w1]; rfl), f1.1, ?_, (hP.drew).set f1.2.2 _ _⟩
                rw [hmx, mx]
                have := (o.drew).set1 t (.int .i64 M)
                rw [← List.map_set, List.set_set] at this
                exact this
        · have k2 : ¬ (k : Int) < P.length := by omega
          obtain rfl : k = P.length := by omega
          rw [List.take_length] at o ct
          have w1 : wrap64 (mxI l P + 1) = mxI l P + 1 := wrap_smalls (by omega) (by omega)
          have w2 : wrap64 ((t : Int) + 1) = (t : Int) + 1 := wrap_smalls (by omega) (by omega)
          have q7 : (t : Int) < n := by omega
          have HO : Hid (OwnC 3 1 w wr (.slice (some ⟨g0, 0, none⟩) n n) n ((xs.set t (mxI l P)).map (Value.int .i64))) := o
          generalize mxI l P = M at *
          clear o hP hk hkl hlen hn hm1 b2 bB b3 o2 hp'
          go_wp2
          obtain ⟨-, hx, hlo, hhi, hg, ht, e1, -, -, -⟩ := HQ.out
          have HF : OwnC 3 1 w (wr.setCell ⟨g0, t, none⟩ (.int .i64 (M + 1))) (.slice (some ⟨g0, 0, none⟩) n n) n ((xs.set t (M + 1)).map (Value.int .i64)) ∧ (xs.set t (M + 1)).length = n ∧ (∀ j, j < t + 1 → (xs.set t (M + 1))[j]? = some (tallI l j)) ∧ (∀ j, t + 1 ≤ j → j < n → (xs.set t (M + 1))[j]? = some 0) ∧ t + 1 + (n - (t + 1)) = n ∧ n - (t + 1) < n - t := by
            clear w1 w2 k2 q7 ct cf
            refine ⟨?_, by rw [List.length_set]; exact hx, fun j hj => ?_, fun j hj hjn => ?_, by omega, by omega⟩
            · have := HO.out.set1 t (.int .i64 (M + 1))
              rw [← List.map_set, List.set_set] at this
              exact this
            · rcases (show j < t ∨ j = t by omega) with q | rfl
              · rw [List.getElem?_set_ne (by omega)]; exact hlo j q
              · rw [List.getElem?_set_self (by omega), e1]
            · rw [List.getElem?_set_ne (by omega)]; exact hhi j (by omega) hjn
          obtain ⟨f1, f2, f3, f4, f5, f6⟩ := HF
          clear hlo hhi e1 w1
          go_roundg (n - (t + 1))
          case measure => clear w2; omega
          case rel => exact ⟨t + 1, xs.set t (M + 1), by first | rfl | (rw [w2]; rfl), f5, f1, f2, f3, f4⟩
    · obtain rfl : t = n := by omega
      have k1 : ¬ (t : Int) < (t : Int) := by omega
      have he : xs = hts l t := by
        apply List.ext_getElem?
        intro j
        rcases Nat.lt_or_ge j t with q | q
        · rw [hlo j q, hts_get l q]
        · rw [List.getElem?_eq_none (by omega), List.getElem?_eq_none (by rw [hts_length]; exact q)]
      subst he
      have HO : Hid _ := o
      clear hg hlo hhi o hx hn HH HL ht hN0 hN1
      go_wp2
      go_ret
      exact ⟨g0, rfl, HO.out⟩
end Go.Proofs.YtbcfplaalepnbaaGreatDoor
namespace Go.Proofs.YtbcfplaalepnbaaGreatDoor
open Go.Lib
abbrev Fr := Sum (Int × Int × Bool) Bool
abbrev Fr.neg : Fr := .inr false
abbrev Fr.bin (k l : Int) (c : Bool) : Fr := .inl (k, l, c)
abbrev Fr.brk : Fr := .inr true
def nd1 (a : Int) : Nd := ⟨6, a, 0, 0, noText, (false, 0, 0)⟩
def nd2 (k a b : Int) : Nd := ⟨k, a, b, 0, noText, (false, 0, 0)⟩
def restE (num : ByteArray → Bool × Nat × Nat) (L : List Tok) (m : Nat) (a : Int) (r : Rd) : Int × Rd :=
  if m < 2 then exprI num L 1 (exprI num L 3 a r).1 (exprI num L 3 a r).2 else exprI num L 1 a r
def shutE (L : List Tok) (p : Int × Rd) : Int × Rd := (p.2.want L 2 [41]).powT L p.1
def aft (num : ByteArray → Bool × Nat × Nat) (L : List Tok) : List Fr → Nat → Int → Rd → Int × Rd
  | [], m, a, r => restE num L m a r
  | .inr false :: fs, _, a, r => aft num L fs 0 (r.node (nd1 a)).1 (r.node (nd1 a)).2
  | .inl (k, l, true) :: fs, _, a, r => aft num L fs 1 (r.node (nd2 k l a)).1 (r.node (nd2 k l a)).2
  | .inl (k, l, false) :: fs, m, a, r => if m < 2 then aft num L fs 2 ((exprI num L 3 a r).2.node (nd2 k l (exprI num L 3 a r).1)).1 ((exprI num L 3 a r).2.node (nd2 k l (exprI num L 3 a r).1)).2 else aft num L fs 2 (r.node (nd2 k l a)).1 (r.node (nd2 k l a)).2
  | .inr true :: fs, m, a, r => aft num L fs 0 (shutE L (restE num L m a r)).1 (shutE L (restE num L m a r)).2
def ahd (num : ByteArray → Bool × Nat × Nat) (L : List Tok) (fs : List Fr) (r : Rd) : Int × Rd := aft num L fs 0 (exprI num L 4 0 r).1 (exprI num L 4 0 r).2
def topS : List Fr → Prop
  | [] => True
  | .inr true :: _ => True
  | _ => False
def topP : List Fr → Prop
  | [] => True
  | .inr true :: _ => True
  | .inl (_, _, false) :: _ => True
  | _ => False
def FrOk : List Fr → Prop
  | [] => True
  | .inr false :: fs => FrOk fs
  | .inr true :: fs => FrOk fs
  | .inl (_, _, true) :: fs => topP fs ∧ FrOk fs
  | .inl (_, _, false) :: fs => topS fs ∧ FrOk fs
def setF (b : Bool) : List Fr → Int → Rd → List Fr × Int × Rd
  | .inr false :: fs, a, r => setF b fs (r.node (nd1 a)).1 (r.node (nd1 a)).2
  | .inl (k, l, c) :: fs, a, r => if (b && !c) = true then (.bin k l c :: fs, a, r) else setF b fs (r.node (nd2 k l a)).1 (r.node (nd2 k l a)).2
  | fs, a, r => (fs, a, r)
theorem setF_rd (b : Bool) : ∀ (fs : List Fr) (a : Int) (r : Rd), (setF b fs a r).2.2.pos = r.pos ∧ (setF b fs a r).2.2.bad = r.bad ∧ r.On (setF b fs a r).2.2 ∧ (FrOk fs → FrOk (setF b fs a r).1) := by
  intro fs
  induction fs with
  | nil => intro a r; exact ⟨rfl, rfl, Rd.On.refl r, fun h => h⟩
  | cons f fs ih =>
    intro a r
    cases f with
    | inl y =>
      obtain ⟨k, l, c⟩ := y
      unfold setF
      split
      · exact ⟨rfl, rfl, Rd.On.refl r, fun h => h⟩
      · obtain ⟨h1, h2, h3, h4⟩ := ih (r.node (nd2 k l a)).1 (r.node (nd2 k l a)).2
        refine ⟨h1, h2, (r.on_node _).trans h3, fun h => h4 ?_⟩
        cases c with
        | true => exact h.2
        | false => exact h.2
    | inr y => cases y with
      | false =>
        unfold setF
        obtain ⟨h1, h2, h3, h4⟩ := ih (r.node (nd1 a)).1 (r.node (nd1 a)).2
        exact ⟨h1, h2, (r.on_node _).trans h3, fun h => h4 h⟩
      | true =>
        exact ⟨rfl, rfl, Rd.On.refl r, fun h => h⟩
theorem Rd.is_same {L : List Tok} {r s : Rd} (hp : s.pos = r.pos) (hb : s.bad = r.bad) (k : Int) (x : List UInt8) : s.is L k x = r.is L k x := by
  unfold Rd.is
  rw [hp, hb]
theorem more_prod_none {num : ByteArray → Bool × Nat × Nat} {L : List Tok} {a : Int} {r : Rd} (h : ¬ (r.is L 2 [42] || r.is L 2 [47]) = true) : exprI num L 3 a r = (a, r) := by
  rw [expr_more_product, if_neg h]
theorem more_sum_none {num : ByteArray → Bool × Nat × Nat} {L : List Tok} {a : Int} {r : Rd} (h : ¬ (r.is L 2 [43] || r.is L 2 [45]) = true) : exprI num L 1 a r = (a, r) := by
  rw [expr_more_sum, if_neg h]
theorem aft_topP (num : ByteArray → Bool × Nat × Nat) (L : List Tok) {fs : List Fr} (h : topP fs) (a : Int) (r : Rd) : aft num L fs 0 a r = aft num L fs 1 a r := by
  cases fs with
  | nil => rfl
  | cons f fs => cases f with
    | inl y =>
      obtain ⟨k, l, c⟩ := y
      cases c with
      | true => exact h.elim
      | false => rfl
    | inr y => cases y with
      | false =>
        exact h.elim
      | true =>
        rfl
theorem aft_setP (num : ByteArray → Bool × Nat × Nat) (L : List Tok) : ∀ (fs : List Fr) (a : Int) (r : Rd), FrOk fs → aft num L fs 0 a r = aft num L (setF true fs a r).1 1 (setF true fs a r).2.1 (setF true fs a r).2.2 ∧ topP (setF true fs a r).1 := by
  intro fs
  induction fs with
  | nil => intro a r _; exact ⟨rfl, trivial⟩
  | cons f fs ih =>
    intro a r hk
    cases f with
    | inl y =>
      obtain ⟨k, l, c⟩ := y
      cases c with
      | false => exact ⟨rfl, trivial⟩
      | true =>
        have ht : topP fs := hk.1
        have e : setF true (.bin k l true :: fs) a r = setF true fs (r.node (nd2 k l a)).1 (r.node (nd2 k l a)).2 := rfl
        rw [e]
        have := ih (r.node (nd2 k l a)).1 (r.node (nd2 k l a)).2 hk.2
        rw [aft_topP num L ht] at this
        exact this
    | inr y => cases y with
      | false =>
        show aft num L fs 0 _ _ = _ ∧ _
        exact ih _ _ hk
      | true =>
        exact ⟨rfl, trivial⟩
theorem aft_setS (num : ByteArray → Bool × Nat × Nat) (L : List Tok) : ∀ (fs : List Fr) (m : Nat) (a : Int) (r : Rd), m < 3 → FrOk fs → (m = 2 → topS fs) → (m = 1 → topP fs) → ¬ (r.is L 2 [42] || r.is L 2 [47]) = true →
    aft num L fs m a r = aft num L (setF false fs a r).1 2 (setF false fs a r).2.1 (setF false fs a r).2.2 ∧ topS (setF false fs a r).1 := by
  intro fs
  induction fs with
  | nil =>
    intro m a r hm _ _ _ hn
    refine ⟨?_, trivial⟩
    show restE num L m a r = restE num L 2 a r
    unfold restE
    by_cases h : m < 2
    · rw [if_pos h, if_neg (by omega), more_prod_none hn]
    · rw [if_neg h, if_neg (by omega)]
  | cons f fs ih =>
    intro m a r hm hk h2 h1 hn
    cases f with
    | inl y =>
      obtain ⟨k, l, c⟩ := y
      cases c with
      | true => exact ih 1 _ _ (by omega) hk.2 (fun e => by omega) (fun _ => hk.1) hn
      | false =>
        have e : aft num L (.bin k l false :: fs) m a r = aft num L fs 2 (r.node (nd2 k l a)).1 (r.node (nd2 k l a)).2 := by
          show (if m < 2 then _ else _) = _
          split
          · rw [more_prod_none hn]
          · rfl
        rw [e]
        exact ih 2 _ _ (by omega) hk.2 (fun _ => hk.1) (fun e => by omega) hn
    | inr y => cases y with
      | false =>
        exact ih 0 _ _ (by omega) hk (fun e => by omega) (fun e => by omega) hn
      | true =>
        refine ⟨?_, trivial⟩
        show aft num L fs 0 (shutE L (restE num L m a r)).1 (shutE L (restE num L m a r)).2 = aft num L fs 0 (shutE L (restE num L 2 a r)).1 (shutE L (restE num L 2 a r)).2
        have : restE num L m a r = restE num L 2 a r := by
          unfold restE
          by_cases h : m < 2
          · rw [if_pos h, if_neg (by omega), more_prod_none hn]
          · rw [if_neg h, if_neg (by omega)]
        rw [this]
theorem ahd_neg (num : ByteArray → Bool × Nat × Nat) (L : List Tok) (fs : List Fr) {r : Rd} (h : r.is L 2 [45] = true) : ahd num L fs r = ahd num L (.neg :: fs) r.skip := by
  unfold ahd
  rw [expr_factor, if_pos h]
  rfl
theorem ahd_brk (num : ByteArray → Bool × Nat × Nat) (L : List Tok) (fs : List Fr) {r : Rd} (h0 : ¬ r.is L 2 [45] = true) (h : r.is L 2 [40] = true) : ahd num L fs r = ahd num L (.brk :: fs) r.skip := by
  unfold ahd
  rw [expr_factor, if_neg h0, expr_power, expr_atom, if_pos h]
  show aft num L fs 0 _ _ = aft num L fs 0 (shutE L (restE num L 0 (exprI num L 4 0 r.skip).1 (exprI num L 4 0 r.skip).2)).1 _
  have : restE num L 0 (exprI num L 4 0 r.skip).1 (exprI num L 4 0 r.skip).2 = exprI num L 0 0 r.skip := by
    unfold restE
    rw [if_pos (by omega), expr_sum, expr_product]
  rw [this]
  rfl
theorem ahd_leaf (num : ByteArray → Bool × Nat × Nat) (L : List Tok) (fs : List Fr) {r : Rd} (h0 : ¬ r.is L 2 [45] = true) (h : ¬ r.is L 2 [40] = true) : ahd num L fs r = aft num L fs 0 ((r.leaf num L).2.powT L (r.leaf num L).1).1 ((r.leaf num L).2.powT L (r.leaf num L).1).2 := by
  unfold ahd
  rw [expr_factor, if_neg h0, expr_power, expr_atom, if_neg h]
theorem aft_mul (num : ByteArray → Bool × Nat × Nat) (L : List Tok) {fs : List Fr} (a : Int) {r : Rd} (hk : FrOk fs) (h : (r.is L 2 [42] || r.is L 2 [47]) = true) :
    aft num L fs 0 a r = ahd num L (.bin (if r.is L 2 [47] = true then 5 else 4) (setF true fs a r).2.1 true :: (setF true fs a r).1) (setF true fs a r).2.2.skip ∧ topP (setF true fs a r).1 := by
  obtain ⟨h1, h2⟩ := aft_setP num L fs a r hk
  obtain ⟨h3, h4, -⟩ := setF_rd true fs a r
  refine ⟨?_, h2⟩
  rw [h1]
  generalize setF true fs a r = p at h1 h2 h3 h4
  obtain ⟨gs, b, s⟩ := p
  have hs : ∀ k x, s.is L k x = r.is L k x := fun k x => Rd.is_same h3 h4 k x
  rw [← hs, ← hs] at h
  have he := expr_more_product num L b s
  rw [if_pos h, hs 2 [47]] at he
  show aft num L gs 1 b s = aft num L gs 1 _ _
  cases gs with
  | nil => show restE num L 1 b s = restE num L 1 _ _; unfold restE; rw [if_pos (by omega), if_pos (by omega), he]; rfl
  | cons f gs => cases f with
    | inl y =>
      obtain ⟨k, l, c⟩ := y
      cases c with
      | true => exact h2.elim
      | false =>
        show (if 1 < 2 then aft num L gs 2 ((exprI num L 3 b s).2.node (nd2 k l (exprI num L 3 b s).1)).1 ((exprI num L 3 b s).2.node (nd2 k l (exprI num L 3 b s).1)).2 else _) = _
        rw [if_pos (by omega), he]
        rfl
    | inr y => cases y with
      | false =>
        exact h2.elim
      | true =>
        have : restE num L 1 b s = restE num L 1 ((exprI num L 4 0 s.skip).2.node (nd2 (if r.is L 2 [47] = true then 5 else 4) b (exprI num L 4 0 s.skip).1)).1 ((exprI num L 4 0 s.skip).2.node (nd2 (if r.is L 2 [47] = true then 5 else 4) b (exprI num L 4 0 s.skip).1)).2 := by
          unfold restE; rw [if_pos (by omega), if_pos (by omega), he]; rfl
        show aft num L gs 0 (shutE L (restE num L 1 b s)).1 (shutE L (restE num L 1 b s)).2 = _
        rw [this]
        rfl
theorem aft_add (num : ByteArray → Bool × Nat × Nat) (L : List Tok) {fs : List Fr} (a : Int) {r : Rd} (hk : FrOk fs) (hn : ¬ (r.is L 2 [42] || r.is L 2 [47]) = true) (h : (r.is L 2 [43] || r.is L 2 [45]) = true) :
    aft num L fs 0 a r = ahd num L (.bin (if r.is L 2 [45] = true then 3 else 2) (setF false fs a r).2.1 false :: (setF false fs a r).1) (setF false fs a r).2.2.skip ∧ topS (setF false fs a r).1 := by
  obtain ⟨h1, h2⟩ := aft_setS num L fs 0 a r (by omega) hk (fun e => by omega) (fun e => by omega) hn
  obtain ⟨h3, h4, -⟩ := setF_rd false fs a r
  refine ⟨?_, h2⟩
  rw [h1]
  generalize setF false fs a r = p at h1 h2 h3 h4
  obtain ⟨gs, b, s⟩ := p
  have hs : ∀ k x, s.is L k x = r.is L k x := fun k x => Rd.is_same h3 h4 k x
  rw [← hs, ← hs] at h
  have he := expr_more_sum num L b s
  rw [if_pos h, hs 2 [45], expr_product] at he
  have ex : ∀ (k : Int) (x : Int) (q : Rd), aft num L (.bin k b false :: gs) 0 x q = aft num L gs 2 ((exprI num L 3 x q).2.node (nd2 k b (exprI num L 3 x q).1)).1 ((exprI num L 3 x q).2.node (nd2 k b (exprI num L 3 x q).1)).2 := fun k x q => rfl
  show aft num L gs 2 b s = ahd num L (.bin (if r.is L 2 [45] = true then 3 else 2) b false :: gs) s.skip
  unfold ahd
  rw [ex]
  cases gs with
  | nil => show restE num L 2 b s = restE num L 2 _ _; unfold restE; rw [if_neg (by omega), if_neg (by omega), he]; rfl
  | cons f gs => cases f with
    | inl y =>
      obtain ⟨k, l, c⟩ := y
      exact h2.elim
    | inr y => cases y with
      | false =>
        exact h2.elim
      | true =>
        have : restE num L 2 b s = restE num L 2 ((exprI num L 3 (exprI num L 4 0 s.skip).1 (exprI num L 4 0 s.skip).2).2.node (nd2 (if r.is L 2 [45] = true then 3 else 2) b (exprI num L 3 (exprI num L 4 0 s.skip).1 (exprI num L 4 0 s.skip).2).1)).1 ((exprI num L 3 (exprI num L 4 0 s.skip).1 (exprI num L 4 0 s.skip).2).2.node (nd2 (if r.is L 2 [45] = true then 3 else 2) b (exprI num L 3 (exprI num L 4 0 s.skip).1 (exprI num L 4 0 s.skip).2).1)).2 := by
          unfold restE; rw [if_neg (by omega), if_neg (by omega), he]; rfl
        show aft num L gs 0 (shutE L (restE num L 2 b s)).1 (shutE L (restE num L 2 b s)).2 = _
        rw [this]
        rfl
theorem aft_end (num : ByteArray → Bool × Nat × Nat) (L : List Tok) {fs : List Fr} (a : Int) {r : Rd} (hk : FrOk fs) (hn : ¬ (r.is L 2 [42] || r.is L 2 [47]) = true) (h : ¬ (r.is L 2 [43] || r.is L 2 [45]) = true) :
    ((setF false fs a r).1 = [] ∧ aft num L fs 0 a r = (setF false fs a r).2) ∨ (∃ gs, (setF false fs a r).1 = .brk :: gs ∧ FrOk gs ∧ aft num L fs 0 a r = aft num L gs 0 (shutE L (setF false fs a r).2).1 (shutE L (setF false fs a r).2).2) := by
  obtain ⟨h1, h2⟩ := aft_setS num L fs 0 a r (by omega) hk (fun e => by omega) (fun e => by omega) hn
  obtain ⟨h3, h4, -, h5⟩ := setF_rd false fs a r
  rw [h1]
  have h5 := h5 hk
  generalize setF false fs a r = p at h1 h2 h3 h4 h5
  obtain ⟨gs, b, s⟩ := p
  have hs : ∀ k x, s.is L k x = r.is L k x := fun k x => Rd.is_same h3 h4 k x
  rw [← hs, ← hs] at h
  have he : restE num L 2 b s = (b, s) := by unfold restE; rw [if_neg (by omega), more_sum_none h]
  cases gs with
  | nil => exact .inl ⟨rfl, he⟩
  | cons f gs => cases f with
    | inl y =>
      obtain ⟨k, l, c⟩ := y
      exact h2.elim
    | inr y => cases y with
      | false =>
        exact h2.elim
      | true =>
        refine .inr ⟨gs, rfl, h5, ?_⟩
        show aft num L gs 0 (shutE L (restE num L 2 b s)).1 (shutE L (restE num L 2 b s)).2 = _
        rw [he]
theorem ahd_nil (num : ByteArray → Bool × Nat × Nat) (L : List Tok) (r : Rd) : ahd num L [] r = exprI num L 0 0 r := by
  rw [expr_sum, expr_product]
  rfl
theorem on_restE (num : ByteArray → Bool × Nat × Nat) (L : List Tok) (m : Nat) (a : Int) (r : Rd) : r.On (restE num L m a r).2 := by
  unfold restE
  split
  · exact (on_exprI num L 3 a r).trans (on_exprI num L 1 _ _)
  · exact on_exprI num L 1 a r
theorem on_shutE (L : List Tok) (p : Int × Rd) : p.2.On (shutE L p).2 := (p.2.on_want L 2 [41]).trans (Rd.on_powT L _ _)
theorem on_aft (num : ByteArray → Bool × Nat × Nat) (L : List Tok) : ∀ (fs : List Fr) (m : Nat) (a : Int) (r : Rd), r.On (aft num L fs m a r).2 := by
  intro fs
  induction fs with
  | nil => intro m a r; exact on_restE num L m a r
  | cons f fs ih =>
    intro m a r
    cases f with
    | inl y =>
      obtain ⟨k, l, c⟩ := y
      cases c with
      | true => exact (r.on_node _).trans (ih _ _ _)
      | false =>
        show r.On (if m < 2 then _ else _ : Int × Rd).2
        split
        · exact ((on_exprI num L 3 a r).trans (Rd.on_node _ _)).trans (ih _ _ _)
        · exact (r.on_node _).trans (ih _ _ _)
    | inr y => cases y with
      | false =>
        exact (r.on_node _).trans (ih _ _ _)
      | true =>
        exact ((on_restE num L m a r).trans (on_shutE L _)).trans (ih _ _ _)
end Go.Proofs.YtbcfplaalepnbaaGreatDoor
namespace Go.Proofs.YtbcfplaalepnbaaGreatDoor
open Go.RowKit Go.Lib
abbrev It := Sum Int (Option (Int × Int))
abbrev It.nd (n : Int) : It := .inl n
abbrev It.wt (k b : Int) : It := .inr (some (k, b))
abbrev It.br : It := .inr none
def itV : It → Value
  | .inl n => .iface 139 (.int .i64 n)
  | .inr (some (k, b)) => .iface 156 (.agg #[.int .i64 k, .int .i64 b])
  | .inr none => .iface 167 (.agg #[])
def binds (c : Bool) : Int := if c = true then 1 else 0
def stk : List Fr → List It
  | [] => []
  | .inr false :: fs => stk fs ++ [.wt 6 2]
  | .inl (k, l, c) :: fs => stk fs ++ [.nd l] ++ [.wt k (binds c)]
  | .inr true :: fs => stk fs ++ [.br]
theorem OwnC.cut {T : TypeId} {k : Nat} {W w : World} {a : Option Addr} {n c m : Nat} {cs : List Value} (h : OwnC T k W w (.slice a n c) n cs) (hm : m ≤ n) : OwnC T k W w (.slice a m c) m (cs.take (m * k)) := by
  obtain ⟨⟨h1, h2⟩, hb⟩ := h
  have hmk : m * k ≤ n * k := Nat.mul_le_mul_right _ hm
  refine ⟨⟨by rw [List.length_take, h1]; omega, ?_⟩, hb⟩
  rcases h2 with ⟨hv, hn⟩ | ⟨g, cap, cur, hv, hg, hh, hnc, hcm, hcs, ht⟩
  · left
    have hm0 : m = 0 := by omega
    subst hm0
    injection hv with e1 e2 e3
    exact ⟨by rw [e1, e3], rfl⟩
  · right
    injection hv with e1 e2 e3
    subst e1; subst e3
    exact ⟨g, c, cur, rfl, hg, hh, by omega, hcm, hcs, by rw [← ht, List.take_take, Nat.min_eq_left hmk]⟩
def TY (T : TypeId) : Prop := T = 44 ∨ T = 59 ∨ T = 20
theorem ty_tok : ¬ TY 66 := by unfold TY; decide
theorem ty_u32 : ¬ TY 84 := by unfold TY; decide
theorem ty_str : ¬ TY 9 := by unfold TY; decide
theorem ty_let : ¬ TY 46 := by unfold TY; decide
theorem ty_node : TY 44 := .inl rfl
theorem ty_reader : TY 59 := .inr (.inl rfl)
theorem ty_any : TY 20 := .inr (.inr rfl)
def NodesM (W w : World) (a : Option Addr) (c : Nat) (all : List Nd) : Prop := ∃ ms : List Mn, OwnC 44 8 W w (.slice a all.length c) all.length (flat encM ms) ∧ ms.map (·.1) = all.map rawOf ∧ (∀ m ∈ ms, NumW W w m)
theorem NodesM.more {W w w' : World} {a : Option Addr} {c : Nat} {all : List Nd} (h : NodesM W w a c all) (hb : Below w.heap.size w w') : NodesM W w' a c all := by
  obtain ⟨ms, h1, h2, h3⟩ := h
  exact ⟨ms, h1.more hb, h2, fun m hm => ⟨(h3 m hm).1.more hb, (h3 m hm).2.more hb⟩⟩
theorem NodesM.box {W w : World} {a : Option Addr} {c : Nat} {all : List Nd} (h : NodesM W w a c all) {g : Nat} {ds : Array Value} {U : TypeId} (B : BoxC w g ds U) (hT : U ≠ 44) (hU : U ≠ 84) (hk : W.heap.size ≤ g) (i : Nat) (x : Value) : NodesM W (w.setCell ⟨g, i, none⟩ x) a c all := by
  obtain ⟨ms, h1, h2, h3⟩ := h
  exact ⟨ms, h1.box B hT hk i x, h2, fun m hm => ⟨OwnC.box (h3 m hm).1 B hU hk i x, OwnC.box (h3 m hm).2 B hU hk i x⟩⟩
theorem NodesM.grown {W w w' : World} {a : Option Addr} {c : Nat} {all : List Nd} {v : Value} {n k : Nat} {cs : List Value} {U : TypeId} (h : NodesM W w a c all) (o : OwnC U k W w v n cs) (hU : U ≠ 44) (hU' : U ≠ 84) (hg : w.grownBy w' v.ownBlock) (hb : Below W.heap.size W w') : NodesM W w' a c all := by
  obtain ⟨ms, h1, h2, h3⟩ := h
  have K : Keep (fun T => T = U) w w' := (Keep.refl _ w).grown o rfl hg
  exact ⟨ms, h1.keep K (fun e => hU e.symm) hb, h2, fun m hm => ⟨OwnC.keep (h3 m hm).1 K (fun e => hU' e.symm) hb, OwnC.keep (h3 m hm).2 K (fun e => hU' e.symm) hb⟩⟩
def LeftT (W w : World) (ta : Option Addr) (tc : Nat) (L : List Tok) (p : Nat) (la : Option Addr) (lc : Nat) : Prop :=
  p ≤ L.length ∧ OwnT W w (.slice ta L.length tc) L.length L ∧ (p < L.length → ∃ g, ta = some ⟨g, 0, none⟩ ∧ la = some ⟨g, p * 4, none⟩ ∧ lc = tc - p ∧ L.length ≤ tc)
theorem LeftT.more {W w w' : World} {ta : Option Addr} {tc : Nat} {L : List Tok} {p : Nat} {la : Option Addr} {lc : Nat} (h : LeftT W w ta tc L p la lc) (hb : Below w.heap.size w w') : LeftT W w' ta tc L p la lc := ⟨h.1, h.2.1.more hb, h.2.2⟩
theorem LeftT.grown {W w w' : World} {ta : Option Addr} {tc : Nat} {L : List Tok} {p : Nat} {la : Option Addr} {lc : Nat} {v : Value} {n k : Nat} {cs : List Value} {U : TypeId} (h : LeftT W w ta tc L p la lc) (o : OwnC U k W w v n cs) (hU : U ≠ 66) (hg : w.grownBy w' v.ownBlock) (hb : Below W.heap.size W w') : LeftT W w' ta tc L p la lc :=
  ⟨h.1, OwnC.keep h.2.1 ((Keep.refl (fun T => T = U) w).grown o rfl hg) (fun e => hU e.symm) hb, h.2.2⟩
theorem LeftT.tok {W w : World} {ta : Option Addr} {tc : Nat} {L : List Tok} {p : Nat} {la : Option Addr} {lc : Nat} (h : LeftT W w ta tc L p la lc) {t : Tok} (ht : L[p]? = some t) : ∃ g, la = some ⟨g, p * 4, none⟩ ∧ w.cell? ⟨g, p * 4, none⟩ = some (.int .i64 t.1) ∧ w.cell? ⟨g, p * 4 + 1, none⟩ = some (.string t.2.1) ∧ w.cell? ⟨g, p * 4 + 2, none⟩ = some (.int .i64 t.2.2.1) ∧ w.cell? ⟨g, p * 4 + 3, none⟩ = some (.int .i64 t.2.2.2) := by
  obtain ⟨hp, he⟩ := List.getElem?_eq_some_iff.1 ht
  obtain ⟨g, e1, e2, -⟩ := h.2.2 hp
  have h1 := tok_cells (h.2.1.toks.2.resolve_left (fun e => by rw [e] at hp; exact absurd hp (by simp))) p hp
  rw [he] at h1
  obtain ⟨g', e3, h2⟩ := h1
  rw [e1] at e3
  injection e3 with e3
  injection e3 with e3
  subst e3
  exact ⟨g, e2, h2⟩
def Tq (W w : World) (R : Nat) (ta : Option Addr) (tc : Nat) (i l o : Value) (L : List Tok) (p : Nat) (all : List Nd) (S : List It) : Prop :=
  ∃ (la : Option Addr) (lc : Nat) (a : Option Addr) (c : Nat) (sa : Option Addr) (sc : Nat), W.heap.size ≤ R ∧ BoxC w R #[.slice la (L.length - p) lc, i, l, o, .slice a all.length c, .slice sa S.length sc] 59 ∧
    NodesM W w a c all ∧ OwnC 20 1 W w (.slice sa S.length sc) S.length (S.map itV) ∧ LeftT W w ta tc L p la lc
section
variable {W w w' : World} {R : Nat} {ta : Option Addr} {tc : Nat} {i l o : Value} {L : List Tok} {p : Nat} {all : List Nd} {S : List It}
theorem Tq.below (h : Tq W w R ta tc i l o L p all S) : Below W.heap.size W w := by
  obtain ⟨la, lc, a, c, sa, sc, h1, h2, h3, h4, h5⟩ := h; exact h4.below
theorem Tq.more (h : Tq W w R ta tc i l o L p all S) (hb : Below w.heap.size w w') : Tq W w' R ta tc i l o L p all S := by
  obtain ⟨la, lc, a, c, sa, sc, h1, h2, h3, h4, h5⟩ := h
  exact ⟨la, lc, a, c, sa, sc, h1, h2.more hb, h3.more hb, h4.more hb, h5.more hb⟩
end
def nextT (L : List Tok) (p : Nat) : Tok := (L[p]?).getD (0, noText, 0, 0)
end Go.Proofs.YtbcfplaalepnbaaGreatDoor
namespace Go.Proofs.YtbcfplaalepnbaaGreatDoor
open Go.RowKit Go.Lib
section
variable {W w : World} {R : Nat} {ta : Option Addr} {tc : Nat} {i l o : Value} {L : List Tok} {p : Nat} {all : List Nd} {S : List It}
set_option maxHeartbeats 4000000 in
theorem q_next (h : Tq W w R ta tc i l o L p all S) :
    Calls Tryz.prog 83 #[.pointer (some ⟨R, 0, none⟩)] w fun e w' => e = .returned (.agg #[.int .i64 (nextT L p).1, .string (nextT L p).2.1, .int .i64 (nextT L p).2.2.1, .int .i64 (nextT L p).2.2.2]) ∧ Below w.heap.size w w' := by
  obtain ⟨la, lc, a, c, sa, sc, hW, B, hN, hS, hT⟩ := h
  have x0 := (B.cell 0).1
  have NB : ∀ (a0 : Int) (a1 : ByteArray) (a2 a3 : Int), Hid (BoxC (w.alloc (.cells #[.int .i64 a0, .string a1, .int .i64 a2, .int .i64 a3] 66)) w.heap.size #[.int .i64 a0, .string a1, .int .i64 a2, .int .i64 a3] 66 ∧ Below w.heap.size w (w.alloc (.cells #[.int .i64 a0, .string a1, .int .i64 a2, .int .i64 a3] 66))) := fun a0 a1 a2 a3 => ⟨(boxes1 w _ _).1, (boxes1 w _ _).2.1⟩
  have hR := B.lt
  unfold nextT
  cases ht : L[p]? with
  | none =>
    have hp := List.getElem?_eq_none_iff.1 ht
    have hz : L.length - p = 0 := by omega
    rw [hz] at x0
    have hk : ((0 : Nat) : Int) = 0 := rfl
    show Calls Tryz.prog _ _ w fun e w' => e = .returned (.agg #[.int .i64 0, .string noText, .int .i64 0, .int .i64 0]) ∧ _
    unfold noText
    clear hN hS hT B hp ht hW
    go_enter Tryz.func83, Tryz.ntmps83
    go_wp2
    obtain ⟨b1, b2⟩ := (NB 0 ⟨#[]⟩ 0 0).out
    have c0 := (b1.cell 0).1
    have c1 := (b1.cell 1).1
    have c2 := (b1.cell 2).1
    have c3 := (b1.cell 3).1
    exact bodyPost_ret (v := .agg #[.int .i64 0, .string ⟨#[]⟩, .int .i64 0, .int .i64 0]) (by simp [results, Tryz.results83, go_sem, c0, c1, c2, c3]) rfl ⟨rfl, b2⟩
  | some t =>
    have hp := (List.getElem?_eq_some_iff.1 ht).1
    have k1 : ¬ ((L.length - p : Nat) : Int) = 0 := by omega
    have k2 : 0 < L.length - p := by omega
    have k3 : (0 : Int) < ((L.length - p : Nat) : Int) := by omega
    obtain ⟨g, rfl, t0, t1, t2, t3⟩ := hT.tok ht
    have hg : g < w.heap.size := World.block_lt_of_cell? w ⟨g, p * 4, none⟩ t0
    show Calls Tryz.prog _ _ w fun e w' => e = .returned (.agg #[.int .i64 t.1, .string t.2.1, .int .i64 t.2.2.1, .int .i64 t.2.2.2]) ∧ _
    generalize L.length - p = n at *
    generalize t.1 = y0 at *
    generalize t.2.1 = y1 at *
    generalize t.2.2.1 = y2 at *
    generalize t.2.2.2 = y3 at *
    clear hN hS hT B hp ht hW
    go_enter Tryz.func83, Tryz.ntmps83
    go_wp2
    obtain ⟨b1, b2⟩ := (NB y0 y1 y2 y3).out
    have c0 := (b1.cell 0).1
    have c1 := (b1.cell 1).1
    have c2 := (b1.cell 2).1
    have c3 := (b1.cell 3).1
    exact bodyPost_ret (v := .agg #[.int .i64 y0, .string y1, .int .i64 y2, .int .i64 y3]) (by simp [results, Tryz.results83, go_sem, c0, c1, c2, c3]) rfl ⟨rfl, b2⟩
theorem Tq.left {la : Option Addr} {lc : Nat} {a : Option Addr} {c : Nat} {sa : Option Addr} {sc : Nat} (hW : W.heap.size ≤ R) (B : BoxC w R #[.slice la (L.length - p) lc, i, l, o, .slice a all.length c, .slice sa S.length sc] 59)
    (hN : NodesM W w a c all) (hS : OwnC 20 1 W w (.slice sa S.length sc) S.length (S.map itV)) (hT : LeftT W w ta tc L p la lc) {q : Nat} {la' : Option Addr} {lc' : Nat} (hq : q ≤ L.length)
    (hl : q < L.length → ∃ g, ta = some ⟨g, 0, none⟩ ∧ la' = some ⟨g, q * 4, none⟩ ∧ lc' = tc - q ∧ L.length ≤ tc) :
    Tq W (w.setCell ⟨R, 0, none⟩ (.slice la' (L.length - q) lc')) R ta tc i l o L q all S ∧ Keep TY w (w.setCell ⟨R, 0, none⟩ (.slice la' (L.length - q) lc')) :=
  ⟨⟨la', lc', a, c, sa, sc, hW, B.set 0 _, hN.box B (by decide) (by decide) hW _ _, hS.box B (by decide) hW _ _, hq, hT.2.1.box B (by decide) hW _ _, hl⟩, (Keep.refl TY w).set B ty_reader 0 _⟩
set_option maxHeartbeats 4000000 in
theorem q_skip (h : Tq W w R ta tc i l o L p all S) (hp : p < L.length) :
    Calls Tryz.prog 84 #[.pointer (some ⟨R, 0, none⟩)] w fun e w' => e = .returned (.tuple #[]) ∧ Tq W w' R ta tc i l o L (p + 1) all S ∧ Keep TY w w' := by
  obtain ⟨la, lc, a, c, sa, sc, hW, B, hN, hS, hT⟩ := h
  have x0 := (B.cell 0).1
  have y0 := (B.cell 0).2
  have hR := B.lt
  obtain ⟨g, rfl, rfl, rfl, htc⟩ := hT.2.2 hp
  have LF := fun (la' : Option Addr) (lc' : Nat) => Tq.left (la' := la') (lc' := lc') (q := p + 1) hW B hN hS hT (by omega)
  have HL : Hid _ := LF
  clear LF hW hN hS hT B
  obtain ⟨n, hn⟩ : ∃ n, L.length - p = n + 1 := ⟨L.length - p - 1, by omega⟩
  have hn' : L.length - (p + 1) = n := by omega
  rw [hn'] at HL
  rw [hn] at x0
  have e1 : (p + 1) * 4 = p * 4 + 4 := by omega
  by_cases hc : tc - p - 1 = 0
  · have k1 : 1 ≤ tc - p := by omega
    have k2 : (1 : Int) ≤ ((tc - p : Nat) : Int) := by omega
    have k3 : ¬ p + 1 < L.length := by omega
    generalize tc - p = C at *
    go_enter Tryz.func84, Tryz.ntmps84
    go_wp2
    go_end0
    exact ⟨rfl, HL.out _ _ (fun q => absurd q k3)⟩
  · have k1 : 1 ≤ tc - p := by omega
    have k2 : (1 : Int) ≤ ((tc - p : Nat) : Int) := by omega
    have e2 : tc - p - 1 = tc - (p + 1) := by omega
    go_enter Tryz.func84, Tryz.ntmps84
    go_wp2
    go_end0
    exact ⟨rfl, HL.out _ _ (fun q => ⟨g, rfl, by rw [e1], e2, htc⟩)⟩
theorem next_lt {L : List Tok} {p : Nat} {x : ByteArray} (hb : ((nextT L p).2.1.toList == x.toList) = true) (hx : x.toList ≠ []) : p < L.length := by
  rcases Nat.lt_or_ge p L.length with q | q
  · exact q
  · exfalso
    have e : nextT L p = (0, noText, 0, 0) := by unfold nextT; rw [List.getElem?_eq_none q]; rfl
    rw [e] at hb
    exact hx (by rw [beq_iff_eq] at hb; exact hb.symm.trans (by show (⟨#[]⟩ : ByteArray).toList = []; simp [ByteArray.toList_eq]))
set_option maxHeartbeats 4000000 in
theorem q_pass (h : Tq W w R ta tc i l o L p all S) (x : ByteArray) (hx : x.toList ≠ []) (b : Bool) (hb : ((nextT L p).2.1.toList == x.toList) = b) :
    Calls Tryz.prog 53 #[.pointer (some ⟨R, 0, none⟩), .string x] w fun e w' => e = .returned (.bool b) ∧ Tq W w' R ta tc i l o L (if b = true then p + 1 else p) all S ∧ Keep TY w w' := by
  have NX := q_next h
  have FD : ∀ (a0 : Int) (a1 : ByteArray) (a2 a3 : Int) (v : World), Sem.run Tryz.prog (Instr.field 66 (.agg #[.int .i64 a0, .string a1, .int .i64 a2, .int .i64 a3]) 1) v = .ok (.string a1) v := fun a0 a1 a2 a3 v => by kernel_rfl
  have hh : Hid (Tq W w R ta tc i l o L p all S) := h
  cases b with
  | false =>
    generalize (nextT L p).1 = y0 at *
    generalize (nextT L p).2.1 = y1 at *
    generalize (nextT L p).2.2.1 = y2 at *
    generalize (nextT L p).2.2.2 = y3 at *
    clear h hx
    go_enter Tryz.func53, Tryz.ntmps53
    go_wp2_with (go_at_call 83; (with_reducible refine Calls.mono NX ?_); rintro e w1 ⟨rfl, d1⟩)
    go_ret
    exact ⟨rfl, hh.out.more d1, Keep.of TY d1⟩
  | true =>
    have hp := next_lt hb hx
    have SK := fun (v : World) (d : Below w.heap.size w v) => q_skip (h.more d) hp
    generalize (nextT L p).1 = y0 at *
    generalize (nextT L p).2.1 = y1 at *
    generalize (nextT L p).2.2.1 = y2 at *
    generalize (nextT L p).2.2.2 = y3 at *
    clear h hx
    go_enter Tryz.func53, Tryz.ntmps53
    go_wp2_with (first
      | (go_at_call 83; (with_reducible refine Calls.mono NX ?_); rintro e w1 ⟨rfl, d1⟩)
      | (go_at_call 84; (with_reducible refine Calls.mono (SK _ (by assumption)) ?_); rintro e w2 ⟨rfl, T2, K2⟩))
    go_ret
    exact ⟨rfl, T2, (Keep.of TY d1).trans K2⟩
theorem infoAny : (Tryz.prog.info? 20).map (fun i => (i.zero, i.size, i.bytes)) = some (some .nilIface, 1, 16) := by kernel_rfl
theorem Tq.stack {la : Option Addr} {lc : Nat} {a : Option Addr} {c : Nat} {x5 : Value} (hW : W.heap.size ≤ R) (B : BoxC w R #[.slice la (L.length - p) lc, i, l, o, .slice a all.length c, x5] 59)
    (hN : NodesM W w a c all) (hT : LeftT W w ta tc L p la lc) {S' : List It} {n : Nat} {sa' : Option Addr} {sc' : Nat} (hn : S'.length = n) (hS : OwnC 20 1 W w (.slice sa' n sc') n (S'.map itV)) :
    Tq W (w.setCell ⟨R, 5, none⟩ (.slice sa' n sc')) R ta tc i l o L p all S' ∧ Keep TY w (w.setCell ⟨R, 5, none⟩ (.slice sa' n sc')) := by
  subst hn
  exact ⟨⟨la, lc, a, c, sa', sc', hW, B.set 5 _, hN.box B (by decide) (by decide) hW _ _, hS.box B (by decide) hW _ _, hT.1, hT.2.1.box B (by decide) hW _ _, hT.2.2⟩, (Keep.refl TY w).set B ty_reader 5 _⟩
def topV (S : List It) : Value := match S.getLast? with
  | some x => itV x
  | none => .nilIface
theorem stack_last {sa : Option Addr} {sc : Nat} {S0 : List It} {x : It} (hS : OwnC 20 1 W w (.slice sa (S0.length + 1) sc) (S0.length + 1) ((S0 ++ [x]).map itV)) :
    ∃ g, sa = some ⟨g, 0, none⟩ ∧ w.cell? ⟨g, S0.length, none⟩ = some (itV x) ∧ S0.length + 1 ≤ sc := by
  obtain ⟨⟨h1, h2⟩, hb⟩ := hS
  rcases h2 with ⟨-, hn⟩ | ⟨g, cap, cur, hv, hg, hh, hnc, hcm, hcs, ht⟩
  · omega
  · injection hv with e1 e2 e3
    subst e1; subst e3
    have hr := (OwnC.reads (W := W) (k := 1) (T := 20) (w := w) (a := some ⟨g, 0, none⟩) (n := S0.length + 1) (c := sc) (cs := (S0 ++ [x]).map itV) ⟨⟨h1, .inr ⟨g, sc, cur, rfl, hg, hh, hnc, hcm, hcs, ht⟩⟩, hb⟩).2
    obtain ⟨y, hy, hc⟩ := hr.resolve_left (by omega)
    injection hy with hy
    subst hy
    have := hc S0.length (itV x) (by simp)
    refine ⟨g, rfl, ?_, hnc⟩
    rcases S0 with _ | ⟨z, S1⟩ <;> simpa [Addr.add] using this
set_option maxHeartbeats 4000000 in
theorem q_top_nil (h : Tq W w R ta tc i l o L p all []) :
    Calls Tryz.prog 146 #[.pointer (some ⟨R, 0, none⟩)] w fun e w' => e = .returned .nilIface ∧ Below w.heap.size w w' := by
  obtain ⟨la, lc, a, c, sa, sc, hW, B, hN, hS, hT⟩ := h
  have x5 := (B.cell 5).1
  have hR := B.lt
  have hk : ((([] : List It).length : Nat) : Int) = 0 := rfl
  generalize ([] : List It).length = n at *
  clear hN hS hT B hW
  go_enter Tryz.func146, Tryz.ntmps146
  go_wp2
  go_ret
  exact ⟨rfl, Below.refl _ _⟩
set_option maxHeartbeats 4000000 in
theorem q_top_some {S0 : List It} {x : It} (h : Tq W w R ta tc i l o L p all (S0 ++ [x])) (hl : S0.length ≤ 100000) :
    Calls Tryz.prog 146 #[.pointer (some ⟨R, 0, none⟩)] w fun e w' => e = .returned (itV x) ∧ Below w.heap.size w w' := by
  obtain ⟨la, lc, a, c, sa, sc, hW, B, hN, hS, hT⟩ := h
  have x5 := (B.cell 5).1
  have hR := B.lt
  have hn : (S0 ++ [x]).length = S0.length + 1 := by simp
  rw [hn] at hS x5
  obtain ⟨g, rfl, hc, -⟩ := stack_last hS
  have w0 : wrap64 ((S0.length : Int) + 1 - 1) = S0.length := by rw [show (S0.length : Int) + 1 - 1 = S0.length by omega]; exact wrap_smalls (by omega) (by omega)
  have w1 : IntKind.i64.wrap ((S0.length : Int) + 1 - 1) = S0.length := by rw [IntKind.wrap_i64]; omega
  have w2 : IntKind.i64.wrap (S0.length : Int) = S0.length := by rw [IntKind.wrap_i64]; omega
  have w3 : wrap64 (S0.length : Int) = S0.length := wrap_smalls (by omega) (by omega)
  have k0 : (((S0.length + 1 : Nat) : Int) == 0) = false := by rw [beq_eq_false_iff_ne]; omega
  have k1 : ¬ ((S0.length : Int) + 1 = 0) := by omega
  have k2 : (S0.length : Int) < ((S0.length + 1 : Nat) : Int) := by omega
  have k3 : S0.length < S0.length + 1 := by omega
  have k4 : (0 : Int) ≤ (S0.length : Int) := by omega
  generalize itV x = y at *
  generalize S0.length = n at *
  clear hN hS hT B hW hl hn
  go_enter Tryz.func146, Tryz.ntmps146
  go_wp2
  go_quiet (fail)
  go_wp2
  go_ret
  exact ⟨rfl, below_drewN (Below.refl _ _) _⟩
theorem q_top (h : Tq W w R ta tc i l o L p all S) (hl : S.length ≤ 100000) :
    Calls Tryz.prog 146 #[.pointer (some ⟨R, 0, none⟩)] w fun e w' => e = .returned (topV S) ∧ Below w.heap.size w w' := by
  unfold topV
  rcases List.eq_nil_or_concat S with rfl | ⟨S0, x, rfl⟩
  · exact q_top_nil h
  · rw [List.concat_eq_append] at *
    have hlast : (S0 ++ [x]).getLast? = some x := by simp
    rw [hlast]
    have hn : (S0 ++ [x]).length = S0.length + 1 := by simp
    exact q_top_some h (by omega)
set_option maxHeartbeats 4000000 in
theorem q_drop {S0 : List It} {x : It} (h : Tq W w R ta tc i l o L p all (S0 ++ [x])) (hl : S0.length ≤ 100000) :
    Calls Tryz.prog 147 #[.pointer (some ⟨R, 0, none⟩)] w fun e w' => e = .returned (.tuple #[]) ∧ Tq W w' R ta tc i l o L p all S0 ∧ Keep TY w w' := by
  obtain ⟨la, lc, a, c, sa, sc, hW, B, hN, hS, hT⟩ := h
  have x5 := (B.cell 5).1
  have y5 := (B.cell 5).2
  have hR := B.lt
  have hn : (S0 ++ [x]).length = S0.length + 1 := by simp
  rw [hn] at hS x5
  obtain ⟨g, rfl, hc, hsc⟩ := stack_last hS
  have hS' := hS.cut (m := S0.length) (by omega)
  have e0 : ((S0 ++ [x]).map itV).take (S0.length * 1) = S0.map itV := by rw [Nat.mul_one, List.map_append, List.take_append_of_le_length (by simp), List.take_of_length_le (by simp)]
  rw [e0] at hS'
  have ST := fun (v : World) (d : Below w.heap.size w v) => Tq.stack (S' := S0) hW (B.more d) (hN.more d) (hT.more d) rfl (hS'.more d)
  have HS : Hid _ := ST
  have w0 : wrap64 ((S0.length : Int) + 1 - 1) = S0.length := by rw [show (S0.length : Int) + 1 - 1 = S0.length by omega]; exact wrap_smalls (by omega) (by omega)
  have w1 : IntKind.i64.wrap ((S0.length : Int) + 1 - 1) = S0.length := by rw [IntKind.wrap_i64]; omega
  have w2 : IntKind.i64.wrap (S0.length : Int) = S0.length := by rw [IntKind.wrap_i64]; omega
  have w3 : wrap64 (S0.length : Int) = S0.length := wrap_smalls (by omega) (by omega)
  have k4 : (0 : Int) ≤ (S0.length : Int) := by omega
  have k5 : (S0.length : Int) ≤ (sc : Int) := by omega
  have k6 : S0.length ≤ sc := by omega
  clear ST hN hS hS' hT B hW hl hn e0 hc
  generalize S0.length = n at *
  go_enter Tryz.func147, Tryz.ntmps147
  go_wp2
  go_region_law (fail)
  all_goals
    go_wp2
    go_end0
    exact ⟨rfl, HS.out _ (Below.refl _ _).drew⟩
end
end Go.Proofs.YtbcfplaalepnbaaGreatDoor
namespace Go.Proofs.YtbcfplaalepnbaaGreatDoor
open Go.RowKit Go.Lib
section
variable {W w : World} {R : Nat} {ta : Option Addr} {tc : Nat} {i l o : Value} {L : List Tok} {p : Nat} {all : List Nd} {S : List It}
set_option maxHeartbeats 4000000 in
theorem q_push (h : Tq W w R ta tc i l o L p all S) (x : It) (hl : S.length ≤ 100000) :
    Calls Tryz.prog 136 #[.pointer (some ⟨R, 0, none⟩), itV x] w fun e w' => e = .returned (.tuple #[]) ∧ Tq W w' R ta tc i l o L p all (S ++ [x]) ∧ Keep TY w w' := by
  obtain ⟨la, lc, a, c, sa, sc, hW, B, hN, hS, hT⟩ := h
  have x5 := (B.cell 5).1
  have hR := B.lt
  have HA : Hid ((Value.slice sa S.length sc).ownBlock ≠ some R) := hS.apart B (by decide)
  have m1 : S.length + 1 ≤ maxLen := by unfold maxLen; omega
  have m2 : (S.length + 1) * 16 ≤ 140737488355328 := by omega
  have hn : (S ++ [x]).length = S.length + 1 := by simp
  have hm : (S ++ [x]).map itV = S.map itV ++ [itV x] := by simp
  have oo := fun z => hS.alloc z
  have HH : Hid (W.heap.size ≤ R ∧ BoxC w R #[.slice la (L.length - p) lc, i, l, o, .slice a all.length c, .slice sa S.length sc] 59 ∧ NodesM W w a c all ∧ LeftT W w ta tc L p la lc ∧ (S ++ [x]).length = S.length + 1 ∧ (S ++ [x]).map itV = S.map itV ++ [itV x]) := ⟨hW, B, hN, hT, hn, hm⟩
  obtain ⟨t, v, e⟩ : ∃ t v, itV x = .iface t v := by rcases x with _ | (_ | ⟨_, _⟩) <;> exact ⟨_, _, rfl⟩
  have e' : Hid (itV x = .iface t v) := e
  rw [e]
  clear e
  clear hW B hN hT hS hn hm hl
  go_enter Tryz.func136, Tryz.ntmps136
  go_wp2_with (at_builtin; go_loud (refine wpl_append_c (t := 57) (e := 20) Tryz.underlying57 infoAny rfl (by decide) (.tmp 8) (.tmp 10) rfl rfl W _ _ S.length (S.map itV) (some ⟨w.heap.size, 0, none⟩) 1 1 [.iface t v] rfl rfl (oo _) (BoxC.new w #[.iface t v] 20).isc (by simp [Value.oneCell']) (by simp) m1 m2 ?_; intro a3 c3 w3 _ o3 g3; have D2 := (HH.out.2.1.alloc (.cells #[.iface t v] 20)).grown g3 HA.out; have y5 := (D2.cell 5).2; have z5 := (D2.cell 5).1))
  go_end0
  obtain ⟨hW, B, hN, hT, hn, hm⟩ := HH.out
  have d := (Below.refl w.heap.size w).alloc (Nat.le_refl _) (.cells #[.iface t v] 20)
  obtain ⟨q1, q2⟩ := Tq.stack (S' := S ++ [x]) hW D2 ((hN.more d).grown (oo _) (by decide) (by decide) g3 o3.below) ((hT.more d).grown (oo _) (by decide) g3 o3.below) hn (by rw [hm, e'.out]; exact o3)
  exact ⟨rfl, q1, (((Keep.refl TY w).alloc _).grown (oo _) ty_any g3).trans q2⟩
theorem Tq.node {la : Option Addr} {lc : Nat} {x4 : Value} {sa : Option Addr} {sc : Nat} {n : Nd} {u v : Value} {a3 : Option Addr} {c3 N : Nat} {ms : List Mn} {w3 : World} (hN : all.length = N) (hW : W.heap.size ≤ R)
    (B : BoxC w3 R #[.slice la (L.length - p) lc, i, l, o, x4, .slice sa S.length sc] 59) (O : OwnC 44 8 W w3 (.slice a3 (N + 1) c3) (N + 1) (flat encM ms ++ encM (rawOf n, u, v)))
    (hms : ms.map (·.1) = all.map rawOf) (hnw : ∀ m ∈ ms, NumW W w3 m) (hm : NumW W w3 (rawOf n, u, v)) (hS : OwnC 20 1 W w3 (.slice sa S.length sc) S.length (S.map itV)) (hT : LeftT W w3 ta tc L p la lc) :
    Tq W (w3.setCell ⟨R, 4, none⟩ (.slice a3 (N + 1) c3)) R ta tc i l o L p (all ++ [n]) S ∧ Keep TY w3 (w3.setCell ⟨R, 4, none⟩ (.slice a3 (N + 1) c3)) := by
  subst hN
  have e : (all ++ [n]).length = all.length + 1 := by simp
  have hk := (Keep.refl TY w3).set B ty_reader 4 (.slice a3 (all.length + 1) c3)
  have hb := O.below.setCell (p := ⟨R, 4, none⟩) hW (.slice a3 (all.length + 1) c3)
  refine ⟨⟨la, lc, a3, c3, sa, sc, hW, by rw [e]; exact B.set 4 _, ⟨ms ++ [(rawOf n, u, v)], ?_, ?_, ?_⟩, hS.box B (by decide) hW _ _, hT.1, hT.2.1.box B (by decide) hW _ _, hT.2.2⟩, hk⟩
  · rw [e, flat_append, flat_one]
    exact O.box B (by decide) hW _ _
  · rw [List.map_append, List.map_append, hms]; rfl
  · intro m hmm
    rcases List.mem_append.1 hmm with q | q
    · exact ⟨OwnC.keep (hnw m q).1 hk ty_u32 hb, OwnC.keep (hnw m q).2 hk ty_u32 hb⟩
    · obtain rfl := List.mem_singleton.1 q
      exact ⟨OwnC.keep hm.1 hk ty_u32 hb, OwnC.keep hm.2 hk ty_u32 hb⟩
set_option maxHeartbeats 16000000 in
theorem q_add (h : Tq W w R ta tc i l o L p all S) (n : Nd) (ua : Option Addr) (un uc : Nat) (va : Option Addr) (vn vc : Nat) (hN : NumW W w (rawOf n, .slice ua un uc, .slice va vn vc)) (hl : all.length ≤ 100000) :
    Calls Tryz.prog 150 #[.pointer (some ⟨R, 0, none⟩), .agg #[.int .i64 n.kind, .int .i64 n.a, .int .i64 n.b, .int .i64 n.exp, .string n.name, .bool n.num.1, .slice ua un uc, .slice va vn vc]] w fun e w' => e = .returned (.int .i64 all.length) ∧ Tq W w' R ta tc i l o L p (all ++ [n]) S ∧ Keep TY w w' := by
  obtain ⟨la, lc, a, c, sa, sc, hW, B, ⟨ms, O, hms, hnw⟩, hS, hT⟩ := h
  have hR := B.lt
  have x4 := (B.cell 4).1
  have y4 := (B.cell 4).2
  have N1 := boxes1 w #[.int .i64 n.kind, .int .i64 n.a, .int .i64 n.b, .int .i64 n.exp, .string n.name, .bool n.num.1, .slice ua un uc, .slice va vn vc] 44
  have z0 := (N1.1.cell 0).1
  have z1 := (N1.1.cell 1).1
  have z2 := (N1.1.cell 2).1
  have z3 := (N1.1.cell 3).1
  have z4 := (N1.1.cell 4).1
  have z5 := (N1.1.cell 5).1
  have z6 := (N1.1.cell 6).1
  have z7 := (N1.1.cell 7).1
  have w0 : wrap64 (all.length : Int) = all.length := wrap_smalls (by omega) (by omega)
  have w1 : wrap64 ((all.length : Int) + 1 - 1) = all.length := by rw [show (all.length : Int) + 1 - 1 = all.length by omega]; exact w0
  have one := encM_one (rawOf n, .slice ua un uc, .slice va vn vc) ⟨_, _, _, rfl⟩ ⟨_, _, _, rfl⟩
  have HA : Hid ((Value.slice a all.length c).ownBlock ≠ some R) := O.apart B (by decide)
  have SRC := fun (v : World) => (BoxC.new v (encM (rawOf n, .slice ua un uc, .slice va vn vc)).toArray 44).isc
  have HH : Hid (W.heap.size ≤ R ∧ BoxC w R #[.slice la (L.length - p) lc, i, l, o, .slice a all.length c, .slice sa S.length sc] 59 ∧ OwnC 44 8 W w (.slice a all.length c) all.length (flat encM ms) ∧ ms.map (·.1) = all.map rawOf ∧ (∀ m ∈ ms, NumW W w m) ∧ OwnC 20 1 W w (.slice sa S.length sc) S.length (S.map itV) ∧ LeftT W w ta tc L p la lc ∧ NumW W w (rawOf n, .slice ua un uc, .slice va vn vc)) := ⟨hW, B, O, hms, hnw, hS, hT, hN⟩
  have HB : Hid (Below w.heap.size w (w.alloc (.cells #[.int .i64 n.kind, .int .i64 n.a, .int .i64 n.b, .int .i64 n.exp, .string n.name, .bool n.num.1, .slice ua un uc, .slice va vn vc] 44))) := N1.2.1
  have HL : Hid (all.length ≤ 100000) := hl
  clear hW B O hms hnw hT hN hS N1 hl
  go_enter Tryz.func150, Tryz.ntmps150
  go_wp2
  have hz : w.heap.size < (w.alloc (.cells #[.int .i64 n.kind, .int .i64 n.a, .int .i64 n.b, .int .i64 n.exp, .string n.name, .bool n.num.1, .slice ua un uc, .slice va vn vc] 44)).heap.size := by simp
  generalize w.alloc (.cells #[.int .i64 n.kind, .int .i64 n.a, .int .i64 n.b, .int .i64 n.exp, .string n.name, .bool n.num.1, .slice ua un uc, .slice va vn vc] 44) = V at *
  have BV := HH.out.2.1.more HB.out
  have x4 := (BV.cell 4).1
  have hRV : R < V.heap.size := BV.lt
  have oo := fun z => ((HH.out.2.2.1.more HB.out).drew).alloc z
  have m1 : all.length + 1 ≤ maxLen := by have := HL.out; unfold maxLen; omega
  have m2 : (all.length + 1) * 104 ≤ 140737488355328 := by have := HL.out; omega
  generalize hlen : all.length = N at *
  go_region_law (first
    | (refine stp_append_c (t := 25) (e := 44) Tryz.underlying25 infoNode rfl (by decide) (.tmp 10) (.tmp 12) rfl rfl W _ _ N (flat encM ms) V.heap.size 1 1 (encM (rawOf n, .slice ua un uc, .slice va vn vc)) rfl rfl (oo _) (SRC V.drew) (by decide) one m1 m2 ?_; intro a3 c3 w3 o3 g3; have D2 := (BV.drew.alloc (.cells (encM (rawOf n, .slice ua un uc, .slice va vn vc)).toArray 44)).grown g3 HA.out; have y3 := (D2.cell 4).2; have x3' := (D2.cell 4).1))
  all_goals
    obtain ⟨hW, -, hO, hms, hnw, hS, hT, hN⟩ := HH.out
    have d3 : Below w.heap.size w (V.drew.alloc (.cells (encM (rawOf n, .slice ua un uc, .slice va vn vc)).toArray 44)) := HB.out.drew.alloc HB.out.size _
    have KY := (Keep.of TY d3).grown (oo _) ty_node g3
    have RN := Tq.node (p := p) (S := S) (u := .slice ua un uc) (v := .slice va vn vc) hlen hW D2 o3 hms (fun m hm => ⟨OwnC.keep (hnw m hm).1 KY ty_u32 o3.below, OwnC.keep (hnw m hm).2 KY ty_u32 o3.below⟩) ⟨OwnC.keep hN.1 KY ty_u32 o3.below, OwnC.keep hN.2 KY ty_u32 o3.below⟩ (OwnC.keep (hS.more d3) ((Keep.refl (fun T => T = 44) _).grown (oo _) rfl g3) (by decide) o3.below) ((hT.more d3).grown (oo _) (by decide) g3 o3.below)
    have K4 := KY.trans RN.2
    have x4' := (D2.set 4 (.slice a3 (N + 1) c3)).cell 4
    obtain ⟨x6', -⟩ := x4'
    have HR : Hid _ := RN.1
    have HK : Hid _ := K4
    clear RN K4 KY d3 hW hO hms hnw hT hS hN BV oo D2 o3 g3 z0 z1 z2 z3 z4 z5 z6 z7 SRC one HA HH HB x4 y4 x3' y3
    go_wp2
    go_ret
    exact ⟨by rw [hlen]; rfl, HR.out, HK.out⟩
end
end Go.Proofs.YtbcfplaalepnbaaGreatDoor
namespace Go.Proofs.YtbcfplaalepnbaaGreatDoor
open Go.RowKit Go.Lib
theorem ta_nd (n : Int) (v : World) : Sem.run Tryz.prog (Instr.typeAssert (.iface 139 (.int .i64 n)) 20 139 true) v = .ok (.tuple #[.int .i64 n, .bool true]) v := by kernel_rfl
theorem ta_nd_nil (v : World) : Sem.run Tryz.prog (Instr.typeAssert .nilIface 20 139 true) v = .ok (.tuple #[.int .i64 0, .bool false]) v := by kernel_rfl
theorem ta_nd_wt (k b : Int) (v : World) : Sem.run Tryz.prog (Instr.typeAssert (.iface 156 (.agg #[.int .i64 k, .int .i64 b])) 20 139 true) v = .ok (.tuple #[.int .i64 0, .bool false]) v := by kernel_rfl
theorem ta_nd_br (v : World) : Sem.run Tryz.prog (Instr.typeAssert (.iface 167 (.agg #[])) 20 139 true) v = .ok (.tuple #[.int .i64 0, .bool false]) v := by kernel_rfl
theorem ta_wt (k b : Int) (v : World) : Sem.run Tryz.prog (Instr.typeAssert (.iface 156 (.agg #[.int .i64 k, .int .i64 b])) 20 156 true) v = .ok (.tuple #[.agg #[.int .i64 k, .int .i64 b], .bool true]) v := by kernel_rfl
theorem ta_wt_nil (v : World) : Sem.run Tryz.prog (Instr.typeAssert .nilIface 20 156 true) v = .ok (.tuple #[.agg #[.int .i64 0, .int .i64 0], .bool false]) v := by kernel_rfl
theorem ta_wt_br (v : World) : Sem.run Tryz.prog (Instr.typeAssert (.iface 167 (.agg #[])) 20 156 true) v = .ok (.tuple #[.agg #[.int .i64 0, .int .i64 0], .bool false]) v := by kernel_rfl
section
variable {W w : World} {R : Nat} {ta : Option Addr} {tc : Nat} {i l o : Value} {L : List Tok} {p : Nat} {all : List Nd} {S : List It}
set_option maxHeartbeats 4000000 in
theorem q_take_nd {n : Int} (h : Tq W w R ta tc i l o L p all (S ++ [.nd n])) (hl : S.length ≤ 100000) :
    Calls Tryz.prog 133 #[.pointer (some ⟨R, 0, none⟩)] w fun e w' => e = .returned (.tuple #[.int .i64 n, .bool true]) ∧ Tq W w' R ta tc i l o L p all S ∧ Keep TY w w' := by
  have TP := q_top_some h hl
  have DR := fun (v : World) (d : Below w.heap.size w v) => q_drop (h.more d) hl
  unfold itV at TP
  dsimp only at TP
  clear h hl
  have TA := ta_nd n
  go_enter Tryz.func133, Tryz.ntmps133
  go_wp2_with (first
    | (go_at_call 146; (with_reducible refine Calls.mono TP ?_); rintro e w1 ⟨rfl, d1⟩)
    | (go_at_call 147; (with_reducible refine Calls.mono (DR _ (by assumption)) ?_); rintro e w2 ⟨rfl, T2, K2⟩))
  go_ret2
  exact ⟨rfl, T2, (Keep.of TY d1).trans K2⟩
set_option maxHeartbeats 4000000 in
theorem q_take_no (h : Tq W w R ta tc i l o L p all S) (hl : S.length ≤ 100000) (hS : ∀ n, S.getLast? ≠ some (.nd n)) :
    Calls Tryz.prog 133 #[.pointer (some ⟨R, 0, none⟩)] w fun e w' => e = .returned (.tuple #[.int .i64 0, .bool false]) ∧ Below w.heap.size w w' := by
  have TP := q_top h hl
  unfold topV at TP
  cases hg : S.getLast? with
  | none =>
    rw [hg] at TP
    dsimp only at TP
    clear h hl hS hg
    have TA := ta_nd_nil
    go_enter Tryz.func133, Tryz.ntmps133
    go_wp2_with (go_at_call 146; (with_reducible refine Calls.mono TP ?_); rintro e w1 ⟨rfl, d1⟩)
    go_ret2
    exact ⟨rfl, d1⟩
  | some x =>
    rw [hg] at TP
    cases x with
    | inl n =>
      exact absurd hg (hS n)
    | inr y => cases y with
      | none =>
        unfold itV at TP
        dsimp only at TP
        clear h hl hS hg
        have TA := ta_nd_br
        go_enter Tryz.func133, Tryz.ntmps133
        go_wp2_with (go_at_call 146; (with_reducible refine Calls.mono TP ?_); rintro e w1 ⟨rfl, d1⟩)
        go_ret2
        exact ⟨rfl, d1⟩
      | some y =>
        obtain ⟨k, b⟩ := y
        unfold itV at TP
        dsimp only at TP
        clear h hl hS hg
        have TA := ta_nd_wt k b
        go_enter Tryz.func133, Tryz.ntmps133
        go_wp2_with (go_at_call 146; (with_reducible refine Calls.mono TP ?_); rintro e w1 ⟨rfl, d1⟩)
        go_ret2
        exact ⟨rfl, d1⟩
theorem stk_last (fs : List Fr) (n : Int) : (stk fs).getLast? ≠ some (.nd n) := by
  cases fs with
  | nil => simp [stk]
  | cons f fs => rcases f with ⟨k, l, c⟩ | (_ | _) <;> simp [stk]
theorem num_zeroY {W w : World} (hb : Below W.heap.size W w) (k a b x : Int) (y : ByteArray) : NumW W w (rawOf ⟨k, a, b, x, y, (false, 0, 0)⟩, .slice none 0 0, .slice none 0 0) := num_zero hb k a b x y
set_option maxHeartbeats 16000000 in
theorem q_settled {fs : List Fr} (h : Tq W w R ta tc i l o L p all (stk fs)) (c : Bool) (a : Int) (hl : all.length + (stk fs).length ≤ 50000) {E : List Fr × Int × Rd} (hE : setF c fs a ⟨p, false, all⟩ = E) :
    Calls Tryz.prog 137 #[.pointer (some ⟨R, 0, none⟩), .int .i64 a, .int .i64 (binds c)] w fun e w' => e = .returned (.int .i64 E.2.1) ∧ Tq W w' R ta tc i l o L p E.2.2.all (stk E.1) ∧ Keep TY w w' := by
  have HH : Hid (Tq W w R ta tc i l o L p all (stk fs) ∧ all.length + (stk fs).length ≤ 50000 ∧ setF c fs a ⟨p, false, all⟩ = E) := ⟨h, hl, hE⟩
  clear h hl hE
  have BD : binds c = 0 ∨ binds c = 1 := by unfold binds; split <;> simp
  generalize hbd : binds c = bd at *
  have HB : Hid (binds c = bd) := hbd
  clear hbd
  go_enter Tryz.func137, Tryz.ntmps137
  go_wp2
  go_loopg [1] fs.length (fun g s1 v => ∃ (gs : List Fr) (b : Int) (al : List Nd), s1 = .int .i64 b ∧ Tq W v R ta tc i l o L p al (stk gs) ∧ Keep TY w v ∧ setF c gs b ⟨p, false, al⟩ = E ∧ gs.length ≤ g ∧ al.length + (stk gs).length ≤ 50000)
  case atStart => exact ⟨fs, a, all, rfl, HH.out.1, Keep.refl TY w, HH.out.2.2, Nat.le_refl _, HH.out.2.1⟩
  case round =>
    obtain ⟨gs, b, al, rfl, T, K, hE, hg, hl⟩ := hrel
    cases gs with
    | nil =>
      obtain rfl : ([], b, (⟨p, false, al⟩ : Rd)) = E := hE
      have TP := q_top_nil T
      have HT : Hid (Tq W wr R ta tc i l o L p al (stk []) ∧ Keep TY w wr) := ⟨T, K⟩
      have TA := ta_wt_nil
      clear T K hg hl HH
      go_wp2_with (go_at_call 146; (with_reducible refine Calls.mono TP ?_); rintro e w1 ⟨rfl, d1⟩)
      go_ret
      have d2 := d1.alloc d1.size (.cells #[.int .i64 0, .int .i64 0] 156)
      exact ⟨rfl, HT.out.1.more d2, HT.out.2.more d2⟩
    | cons f gs =>
      cases f with
      | inl y =>
        obtain ⟨k, x, c1⟩ := y
        have hn : (stk (.inl (k, x, c1) :: gs)).length = (stk gs).length + 2 := by simp [stk]
        have TP := q_top_some (S0 := stk gs ++ [.nd x]) (x := .wt k (binds c1)) T (by simp; omega)
        unfold itV at TP
        dsimp only at TP
        by_cases hs : (c && !c1) = true
        · have kb : binds c1 < bd := by
            rw [← HB.out]
            cases c <;> cases c1 <;> simp [binds] at hs ⊢
          obtain rfl : (.inl (k, x, c1) :: gs, b, (⟨p, false, al⟩ : Rd)) = E := by
            rw [← hE]; unfold setF; rw [if_pos hs]
          have HT : Hid (Tq W wr R ta tc i l o L p al (stk (.inl (k, x, c1) :: gs)) ∧ Keep TY w wr) := ⟨T, K⟩
          have TA := ta_wt k (binds c1)
          generalize hb1 : binds c1 = b1 at *
          clear T K hg hl HH hn hs hb1 HB hE BD
          go_wp2_with (go_at_call 146; (with_reducible refine Calls.mono TP ?_); rintro e w1 ⟨rfl, d1⟩)
          go_ret
          have d2 := d1.alloc d1.size (.cells #[.int .i64 k, .int .i64 b1] 156)
          exact ⟨rfl, HT.out.1.more d2, HT.out.2.more d2⟩
        · have kb : ¬ binds c1 < bd := by
            rw [← HB.out]
            cases c <;> cases c1 <;> simp [binds] at hs ⊢
          have hE' : setF c gs al.length ⟨p, false, al ++ [nd2 k x b]⟩ = E := by
            rw [← hE]; conv => rhs; unfold setF
            rw [if_neg hs]; rfl
          have DR := fun (w1 : World) (z : Obj) (d : Below wr.heap.size wr w1) => q_drop (S0 := stk gs ++ [.nd x]) (x := .wt k (binds c1)) (T.more (d.alloc d.size z)) (by simp; omega)
          have TK := fun (w2 : World) (T2 : Tq W w2 R ta tc i l o L p al (stk gs ++ [.nd x])) => q_take_nd T2 (by omega)
          have AD := fun (w3 : World) (T3 : Tq W w3 R ta tc i l o L p al (stk gs)) => q_add T3 ⟨k, x, b, 0, ⟨#[]⟩, (false, 0, 0)⟩ none 0 0 none 0 0 (num_zeroY T3.below k x b 0 _) (by omega)
          dsimp only at AD
          have TA := ta_wt k (binds c1)
          have HT : Hid (Keep TY w wr ∧ setF c gs al.length ⟨p, false, al ++ [nd2 k x b]⟩ = E ∧ gs.length + 1 ≤ gk ∧ al.length + (stk gs).length + 2 ≤ 50000) := ⟨K, hE', hg, by omega⟩
          generalize binds c1 = b1 at *
          clear T K hE hE' hg hl HH hn hs HB BD
          go_wp2_with (first
            | (go_at_call 146; (with_reducible refine Calls.mono TP ?_); rintro e w1 ⟨rfl, d1⟩)
            | (go_at_call 147; (with_reducible refine Calls.mono (DR _ _ d1) ?_); rintro e w2 ⟨rfl, T2, K2⟩)
            | (go_at_call 133; (with_reducible refine Calls.mono (TK _ T2) ?_); rintro e w3 ⟨rfl, T3, K3⟩; have b3 := (((BoxC.new w1 #[.int .i64 k, .int .i64 b1] 156).keep K2 (by unfold TY; decide)).keep K3 (by unfold TY; decide)).cells2; obtain ⟨c30, c31, -, -⟩ := b3)
            | (go_at_call 150; (with_reducible refine Calls.mono (AD _ T3) ?_); rintro e w4 ⟨rfl, T4, K4⟩))
          obtain ⟨K, hE, hg, hl⟩ := HT.out
          go_roundg gs.length
          case measure => omega
          case rel =>
            refine ⟨gs, al.length, al ++ [nd2 k x b], rfl, T4, (((K.trans (Keep.of TY (d1.alloc d1.size (.cells #[.int .i64 k, .int .i64 b1] 156)))).trans K2).trans K3).trans K4, hE, Nat.le_refl _, ?_⟩
            rw [List.length_append]; show al.length + 1 + _ ≤ _; omega
      | inr y => cases y with
        | false =>
          have hn : (stk (.inr false :: gs)).length = (stk gs).length + 1 := by simp [stk]
          have TP := q_top_some (S0 := stk gs) (x := .wt 6 2) T (by omega)
          unfold itV at TP
          dsimp only at TP
          have DR := fun (w1 : World) (z : Obj) (d : Below wr.heap.size wr w1) => q_drop (S0 := stk gs) (x := .wt 6 2) (T.more (d.alloc d.size z)) (by omega)
          have TK := fun (w2 : World) (T2 : Tq W w2 R ta tc i l o L p al (stk gs)) => q_take_no T2 (by omega) (stk_last gs)
          have AD := fun (w3 : World) (T3 : Tq W w3 R ta tc i l o L p al (stk gs)) => q_add T3 ⟨6, b, 0, 0, ⟨#[]⟩, (false, 0, 0)⟩ none 0 0 none 0 0 (num_zeroY T3.below 6 b 0 0 _) (by omega)
          dsimp only at AD
          have TA := ta_wt 6 2
          have kb : ¬ (2 : Int) < bd := by omega
          have HT : Hid (Keep TY w wr ∧ setF c (.inr false :: gs) b ⟨p, false, al⟩ = E ∧ gs.length + 1 ≤ gk ∧ al.length + (stk gs).length + 1 ≤ 50000) := ⟨K, hE, hg, by omega⟩
          have LB := stk_last gs
          clear T K hE hg hl HH hn
          go_wp2_with (first
            | (go_at_call 146; (with_reducible refine Calls.mono TP ?_); rintro e w1 ⟨rfl, d1⟩)
            | (go_at_call 147; (with_reducible refine Calls.mono (DR _ _ d1) ?_); rintro e w2 ⟨rfl, T2, K2⟩)
            | (go_at_call 133; (with_reducible refine Calls.mono (TK _ T2) ?_); rintro e w3 ⟨rfl, d3⟩; have b3 := (((BoxC.new w1 #[.int .i64 6, .int .i64 2] 156).keep K2 (by unfold TY; decide)).more d3).cells2; obtain ⟨c30, c31, -, -⟩ := b3)
            | (go_at_call 150; (with_reducible refine Calls.mono (AD _ (T2.more d3)) ?_); rintro e w4 ⟨rfl, T4, K4⟩))
          obtain ⟨K, hE, hg, hl⟩ := HT.out
          go_roundg gs.length
          case measure => omega
          case rel =>
            refine ⟨gs, al.length, al ++ [nd1 b], rfl, T4, (((K.trans (Keep.of TY (d1.alloc d1.size (.cells #[.int .i64 6, .int .i64 2] 156)))).trans K2).trans (Keep.of TY d3)).trans K4, hE, Nat.le_refl _, ?_⟩
            rw [List.length_append]; show al.length + 1 + _ ≤ _; omega
        | true =>
          obtain rfl : (.inr true :: gs, b, (⟨p, false, al⟩ : Rd)) = E := hE
          have hn : (stk (.inr true :: gs)).length = (stk gs).length + 1 := by simp [stk]
          have TP := q_top_some (S0 := stk gs) (x := .br) T (by omega)
          unfold itV at TP
          dsimp only at TP
          have HT : Hid (Tq W wr R ta tc i l o L p al (stk (.inr true :: gs)) ∧ Keep TY w wr) := ⟨T, K⟩
          have TA := ta_wt_br
          clear T K hg hl HH hn
          go_wp2_with (go_at_call 146; (with_reducible refine Calls.mono TP ?_); rintro e w1 ⟨rfl, d1⟩)
          go_ret
          have d2 := d1.alloc d1.size (.cells #[.int .i64 0, .int .i64 0] 156)
          exact ⟨rfl, HT.out.1.more d2, HT.out.2.more d2⟩
end
end Go.Proofs.YtbcfplaalepnbaaGreatDoor
namespace Go.Proofs.YtbcfplaalepnbaaGreatDoor
open Go.Lib
theorem kindAt_size (s : ByteArray) : kindAt s s.size = -1 := by unfold kindAt; rw [if_neg (by omega)]
theorem extract_same {u s : ByteArray} (hz : s.size ≤ u.size) (h : ∀ i, i < s.size → bt u i = bt s i) {i e : Nat} (he : e ≤ s.size) : u.extract i e = s.extract i e := by
  refine ByteArray.ext ?_
  rw [ByteArray.data_extract, ByteArray.data_extract]
  refine Array.ext ?_ ?_
  · simp only [Array.size_extract]
    show min e u.size - i = min e s.size - i
    omega
  · intro j h1 h2
    simp only [Array.size_extract] at h1 h2
    have hj : i + j < s.size := by
      have h2' : j < min e s.size - i := h2
      omega
    have h3 := h (i + j) hj
    rw [bt_get (show i + j < u.size by omega), bt_get hj] at h3
    rw [Array.getElem_extract, Array.getElem_extract]
    exact UInt8.toNat_inj.1 h3
end Go.Proofs.YtbcfplaalepnbaaGreatDoor
namespace Go.Proofs.YtbcfplaalepnbaaGreatDoor
open Go.Lib
structure Shifted (u t : ByteArray) (k : Nat) : Prop where
  size : u.size = k + t.size
  same : ∀ j, bt u (k + j) = bt t j
theorem shifted (s t : ByteArray) : Shifted (s ++ (⟨#[10]⟩ ++ t)) t (s.size + 1) := by
  refine ⟨?_, fun j => ?_⟩
  · rw [ByteArray.size_append, ByteArray.size_append]
    show s.size + (1 + t.size) = _
    omega
  · rw [Nat.add_assoc, bt_append_right]
    have := bt_append_right ⟨#[10]⟩ t j
    rwa [show (⟨#[10]⟩ : ByteArray).size = 1 from rfl] at this
theorem Shifted.decode {u t : ByteArray} {k : Nat} (h : Shifted u t k) (i : Nat) : Utf8.decode u (k + i) = Utf8.decode t i := by
  rw [decode_bt, decode_bt, h.same i, show k + i + 1 = k + (i + 1) by omega, show k + i + 2 = k + (i + 2) by omega, show k + i + 3 = k + (i + 3) by omega, h.same, h.same, h.same, h.size, Nat.add_sub_add_left]
theorem Shifted.kind {u t : ByteArray} {k : Nat} (h : Shifted u t k) (i : Nat) : kindAt u (k + i) = kindAt t i ∧ stepAt u (k + i) = stepAt t i := by
  unfold kindAt stepAt nextR nextN
  rw [h.decode i, h.size]
  by_cases hi : i < t.size
  · rw [if_pos hi, if_pos hi, if_pos (by omega), if_pos (by omega)]; exact ⟨rfl, rfl⟩
  · rw [if_neg hi, if_neg hi, if_neg (by omega), if_neg (by omega)]; exact ⟨rfl, rfl⟩
theorem Shifted.digits {u t : ByteArray} {k : Nat} (h : Shifted u t k) : ∀ m i, t.size - i ≤ m → digEnd u (k + i) = k + digEnd t i := by
  intro m
  induction m with
  | zero =>
    intro i hm
    have hk : kindAt t i ≠ 2 := fun e => by have := (kindAt_digit.1 e).1; omega
    rw [digEnd_here hk, digEnd_here (by rw [(h.kind i).1]; exact hk)]
  | succ m ih =>
    intro i hm
    by_cases h2 : kindAt t i = 2
    · have := (kindAt_digit.1 h2).1
      rw [digEnd_step h2, digEnd_step (by rw [(h.kind i).1]; exact h2), show k + i + 1 = k + (i + 1) by omega]
      exact ih _ (by omega)
    · rw [digEnd_here h2, digEnd_here (by rw [(h.kind i).1]; exact h2)]
theorem Shifted.word {u t : ByteArray} {k : Nat} (h : Shifted u t k) : ∀ m i, t.size - i ≤ m → wordEnd u (k + i) = k + wordEnd t i := by
  intro m
  induction m with
  | zero =>
    intro i hm
    have hk : ¬ (kindAt t i = 1 ∨ kindAt t i = 2) := fun e => by have := kindAt_in (s := t) (i := i) (by omega); omega
    rw [wordEnd_here hk, wordEnd_here (by rw [(h.kind i).1]; exact hk)]
  | succ m ih =>
    intro i hm
    by_cases h2 : kindAt t i = 1 ∨ kindAt t i = 2
    · have hz := stepAt_size (kindAt_in (s := t) (i := i) (by omega))
      rw [wordEnd_step h2, wordEnd_step (by rw [(h.kind i).1]; exact h2), (h.kind i).2, show k + i + stepAt t i = k + (i + stepAt t i) by omega]
      exact ih _ (by omega)
    · rw [wordEnd_here h2, wordEnd_here (by rw [(h.kind i).1]; exact h2)]
theorem Shifted.number {u t : ByteArray} {k : Nat} (h : Shifted u t k) (i : Nat) : numEnd u (k + i) = k + numEnd t i := by
  unfold numEnd
  rw [h.digits _ i (Nat.le_refl _), show k + digEnd t i + 1 = k + (digEnd t i + 1) by omega, h.digits _ (digEnd t i + 1) (Nat.le_refl _), h.same, h.size]
  by_cases hc : digEnd t i < t.size ∧ bt t (digEnd t i) = 124 ∧ digEnd t i + 1 < digEnd t (digEnd t i + 1)
  · rw [if_pos hc, if_pos ⟨by omega, hc.2.1, by omega⟩]
  · rw [if_neg hc, if_neg (fun e => hc ⟨by omega, e.2.1, by omega⟩)]
theorem Shifted.extract {u t : ByteArray} {k : Nat} (h : Shifted u t k) (i e : Nat) : u.extract (k + i) (k + e) = t.extract i e := by
  refine ByteArray.ext ?_
  rw [ByteArray.data_extract, ByteArray.data_extract]
  have hz := h.size
  refine Array.ext ?_ ?_
  · simp only [Array.size_extract]
    show min (k + e) u.size - (k + i) = min e t.size - i
    omega
  · intro j h1 h2
    simp only [Array.size_extract] at h1 h2
    have hj : i + j < t.size := by
      have h2' : j < min e t.size - i := h2
      omega
    have h3 := h.same (i + j)
    rw [← Nat.add_assoc, bt_get (show k + i + j < u.size by omega), bt_get hj] at h3
    rw [Array.getElem_extract, Array.getElem_extract]
    exact UInt8.toNat_inj.1 h3
theorem Shifted.token {u t : ByteArray} {k : Nat} (h : Shifted u t k) (i : Nat) : tokenI u (k + i) = ((tokenI t i).1, (tokenI t i).2.1, k + (tokenI t i).2.2.1, (tokenI t i).2.2.2) := by
  unfold tokenI
  rw [(h.kind i).1, (h.kind i).2, h.word _ i (Nat.le_refl _), h.number i, h.extract, h.extract, show k + i + stepAt t i = k + (i + stepAt t i) by omega, h.extract]
  by_cases k1 : kindAt t i = 1
  · rw [if_pos k1, if_pos k1]
    by_cases c : i + 40 < wordEnd t i
    · rw [if_pos c, if_pos (by omega)]
    · rw [if_neg c, if_neg (by omega)]
  rw [if_neg k1, if_neg k1]
  by_cases k2 : kindAt t i = 2
  · rw [if_pos k2, if_pos k2]
    repeat' split
    all_goals rfl
  rw [if_neg k2, if_neg k2]
  split <;> rfl
end Go.Proofs.YtbcfplaalepnbaaGreatDoor
namespace Go.Proofs.YtbcfplaalepnbaaGreatDoor
open Go.Lib
set_option maxRecDepth 100000 in
set_option maxHeartbeats 8000000 in
/-- A rune that is told whole is told so of the text that ends behind it. -/
theorem decodeN_less {n n' b0 b1 b2 b3 b1' b2' b3' : Nat} (h : (decodeN n' b0 b1' b2' b3').1 ≠ 65533) (hn : (decodeN n' b0 b1' b2' b3').2 ≤ n) (h1 : 1 < n → b1 = b1') (h2 : 2 < n → b2 = b2') (h3 : 3 < n → b3 = b3') : decodeN n b0 b1 b2 b3 = decodeN n' b0 b1' b2' b3' := by
  unfold decodeN at h hn ⊢
  by_cases c0 : b0 < 128
  · simp only [c0, if_true]
  simp only [c0, if_false] at h hn ⊢
  by_cases c1 : b0 / 32 = 6 ∧ (1 < n' ∧ b1' / 64 = 2)
  · rw [if_pos c1] at h hn ⊢
    by_cases d : b0 % 32 * 64 + b1' % 64 ≥ 128
    · rw [if_pos d] at hn ⊢
      dsimp only at hn
      obtain rfl := h1 (by omega)
      rw [if_pos ⟨c1.1, by omega, c1.2.2⟩, if_pos d]
    · rw [if_neg d] at h; exact absurd rfl h
  rw [if_neg c1] at h hn ⊢
  by_cases c2 : b0 / 16 = 14 ∧ (1 < n' ∧ b1' / 64 = 2) ∧ (2 < n' ∧ b2' / 64 = 2)
  · rw [if_pos c2] at h hn ⊢
    by_cases d : b0 % 16 * 4096 + b1' % 64 * 64 + b2' % 64 ≥ 2048 ∧ (b0 % 16 * 4096 + b1' % 64 * 64 + b2' % 64 < 55296 ∨ (57344 ≤ b0 % 16 * 4096 + b1' % 64 * 64 + b2' % 64 ∧ b0 % 16 * 4096 + b1' % 64 * 64 + b2' % 64 ≤ 1114111))
    · rw [if_pos d] at hn ⊢
      dsimp only at hn
      obtain rfl := h1 (by omega)
      obtain rfl := h2 (by omega)
      rw [if_neg (by omega), if_pos ⟨c2.1, ⟨by omega, c2.2.1.2⟩, by omega, c2.2.2.2⟩, if_pos d]
    · rw [if_neg d] at h; exact absurd rfl h
  rw [if_neg c2] at h hn ⊢
  by_cases c3 : b0 / 8 = 30 ∧ (1 < n' ∧ b1' / 64 = 2) ∧ (2 < n' ∧ b2' / 64 = 2) ∧ (3 < n' ∧ b3' / 64 = 2)
  · rw [if_pos c3] at h hn ⊢
    by_cases d : b0 % 8 * 262144 + b1' % 64 * 4096 + b2' % 64 * 64 + b3' % 64 ≥ 65536 ∧ (b0 % 8 * 262144 + b1' % 64 * 4096 + b2' % 64 * 64 + b3' % 64 < 55296 ∨ (57344 ≤ b0 % 8 * 262144 + b1' % 64 * 4096 + b2' % 64 * 64 + b3' % 64 ∧ b0 % 8 * 262144 + b1' % 64 * 4096 + b2' % 64 * 64 + b3' % 64 ≤ 1114111))
    · rw [if_pos d] at hn ⊢
      dsimp only at hn
      obtain rfl := h1 (by omega)
      obtain rfl := h2 (by omega)
      obtain rfl := h3 (by omega)
      rw [if_neg (by omega), if_neg (by omega), if_pos ⟨c3.1, ⟨by omega, c3.2.1.2⟩, ⟨by omega, c3.2.2.1.2⟩, by omega, c3.2.2.2.2⟩, if_pos d]
    · rw [if_neg d] at h; exact absurd rfl h
  rw [if_neg c3] at h; exact absurd rfl h
structure Front (v s : ByteArray) : Prop where
  size : v.size ≤ s.size
  same : ∀ i, i < v.size → bt v i = bt s i
theorem front (s : ByteArray) {e : Nat} (he : e ≤ s.size) : Front (s.extract 0 e) s := by
  have hz : (s.extract 0 e).size = e := by rw [ByteArray.size_extract]; omega
  refine ⟨by omega, fun i hi => ?_⟩
  rw [bt_get hi, bt_get (show i < s.size by omega)]
  congr 1
  show (s.extract 0 e).data[i]'_ = s.data[i]'_
  simp only [ByteArray.data_extract, Array.getElem_extract, Nat.zero_add]
theorem Front.decode {v s : ByteArray} (h : Front v s) {i : Nat} (hi : i < v.size) (hr : nextR s i ≠ 65533) (hn : i + nextN s i ≤ v.size) : Utf8.decode v i = Utf8.decode s i := by
  have hs := h.size
  unfold nextR nextN at *
  rw [decode_bt s] at hr hn
  rw [decode_bt, decode_bt s, h.same i hi]
  exact decodeN_less (fun e => hr (by rw [e]; rfl)) (by omega) (fun _ => h.same _ (by omega)) (fun _ => h.same _ (by omega)) (fun _ => h.same _ (by omega))
theorem Front.kind {v s : ByteArray} (h : Front v s) {i : Nat} (hi : i < v.size) (hk : 1 ≤ kindAt s i) (hn : i + stepAt s i ≤ v.size) : kindAt v i = kindAt s i ∧ stepAt v i = stepAt s i := by
  have hs := h.size
  have hi2 : i < s.size := by omega
  have hr : nextR s i ≠ 65533 := by
    intro e
    unfold kindAt at hk
    rw [if_pos hi2, e, kind_err] at hk
    omega
  have hd := h.decode hi hr (by unfold stepAt at hn; rw [if_pos hi2] at hn; exact hn)
  unfold kindAt stepAt nextR nextN
  rw [if_pos hi, if_pos hi, if_pos hi2, if_pos hi2, hd]
  exact ⟨rfl, rfl⟩
theorem Front.kind_back {v s : ByteArray} (h : Front v s) {i : Nat} (hk : 1 ≤ kindAt v i) : kindAt s i = kindAt v i := by
  have hs := h.size
  have hi := kindAt_in (s := v) (i := i) (by omega)
  have hr : nextR v i ≠ 65533 := by
    intro e
    unfold kindAt at hk
    rw [if_pos hi, e, kind_err] at hk
    omega
  have hd : Utf8.decode s i = Utf8.decode v i := by
    unfold nextR at hr
    rw [decode_bt v] at hr
    rw [decode_bt, decode_bt v, ← h.same i hi]
    exact decodeN_more (fun e => hr (by rw [e]; rfl)) (by omega) (fun _ => (h.same _ (by omega)).symm) (fun _ => (h.same _ (by omega)).symm) (fun _ => (h.same _ (by omega)).symm)
  unfold kindAt nextR
  rw [if_pos hi, if_pos (by omega), hd]
theorem Front.digit {v s : ByteArray} (h : Front v s) {i : Nat} (hi : i < v.size) : kindAt v i = 2 ↔ kindAt s i = 2 := by
  have hs := h.size
  rw [kindAt_digit, kindAt_digit, h.same i hi]
  constructor
  · intro e; exact ⟨by omega, e.2⟩
  · intro e; exact ⟨hi, e.2⟩
theorem Front.digits {v s : ByteArray} (h : Front v s) : ∀ k i, i ≤ v.size → v.size - i ≤ k → digEnd s i ≤ v.size → digEnd v i = digEnd s i := by
  intro k
  induction k with
  | zero =>
    intro i hi hk he
    obtain rfl : i = v.size := by omega
    have := (digEnd_range s v.size).1
    rw [digEnd_here (s := v) (by rw [kindAt_size]; decide)]
    omega
  | succ k ih =>
    intro i hi hk he
    rcases Nat.lt_or_ge i v.size with hlt | hge
    · by_cases h2 : kindAt s i = 2
      · rw [digEnd_step h2] at he ⊢
        rw [digEnd_step ((h.digit hlt).2 h2)]
        exact ih _ (by omega) (by omega) he
      · rw [digEnd_here h2, digEnd_here (fun e => h2 ((h.digit hlt).1 e))]
    · obtain rfl : i = v.size := by omega
      have := (digEnd_range s v.size).1
      rw [digEnd_here (s := v) (by rw [kindAt_size]; decide)]
      omega
theorem Front.word {v s : ByteArray} (h : Front v s) : ∀ k i, i ≤ v.size → v.size - i ≤ k → wordEnd s i ≤ v.size → wordEnd v i = wordEnd s i := by
  intro k
  induction k with
  | zero =>
    intro i hi hk he
    obtain rfl : i = v.size := by omega
    have := (wordEnd_range s v.size).1
    rw [wordEnd_here (s := v) (by rw [kindAt_size]; decide)]
    omega
  | succ k ih =>
    intro i hi hk he
    rcases Nat.lt_or_ge i v.size with hlt | hge
    · by_cases h2 : kindAt s i = 1 ∨ kindAt s i = 2
      · have hz := stepAt_size (kindAt_in (s := s) (i := i) (by omega))
        rw [wordEnd_step h2] at he ⊢
        have hr := (wordEnd_range s (i + stepAt s i)).1
        obtain ⟨k1, k2⟩ := h.kind hlt (by omega) (by omega)
        rw [wordEnd_step (by rw [k1]; exact h2), k2]
        exact ih _ (by omega) (by omega) he
      · rw [wordEnd_here h2, wordEnd_here (fun e => h2 (by rw [h.kind_back (by omega)]; exact e))]
    · obtain rfl : i = v.size := by omega
      have := (wordEnd_range s v.size).1
      rw [wordEnd_here (s := v) (by rw [kindAt_size]; decide)]
      omega
theorem Front.number {v s : ByteArray} (h : Front v s) {i : Nat} (hi : i ≤ v.size) (he : numEnd s i ≤ v.size) : numEnd v i = numEnd s i := by
  have hs := h.size
  have h1 := digEnd_range s (digEnd s i + 1)
  have hle : digEnd s i ≤ v.size := by unfold numEnd at he; split at he <;> omega
  have hd := h.digits _ i hi (Nat.le_refl _) hle
  unfold numEnd at he ⊢
  rw [hd]
  generalize digEnd s i = E at *
  by_cases hc : E < s.size ∧ bt s E = 124 ∧ E + 1 < digEnd s (E + 1)
  · rw [if_pos hc] at he ⊢
    rw [h.digits _ (E + 1) (by omega) (Nat.le_refl _) he, h.same E (by omega), if_pos ⟨by omega, hc.2.1, hc.2.2⟩]
  · rw [if_neg hc, if_neg]
    rintro ⟨c1, c2, c3⟩
    refine hc ⟨by omega, by rw [← h.same E c1]; exact c2, ?_⟩
    have hv := (digEnd_range v (E + 1)).2 (by omega)
    have hk : kindAt v (E + 1) = 2 := by
      by_cases hk : kindAt v (E + 1) = 2
      · exact hk
      · rw [digEnd_here hk] at c3; omega
    have hk2 := (h.digit (i := E + 1) (by omega)).1 hk
    rw [digEnd_step hk2]
    have := (digEnd_range s (E + 1 + 1)).1
    omega
theorem front_extract {v s : ByteArray} (h : Front v s) {i e : Nat} (he : e ≤ v.size) : s.extract i e = v.extract i e := extract_same h.size (fun j hj => (h.same j hj).symm) he
theorem Front.token {v s : ByteArray} (h : Front v s) {i : Nat} (hi : i < v.size) (he : (tokenI s i).2.2.1 ≤ v.size) (hk : 1 ≤ kindAt s i) : tokenI v i = tokenI s i := by
  have hs := h.size
  have hz := stepAt_size (show i < s.size by omega)
  have hkr := kindAt_range s i
  unfold tokenI at he ⊢
  rcases (by omega : kindAt s i = 1 ∨ kindAt s i = 2 ∨ kindAt s i = 3 ∨ kindAt s i = 4) with k | k | k | k
  · rw [if_pos k] at he
    have hw : wordEnd s i ≤ v.size := by split at he <;> exact he
    have h1 : i + stepAt s i ≤ wordEnd s i := by rw [wordEnd_step (.inl k)]; exact (wordEnd_range s _).1
    have kv : kindAt v i = 1 := (h.kind hi hk (by omega)).1.trans k
    rw [if_pos k, if_pos kv, h.word _ i (by omega) (Nat.le_refl _) hw, front_extract h hw]
  · rw [if_neg (show ¬ kindAt s i = 1 by omega), if_pos k] at he
    have hw : numEnd s i ≤ v.size := by
      repeat' split at he
      all_goals exact he
    have kv := (h.digit hi).2 k
    rw [if_neg (show ¬ kindAt s i = 1 by omega), if_pos k, if_neg (show ¬ kindAt v i = 1 by omega), if_pos kv, h.number (by omega) hw, front_extract h hw]
  · have hb : kindAt v i = 3 := by
      have hs1 : stepAt s i = 1 := by
        unfold kindAt at k
        unfold stepAt
        rw [if_pos (show i < s.size by omega)] at k ⊢
        have : nextR s i < 128 := by
          unfold kindI at k
          repeat' split at k
          all_goals omega
        exact (next_byte ((next_low s i).1 this)).2
      exact (h.kind hi hk (by omega)).1.trans k
    rw [if_neg (show ¬ kindAt s i = 1 by omega), if_neg (show ¬ kindAt s i = 2 by omega), if_neg (show ¬ kindAt s i = 4 by omega), if_neg (show ¬ kindAt v i = 1 by omega), if_neg (show ¬ kindAt v i = 2 by omega), if_neg (show ¬ kindAt v i = 4 by omega)]
  · rw [if_neg (show ¬ kindAt s i = 1 by omega), if_neg (show ¬ kindAt s i = 2 by omega), if_pos k] at he
    obtain ⟨k1, k2⟩ := h.kind hi hk he
    rw [if_neg (show ¬ kindAt s i = 1 by omega), if_neg (show ¬ kindAt s i = 2 by omega), if_pos k, if_neg (show ¬ kindAt v i = 1 by omega), if_neg (show ¬ kindAt v i = 2 by omega), if_pos (k1.trans k), k2, front_extract h he]
end Go.Proofs.YtbcfplaalepnbaaGreatDoor
namespace Go.Proofs.YtbcfplaalepnbaaGreatDoor
open Go.Lib
def Reach (s : ByteArray) (i : Nat) (l c : Int) : Prop := ∀ P : Nat → Int → Int → Prop, P 0 1 1 →
  (∀ i l c, P i l c → i < s.size → nextR s i ≠ 65533 → P (i + nextN s i) (if nextR s i = 10 then l + 1 else l) (if nextR s i = 10 then 1 else c + 1)) → P i l c
theorem Reach.zero (s : ByteArray) : Reach s 0 1 1 := fun _ h0 _ => h0
theorem Reach.next {s : ByteArray} {i : Nat} {l c : Int} (h : Reach s i l c) (hi : i < s.size) (hr : nextR s i ≠ 65533) : Reach s (i + nextN s i) (if nextR s i = 10 then l + 1 else l) (if nextR s i = 10 then 1 else c + 1) :=
  fun P h0 hn => hn _ _ _ (h P h0 hn) hi hr
theorem Reach.at {s : ByteArray} {i : Nat} {l c : Int} (h : Reach s i l c) : At s i l c := h (At s) (At.zero s) (fun _ _ _ h hi _ => h.next hi)
theorem Reach.front {v s : ByteArray} (hf : Front v s) {i : Nat} {l c : Int} (h : Reach s i l c) (hi : i ≤ v.size) : Reach v i l c := by
  refine h (fun i l c => i ≤ v.size → Reach v i l c) (fun _ => Reach.zero v) ?_ hi
  intro i l c ih his hr hle
  have hz := next_size his
  have hd := hf.decode (show i < v.size by omega) hr hle
  have e1 : nextR v i = nextR s i := by unfold nextR; rw [hd]
  have e2 : nextN v i = nextN s i := by unfold nextN; rw [hd]
  have := (ih (by omega)).next (show i < v.size by omega) (by rw [e1]; exact hr)
  rw [e1, e2] at this
  exact this
theorem Reach.here {s : ByteArray} {i : Nat} {l c : Int} (h : Reach s i l c) (hi : i < s.size) : placeI s (i : Int) = (l, c) := h.at.here (Int.le_refl _) (by have := next_size hi; omega) hi
theorem stepAt_blank {s : ByteArray} {i : Nat} (h : kindAt s i = 3) : stepAt s i = 1 := by
  have hi := kindAt_in (s := s) (i := i) (by omega)
  unfold kindAt at h
  rw [if_pos hi] at h
  have hr : nextR s i < 128 := by
    unfold kindI at h
    repeat' split at h
    all_goals omega
  unfold stepAt
  rw [if_pos hi, (next_byte ((next_low s i).1 hr)).2]
theorem kind_good {s : ByteArray} {i : Nat} (hk : 1 ≤ kindAt s i) : i < s.size ∧ nextR s i ≠ 65533 ∧ stepAt s i = nextN s i := by
  have hi := kindAt_in (s := s) (i := i) (by omega)
  refine ⟨hi, fun e => ?_, by unfold stepAt; rw [if_pos hi]⟩
  unfold kindAt at hk
  rw [if_pos hi, e, kind_err] at hk
  omega
theorem Reach.step {s : ByteArray} {i : Nat} {l c : Int} (h : Reach s i l c) (hk : 1 ≤ kindAt s i) : ∃ l' c', Reach s (i + stepAt s i) l' c' := by
  obtain ⟨h1, h2, h3⟩ := kind_good hk
  rw [h3]
  exact ⟨_, _, h.next h1 h2⟩
theorem Reach.word {s : ByteArray} : ∀ k i l c, s.size - i ≤ k → Reach s i l c → ∃ l' c', Reach s (wordEnd s i) l' c' := by
  intro k
  induction k with
  | zero =>
    intro i l c hk h
    rw [wordEnd_here (fun e => by have := kindAt_in (s := s) (i := i) (by omega); omega)]
    exact ⟨_, _, h⟩
  | succ k ih =>
    intro i l c hk h
    by_cases h2 : kindAt s i = 1 ∨ kindAt s i = 2
    · have hz := stepAt_size (kindAt_in (s := s) (i := i) (by omega))
      obtain ⟨l', c', h'⟩ := h.step (by omega)
      rw [wordEnd_step h2]
      exact ih _ _ _ (by omega) h'
    · rw [wordEnd_here h2]; exact ⟨_, _, h⟩
theorem Reach.digits {s : ByteArray} : ∀ k i l c, s.size - i ≤ k → Reach s i l c → ∃ l' c', Reach s (digEnd s i) l' c' := by
  intro k
  induction k with
  | zero =>
    intro i l c hk h
    rw [digEnd_here (fun e => by have := (kindAt_digit.1 e).1; omega)]
    exact ⟨_, _, h⟩
  | succ k ih =>
    intro i l c hk h
    by_cases h2 : kindAt s i = 2
    · have hz := (kindAt_digit.1 h2).1
      obtain ⟨l', c', h'⟩ := h.step (by omega)
      rw [stepAt_digit h2] at h'
      rw [digEnd_step h2]
      exact ih _ _ _ (by omega) h'
    · rw [digEnd_here h2]; exact ⟨_, _, h⟩
theorem Reach.number {s : ByteArray} {i : Nat} {l c : Int} (h : Reach s i l c) : ∃ l' c', Reach s (numEnd s i) l' c' := by
  obtain ⟨l', c', h'⟩ := Reach.digits (s := s) _ i l c (Nat.le_refl _) h
  unfold numEnd
  by_cases hc : digEnd s i < s.size ∧ bt s (digEnd s i) = 124 ∧ digEnd s i + 1 < digEnd s (digEnd s i + 1)
  · rw [if_pos hc]
    obtain ⟨e1, e2⟩ := next_byte (s := s) (i := digEnd s i) (by omega)
    have h2 := h'.next hc.1 (by rw [e1, hc.2.1]; decide)
    rw [e2] at h2
    exact Reach.digits _ _ _ _ (Nat.le_refl _) h2
  · rw [if_neg hc]; exact ⟨_, _, h'⟩
theorem tokenI_ok {s : ByteArray} {i : Nat} (h : (tokenI s i).2.2.2 = 0) : (kindAt s i = 1 ∧ (tokenI s i).2.2.1 = wordEnd s i ∨ kindAt s i = 2 ∧ (tokenI s i).2.2.1 = numEnd s i ∨ kindAt s i = 4 ∧ (tokenI s i).2.2.1 = i + stepAt s i) ∧ (tokenI s i).2.1 = s.extract i (tokenI s i).2.2.1 := by
  unfold tokenI at h ⊢
  by_cases k1 : kindAt s i = 1
  · rw [if_pos k1] at h ⊢
    by_cases hc : i + 40 < wordEnd s i
    · rw [if_pos hc] at h; exact absurd h (by simp)
    · rw [if_neg hc]; exact ⟨.inl ⟨k1, rfl⟩, rfl⟩
  rw [if_neg k1] at h ⊢
  by_cases k2 : kindAt s i = 2
  · rw [if_pos k2] at h ⊢
    by_cases hc : 40 < cutI (s.extract i (numEnd s i)) ∨ cutI (s.extract i (numEnd s i)) + 41 < (s.extract i (numEnd s i)).size
    · rw [if_pos hc] at h; exact absurd h (by simp)
    rw [if_neg hc] at h ⊢
    by_cases hd : numB (s.extract i (numEnd s i)) = true
    · rw [if_pos hd]; exact ⟨.inr (.inl ⟨k2, rfl⟩), rfl⟩
    · rw [if_neg hd] at h; exact absurd h (by simp)
  rw [if_neg k2] at h ⊢
  by_cases k4 : kindAt s i = 4
  · rw [if_pos k4]; exact ⟨.inr (.inr ⟨k4, rfl⟩), rfl⟩
  rw [if_neg k4] at h
  exact absurd h (by simp)
theorem tokenI_kind {s : ByteArray} {i : Nat} (h : (tokenI s i).2.2.2 = 0) : 1 ≤ kindAt s i ∧ kindAt s i ≠ 3 := by
  rcases (tokenI_ok h).1 with e | e | e <;> omega
end Go.Proofs.YtbcfplaalepnbaaGreatDoor
namespace Go.Proofs.YtbcfplaalepnbaaGreatDoor
open Go.Lib
def RightT (k : Int) (x : ByteArray) : Prop := 0 < x.size ∧ tokenI x 0 = (k, x, x.size, 0)
theorem shifted_rest (s : ByteArray) {i : Nat} (hi : i ≤ s.size) : Shifted s (s.extract i s.size) i := by
  have hz : (s.extract i s.size).size = s.size - i := by rw [ByteArray.size_extract]; omega
  refine ⟨by omega, fun j => ?_⟩
  by_cases hj : j < (s.extract i s.size).size
  · rw [bt_get (show i + j < s.size by omega), bt_get hj]
    congr 1
    show s.data[i + j]'_ = (s.extract i s.size).data[j]'_
    simp only [ByteArray.data_extract, Array.getElem_extract]
  · have e1 : bt s (i + j) = 0 := by unfold bt; rw [bt_data, getElem!_def, Array.getElem?_eq_none (show s.data.size ≤ i + j from by show s.size ≤ i + j; omega)]; rfl
    have e2 : bt (s.extract i s.size) j = 0 := by unfold bt; rw [bt_data, getElem!_def, Array.getElem?_eq_none (show (s.extract i s.size).data.size ≤ j from by show (s.extract i s.size).size ≤ j; omega)]; rfl
    rw [e1, e2]
theorem tokenI_right {s : ByteArray} {i : Nat} (hi : i < s.size) (h : (tokenI s i).2.2.2 = 0) : RightT (tokenI s i).1 (tokenI s i).2.1 := by
  have he := tokenI_end hi h
  obtain ⟨-, htx⟩ := tokenI_ok h
  have hk := tokenI_kind h
  have S := shifted_rest s (Nat.le_of_lt hi)
  have hT := S.token 0
  rw [Nat.add_zero] at hT
  have hkS := (S.kind 0).1
  rw [Nat.add_zero] at hkS
  have hz := S.size
  have hx := S.extract 0 ((tokenI (s.extract i s.size) 0).2.2.1)
  generalize s.extract i s.size = t at *
  have e1 : (tokenI s i).2.2.1 = i + (tokenI t 0).2.2.1 := by rw [hT]
  have e2 : (tokenI s i).1 = (tokenI t 0).1 := by rw [hT]
  have e3 : (tokenI s i).2.1 = (tokenI t 0).2.1 := by rw [hT]
  have e4 : (tokenI t 0).2.2.2 = 0 := by rw [hT] at h; exact h
  have hend := tokenI_end (s := t) (i := 0) (by omega) e4
  obtain ⟨-, htx2⟩ := tokenI_ok e4
  have F := front t hend.2
  have hsz : (t.extract 0 (tokenI t 0).2.2.1).size = (tokenI t 0).2.2.1 := by rw [ByteArray.size_extract]; omega
  have hF := F.token (i := 0) (by omega) (by omega) (by rw [← hkS]; exact hk.1)
  unfold RightT
  rw [e2, e3]
  rw [htx2]
  refine ⟨by omega, ?_⟩
  rw [hF, hsz]
  refine Prod.ext rfl (Prod.ext htx2 (Prod.ext rfl e4))
theorem lexF_right (s : ByteArray) : ∀ f i out, (∀ t ∈ out, RightT t.1 t.2.1 ∧ t.2.1.size ≤ s.size) → ∀ t ∈ (lexF s f i out).1, RightT t.1 t.2.1 ∧ t.2.1.size ≤ s.size := by
  intro f
  induction f with
  | zero => intro i out h; exact h
  | succ f ih =>
    intro i out h
    unfold lexF
    by_cases hi : i < s.size
    · rw [if_pos hi]
      by_cases h3 : kindAt s i = 3
      · rw [if_pos h3]; exact ih _ _ h
      rw [if_neg h3]
      by_cases h4 : 4000 ≤ out.length
      · rw [if_pos h4]; intro t ht; exact absurd ht (by simp)
      rw [if_neg h4]
      by_cases h5 : (tokenI s i).2.2.2 ≠ 0
      · rw [if_pos h5]; intro t ht; exact absurd ht (by simp)
      rw [if_neg h5]
      have h5' := Decidable.not_not.1 h5
      refine ih _ _ (fun t ht => ?_)
      rcases List.mem_append.1 ht with ht | ht
      · exact h t ht
      · obtain rfl := List.mem_singleton.1 ht
        refine ⟨tokenI_right hi h5', ?_⟩
        show (tokenI s i).2.1.size ≤ s.size
        rw [(tokenI_ok h5').2, ByteArray.size_extract]; omega
    · rw [if_neg hi]; exact h
end Go.Proofs.YtbcfplaalepnbaaGreatDoor
namespace Go.Proofs.YtbcfplaalepnbaaGreatDoor
open Go.Lib
theorem lexI_right (s : ByteArray) : ∀ t ∈ (lexI s).1, RightT t.1 t.2.1 ∧ t.2.1.size ≤ s.size := by
  unfold lexI
  split
  · intro t ht; exact absurd ht (by simp)
  · exact lexF_right s _ _ _ (fun t ht => absurd ht (by simp))
end Go.Proofs.YtbcfplaalepnbaaGreatDoor
namespace Go.Proofs.YtbcfplaalepnbaaGreatDoor
open Go.Lib
def spanF (K : List Int) (s : ByteArray) : Nat → Nat → Nat
  | 0, i => i
  | f + 1, i => if i < s.size ∧ kindAt s i ∈ K then spanF K s f (i + stepAt s i) else i
def spanE (K : List Int) (s : ByteArray) (i : Nat) : Nat := spanF K s (s.size + 1) i
theorem spanF_more (K : List Int) (s : ByteArray) : ∀ f i, s.size < i + f → ∀ g, s.size < i + g → spanF K s f i = spanF K s g i := by
  intro f
  induction f with
  | zero =>
    intro i hf g hg
    cases g with
    | zero => rfl
    | succ g => unfold spanF; rw [if_neg (fun e => by omega)]
  | succ f ih =>
    intro i hf g hg
    cases g with
    | zero => unfold spanF; rw [if_neg (fun e => by omega)]
    | succ g =>
      unfold spanF
      by_cases h : i < s.size ∧ kindAt s i ∈ K
      · have := stepAt_size h.1
        rw [if_pos h, if_pos h, ih _ (by omega) g (by omega)]
      · rw [if_neg h, if_neg h]
theorem spanE_step {K : List Int} {s : ByteArray} {i : Nat} (hi : i < s.size) (h : kindAt s i ∈ K) : spanE K s i = spanE K s (i + stepAt s i) := by
  unfold spanE
  have hz := stepAt_size hi
  show (if i < s.size ∧ kindAt s i ∈ K then _ else _) = _
  rw [if_pos ⟨hi, h⟩]
  exact spanF_more K s _ _ (by omega) _ (by omega)
theorem spanE_here {K : List Int} {s : ByteArray} {i : Nat} (h : ¬ (i < s.size ∧ kindAt s i ∈ K)) : spanE K s i = i := by
  unfold spanE
  show (if i < s.size ∧ kindAt s i ∈ K then _ else _) = _
  rw [if_neg h]
theorem spanF_range (K : List Int) (s : ByteArray) : ∀ f i, i ≤ spanF K s f i ∧ (i ≤ s.size → spanF K s f i ≤ s.size) := by
  intro f
  induction f with
  | zero => intro i; exact ⟨Nat.le_refl _, id⟩
  | succ f ih =>
    intro i
    unfold spanF
    split
    · rename_i h
      have h1 := stepAt_size h.1
      have := ih (i + stepAt s i)
      exact ⟨by omega, fun _ => this.2 (by omega)⟩
    · exact ⟨Nat.le_refl _, id⟩
theorem spanE_range (K : List Int) (s : ByteArray) (i : Nat) : i ≤ spanE K s i ∧ (i ≤ s.size → spanE K s i ≤ s.size) := spanF_range K s _ i
theorem spanE_word (s : ByteArray) (i : Nat) : spanE [1, 2] s i = wordEnd s i := by
  have h : ∀ f i, spanF [1, 2] s f i = wordF s f i := by
    intro f
    induction f with
    | zero => intro i; rfl
    | succ f ih =>
      intro i
      unfold spanF wordF
      rw [ih]
      by_cases h2 : kindAt s i = 1 ∨ kindAt s i = 2
      · rw [if_pos h2, if_pos ⟨kindAt_in (by omega), by simpa using h2⟩]
      · rw [if_neg h2, if_neg (fun e => h2 (by simpa using e.2))]
  exact h _ _
theorem spanE_digits (s : ByteArray) (i : Nat) : spanE [2] s i = digEnd s i := by
  have h : ∀ f i, spanF [2] s f i = digF s f i := by
    intro f
    induction f with
    | zero => intro i; rfl
    | succ f ih =>
      intro i
      unfold spanF digF
      rw [ih]
      by_cases h2 : kindAt s i = 2
      · rw [if_pos h2, if_pos ⟨(kindAt_digit.1 h2).1, by simpa using h2⟩, stepAt_digit h2]
      · rw [if_neg h2, if_neg (fun e => h2 (by simpa using e.2))]
  exact h _ _
theorem blanks_end (s : ByteArray) : ∀ k i, s.size - i ≤ k → kindAt s (spanE [3] s i) ≠ 3 := by
  intro k
  induction k with
  | zero =>
    intro i hk
    rw [spanE_here (fun e => by omega)]
    intro e
    have := kindAt_in (s := s) (i := i) (by omega)
    omega
  | succ k ih =>
    intro i hk
    by_cases h : i < s.size ∧ kindAt s i ∈ ([3] : List Int)
    · have := stepAt_size h.1
      rw [spanE_step h.1 h.2]
      exact ih _ (by omega)
    · rw [spanE_here h]
      intro e
      exact h ⟨kindAt_in (by omega), by simpa using e⟩
theorem lexF_blanks (s : ByteArray) (out : List Tok) : ∀ k i, s.size - i ≤ k → lexF s (s.size + 1) i out = lexF s (s.size + 1) (spanE [3] s i) out := by
  intro k
  induction k with
  | zero =>
    intro i hk
    rw [spanE_here (fun e => by omega)]
  | succ k ih =>
    intro i hk
    by_cases h : i < s.size ∧ kindAt s i ∈ ([3] : List Int)
    · have h3 : kindAt s i = 3 := by simpa using h.2
      rw [spanE_step h.1 h.2, lexF_step h.1, if_pos h3, stepAt_blank h3]
      exact ih _ (by omega)
    · rw [spanE_here h]
theorem Reach.span {K : List Int} {s : ByteArray} (hK : ∀ k ∈ K, 1 ≤ k) : ∀ k i l c, s.size - i ≤ k → Reach s i l c → ∃ l' c', Reach s (spanE K s i) l' c' := by
  intro k
  induction k with
  | zero =>
    intro i l c hk h
    rw [spanE_here (fun e => by omega)]
    exact ⟨_, _, h⟩
  | succ k ih =>
    intro i l c hk h
    by_cases h2 : i < s.size ∧ kindAt s i ∈ K
    · have hz := stepAt_size h2.1
      obtain ⟨l', c', h'⟩ := h.step (hK _ h2.2)
      rw [spanE_step h2.1 h2.2]
      exact ih _ _ _ (by omega) h'
    · rw [spanE_here h2]; exact ⟨_, _, h⟩
theorem Reach.range {s : ByteArray} {i : Nat} {l c : Int} (h : Reach s i l c) : i ≤ s.size ∧ 1 ≤ l ∧ l ≤ i + 1 ∧ 1 ≤ c ∧ c ≤ i + 1 := by
  refine h (fun i l c => i ≤ s.size ∧ 1 ≤ l ∧ l ≤ i + 1 ∧ 1 ≤ c ∧ c ≤ i + 1) ⟨Nat.zero_le _, by omega, by omega, by omega, by omega⟩ ?_
  rintro i l c ⟨h0, h1, h2, h3, h4⟩ hi -
  have hz := next_size hi
  by_cases h10 : nextR s i = 10
  · rw [if_pos h10, if_pos h10]; omega
  · rw [if_neg h10, if_neg h10]; omega
theorem Reach.on {u t : ByteArray} {k : Nat} (h : Shifted u t k) {L C : Int} (hk : Reach u k L C) {n : Nat} {l c : Int} (hn : Reach t n l c) : Reach u (k + n) (L + (l - 1)) (if l = 1 then C + (c - 1) else c) := by
  have hz := h.size
  refine (hn (fun n l c => 1 ≤ l ∧ Reach u (k + n) (L + (l - 1)) (if l = 1 then C + (c - 1) else c)) ⟨by omega, ?_⟩ ?_).2
  · rw [if_pos rfl, show L + ((1 : Int) - 1) = L by omega, show C + ((1 : Int) - 1) = C by omega]; exact hk
  · rintro n l c ⟨h1, ih⟩ hi hr
    have e1 : nextR u (k + n) = nextR t n := by unfold nextR; rw [h.decode]
    have e2 : nextN u (k + n) = nextN t n := by unfold nextN; rw [h.decode]
    have hx := ih.next (by omega) (by rw [e1]; exact hr)
    rw [e1, e2] at hx
    by_cases h10 : nextR t n = 10
    · rw [if_pos h10, if_pos h10] at hx
      rw [if_pos h10, if_pos h10, if_neg (by omega), show L + (l + 1 - 1) = L + (l - 1) + 1 by omega, ← Nat.add_assoc]
      exact ⟨by omega, hx⟩
    · rw [if_neg h10, if_neg h10] at hx
      rw [if_neg h10, if_neg h10, ← Nat.add_assoc]
      refine ⟨h1, ?_⟩
      by_cases hl : l = 1
      · rw [if_pos hl] at hx ⊢
        rw [show C + (c + 1 - 1) = C + (c - 1) + 1 by omega]; exact hx
      · rw [if_neg hl] at hx ⊢; exact hx
theorem reach_alone {t : ByteArray} {n : Nat} {l c : Int} (h : Reach t n l c) : placeI (t.extract 0 n) ((n : Nat) : Int) = (l, c) := by
  have hn := h.range.1
  have hz : (t.extract 0 n).size = n := by rw [ByteArray.size_extract]; omega
  have hf := front t hn
  generalize t.extract 0 n = v at hz hf
  subst hz
  exact ((h.front hf (Nat.le_refl _)).at).last (Int.le_refl _)
theorem extract_more {s : ByteArray} (i n : Nat) : (s.extract i s.size).extract n (s.extract i s.size).size = s.extract (i + n) s.size := by
  refine ByteArray.ext ?_
  simp only [ByteArray.data_extract, ByteArray.size_extract, Array.extract_extract]
  have e : s.size = s.data.size := rfl
  rw [e]
  congr 1
  omega
end Go.Proofs.YtbcfplaalepnbaaGreatDoor
namespace Go.Proofs.YtbcfplaalepnbaaGreatDoor
open Go.Lib
def above (t : ByteArray) : ByteArray := t.extract 0 (digEnd t 0)
def below (t : ByteArray) : ByteArray := if digEnd t 0 < t.size ∧ bt t (digEnd t 0) = 124 then t.extract (digEnd t 0 + 1) (digEnd t (digEnd t 0 + 1)) else ⟨#[]⟩
def plainB (x : ByteArray) : Bool := x.toList == [48] || (decide (x.size ≠ 0) && decide (bt x 0 ≠ 48))
def longB (a b : ByteArray) : Bool := decide (40 < a.size) || decide (40 < b.size)
def mayB (a b : ByteArray) : Bool := !longB a b && plainB a && (decide (b.size = 0) || (plainB b && !(b.toList == [48])))
theorem size_zero {x : ByteArray} (h : x.size = 0) : x = ⟨#[]⟩ := by
  apply ByteArray.ext
  exact Array.eq_empty_of_size_eq_zero h
theorem extract_none (x : ByteArray) {i j : Nat} (h : j ≤ i) : x.extract i j = ⟨#[]⟩ := size_zero (by rw [ByteArray.size_extract]; omega)
theorem toList_one {x : ByteArray} (h : (x.toList == [48]) = true) : x.size = 1 ∧ bt x 0 = 48 := by
  rw [ByteArray.toList_eq, beq_iff_eq] at h
  have hz : x.size = 1 := by
    show x.data.size = 1
    rw [← Array.length_toList, h]; rfl
  refine ⟨hz, ?_⟩
  obtain ⟨⟨l⟩⟩ := x
  have h : l = [48] := h
  subst h
  rfl
theorem one_toList {x : ByteArray} (h : x.size = 1) (h0 : bt x 0 = 48) : (x.toList == [48]) = true := by
  rw [ByteArray.toList_eq, beq_iff_eq]
  obtain ⟨⟨l⟩⟩ := x
  have hl : l.length = 1 := h
  obtain ⟨b, rfl⟩ := List.length_eq_one_iff.1 hl
  have h1 : b.toNat = 48 := h0
  have h2 : b = 48 := UInt8.toNat_inj.1 h1
  rw [h2]
theorem plain_part {x : ByteArray} (h : digEnd x 0 = x.size) : partB x = (decide (x.size ≤ 40) && plainB x) := by
  unfold partB plainB
  rw [decide_eq_true h, Bool.and_true]
  by_cases h0 : x.size = 0
  · rw [decide_eq_false (show ¬ (1 ≤ x.size ∧ x.size ≤ 40) by omega), decide_eq_false (show ¬ x.size ≠ 0 by omega)]
    have : (x.toList == [48]) = false := by
      rw [Bool.eq_false_iff]
      intro e
      have := (toList_one e).1
      omega
    rw [this]; simp
  · by_cases h4 : x.size ≤ 40
    · rw [decide_eq_true (show 1 ≤ x.size ∧ x.size ≤ 40 by omega), decide_eq_true h4, decide_eq_true (show x.size ≠ 0 from h0)]
      simp only [Bool.true_and]
      by_cases h8 : bt x 0 = 48
      · rw [decide_eq_false (show ¬ bt x 0 ≠ 48 from fun e => e h8), Bool.or_false, Bool.or_false]
        by_cases h1 : x.size = 1
        · rw [decide_eq_true h1, one_toList h1 h8]
        · rw [decide_eq_false h1]
          symm
          rw [Bool.eq_false_iff]
          exact fun e => h1 (toList_one e).1
      · rw [decide_eq_true (show bt x 0 ≠ 48 from h8), Bool.or_true, Bool.or_true]
    · rw [decide_eq_false (show ¬ (1 ≤ x.size ∧ x.size ≤ 40) by omega), decide_eq_false h4]; rfl
theorem part_no {x : ByteArray} (h : digEnd x 0 ≠ x.size) : partB x = false := by
  unfold partB; rw [decide_eq_false h, Bool.and_false, Bool.false_and]
theorem digEnd_all (s : ByteArray) : ∀ k i, s.size - i ≤ k → ∀ j, i ≤ j → j < digEnd s i → kindAt s j = 2 := by
  intro k
  induction k with
  | zero =>
    intro i hk j h0 h1
    rw [digEnd_here (fun e => by have := (kindAt_digit.1 e).1; omega)] at h1
    omega
  | succ k ih =>
    intro i hk j h0 h1
    by_cases h : kindAt s i = 2
    · have hi := (kindAt_digit.1 h).1
      rcases Nat.eq_or_lt_of_le h0 with rfl | h2
      · exact h
      · rw [digEnd_step h] at h1
        exact ih (i + 1) (by omega) j h2 h1
    · rw [digEnd_here h] at h1; omega
theorem digEnd_stop (s : ByteArray) : ∀ k i, s.size - i ≤ k → kindAt s (digEnd s i) ≠ 2 := by
  intro k
  induction k with
  | zero =>
    intro i hk
    rw [digEnd_here (fun e => by have := (kindAt_digit.1 e).1; omega)]
    exact fun e => by have := (kindAt_digit.1 e).1; omega
  | succ k ih =>
    intro i hk
    by_cases h : kindAt s i = 2
    · have hi := (kindAt_digit.1 h).1
      rw [digEnd_step h]
      exact ih _ (by omega)
    · rw [digEnd_here h]; exact h
theorem cutF_at {s : ByteArray} {A : Nat} (hA : A ≤ s.size) (h0 : ∀ j, j < A → bt s j ≠ 124) (h1 : A = s.size ∨ bt s A = 124) : ∀ f i, i ≤ A → s.size < i + f → cutF s f i = A := by
  intro f
  induction f with
  | zero => intro i hi hf; omega
  | succ f ih =>
    intro i hi hf
    unfold cutF
    rcases Nat.eq_or_lt_of_le hi with rfl | hi
    · rcases h1 with h1 | h1
      · rw [if_neg (by omega)]
      · split
        · rfl
        · rfl
    · rw [if_pos (by omega), if_neg (h0 i hi)]
      exact ih _ (by omega) (by omega)
theorem cutI_at {s : ByteArray} {A : Nat} (hA : A ≤ s.size) (h0 : ∀ j, j < A → bt s j ≠ 124) (h1 : A = s.size ∨ bt s A = 124) : cutI s = A := cutF_at hA h0 h1 _ 0 (Nat.zero_le _) (by omega)
theorem cutF_told (s : ByteArray) : ∀ f i, s.size < i + f → (∀ j, i ≤ j → j < cutF s f i → bt s j ≠ 124) ∧ (cutF s f i < s.size → bt s (cutF s f i) = 124) := by
  intro f
  induction f with
  | zero => intro i hf; exact ⟨fun j h0 h1 => absurd h1 (by unfold cutF; omega), fun h => absurd h (by unfold cutF; omega)⟩
  | succ f ih =>
    intro i hf
    unfold cutF
    by_cases hi : i < s.size
    · rw [if_pos hi]
      by_cases hb : bt s i = 124
      · rw [if_pos hb]
        exact ⟨fun j h0 h1 => by omega, fun _ => hb⟩
      · rw [if_neg hb]
        obtain ⟨h1, h2⟩ := ih (i + 1) (by omega)
        refine ⟨fun j h3 h4 => ?_, h2⟩
        rcases Nat.eq_or_lt_of_le h3 with rfl | h3
        · exact hb
        · exact h1 j h3 h4
    · rw [if_neg hi]
      exact ⟨fun j h0 h1 => by omega, fun h => absurd h hi⟩
theorem cutI_told (s : ByteArray) : (∀ j, j < cutI s → bt s j ≠ 124) ∧ (cutI s < s.size → bt s (cutI s) = 124) := by
  obtain ⟨h1, h2⟩ := cutF_told s (s.size + 1) 0 (by omega)
  exact ⟨fun j h => h1 j (Nat.zero_le _) h, h2⟩
theorem digit_stroke {s : ByteArray} {j : Nat} (h : kindAt s j = 2) : bt s j ≠ 124 := by
  have := kindAt_digit.1 h
  omega
theorem above_size (t : ByteArray) : (above t).size = digEnd t 0 := by
  have := (digEnd_range t 0).2 (Nat.zero_le _)
  unfold above; rw [ByteArray.size_extract]; omega
theorem below_size (t : ByteArray) : (below t).size = if digEnd t 0 < t.size ∧ bt t (digEnd t 0) = 124 then digEnd t (digEnd t 0 + 1) - (digEnd t 0 + 1) else 0 := by
  have h1 := digEnd_range t (digEnd t 0 + 1)
  unfold below
  by_cases h : digEnd t 0 < t.size ∧ bt t (digEnd t 0) = 124
  · have := h1.2 (by omega)
    rw [if_pos h, if_pos h, ByteArray.size_extract]; omega
  · rw [if_neg h, if_neg h]; rfl
theorem numEnd_size (t : ByteArray) : numEnd t 0 = if (below t).size = 0 then (above t).size else (above t).size + 1 + (below t).size := by
  rw [below_size, above_size]
  have h1 := digEnd_range t (digEnd t 0 + 1)
  unfold numEnd
  by_cases h : digEnd t 0 < t.size ∧ bt t (digEnd t 0) = 124
  · rw [if_pos h]
    by_cases h2 : digEnd t 0 + 1 < digEnd t (digEnd t 0 + 1)
    · rw [if_pos ⟨h.1, h.2, h2⟩, if_neg (by omega)]; omega
    · rw [if_neg (fun e => h2 e.2.2), if_pos (by omega)]
  · rw [if_neg h, if_neg (fun e => h ⟨e.1, e.2.1⟩), if_pos rfl]
theorem extract_all (x : ByteArray) : x.extract 0 x.size = x := by simp
theorem numB_may (s : ByteArray) : numB s = (mayB (above s) (below s) && decide (numEnd s 0 = s.size)) := by
  have hd := (digEnd_range s 0).2 (Nat.zero_le _)
  have hall := digEnd_all s _ 0 (Nat.le_refl _)
  have hstop := digEnd_stop s _ 0 (Nat.le_refl _)
  obtain ⟨c1, c2⟩ := cutI_told s
  have c3 := cutI_le s
  have hza := above_size s
  have hzb := below_size s
  have hze := numEnd_size s
  unfold numB
  by_cases hc : cutI s = s.size
  · rw [if_pos hc]
    have hnb : ¬ (digEnd s 0 < s.size ∧ bt s (digEnd s 0) = 124) := fun e => c1 _ (by omega) e.2
    rw [if_neg hnb] at hzb
    rw [if_pos hzb, hza] at hze
    rw [hze]
    by_cases h : digEnd s 0 = s.size
    · have ha : above s = s := by unfold above; rw [h]; exact extract_all s
      rw [decide_eq_true h, Bool.and_true, plain_part h]
      unfold mayB longB
      rw [ha, hzb, decide_eq_false (show ¬ 40 < 0 by omega), decide_eq_true (show (0 : Nat) = 0 from rfl), Bool.or_false, Bool.true_or, Bool.and_true]
      by_cases h4 : s.size ≤ 40
      · rw [decide_eq_true h4, decide_eq_false (by omega)]; rfl
      · rw [decide_eq_false h4, decide_eq_true (by omega)]; rfl
    · rw [decide_eq_false h, Bool.and_false]; exact part_no h
  · rw [if_neg hc]
    have hlt : cutI s < s.size := by omega
    have hb := c2 hlt
    have hdA : digEnd s 0 ≤ cutI s := by
      rcases Nat.lt_or_ge (cutI s) (digEnd s 0) with h | h
      · exact absurd hb (digit_stroke (hall _ (Nat.zero_le _) h))
      · exact h
    rcases Nat.eq_or_lt_of_le hdA with h | h
    · -- the digits end at the stroke
      have hcond : digEnd s 0 < s.size ∧ bt s (digEnd s 0) = 124 := ⟨by omega, by rw [h]; exact hb⟩
      rw [if_pos hcond] at hzb
      have hE := digEnd_range s (digEnd s 0 + 1)
      have hE2 := hE.2 (by omega)
      have hA1 : above s = s.extract 0 (cutI s) := by unfold above; rw [h]
      have hB1 : below s = s.extract (cutI s + 1) (digEnd s (cutI s + 1)) := by unfold below; rw [if_pos hcond, h]
      have hpa : partB (s.extract 0 (cutI s)) = (decide ((above s).size ≤ 40) && plainB (above s)) := by
        rw [← hA1]
        refine plain_part ?_
        have hf := front s hd
        rw [show s.extract 0 (digEnd s 0) = above s from rfl] at hf
        rw [hf.digits _ 0 (Nat.zero_le _) (Nat.le_refl _) (by omega)]; omega
      have hsh := shifted_rest s (i := cutI s + 1) (by omega)
      have hdy := hsh.digits _ 0 (Nat.le_refl _)
      rw [Nat.add_zero] at hdy
      have hzy : (s.extract (cutI s + 1) s.size).size = s.size - (cutI s + 1) := by rw [ByteArray.size_extract]; omega
      rw [h] at hzb hE hE2
      by_cases he : digEnd s (cutI s + 1) = s.size
      · rw [he] at hB1 hzb
        rw [← hB1] at hdy hzy ⊢
        have hpb : partB (below s) = (decide ((below s).size ≤ 40) && plainB (below s)) := plain_part (by omega)
        rw [hpa, hpb]
        by_cases h0 : (below s).size = 0
        · have hpl : plainB (below s) = false := by rw [size_zero h0]; unfold plainB; rw [ByteArray.toList_eq]; rfl
          rw [if_pos h0] at hze
          rw [hpl, decide_eq_false (show ¬ numEnd s 0 = s.size by omega)]; simp
        · rw [if_neg h0] at hze
          rw [decide_eq_true (show numEnd s 0 = s.size by omega), Bool.and_true]
          unfold mayB longB
          rw [decide_eq_false h0, Bool.false_or]
          generalize plainB (above s) = p
          generalize plainB (below s) = q
          generalize ((below s).toList == [48]) = r
          by_cases g1 : (above s).size ≤ 40
          · rw [decide_eq_true g1, decide_eq_false (show ¬ 40 < (above s).size by omega)]
            by_cases g2 : (below s).size ≤ 40
            · rw [decide_eq_true g2, decide_eq_false (show ¬ 40 < (below s).size by omega)]
              cases p <;> cases q <;> cases r <;> rfl
            · rw [decide_eq_false g2, decide_eq_true (show 40 < (below s).size by omega)]
              cases p <;> cases q <;> cases r <;> rfl
          · rw [decide_eq_false g1, decide_eq_true (show 40 < (above s).size by omega)]; rfl
      · have hpb : partB (s.extract (cutI s + 1) s.size) = false := part_no (by omega)
        rw [hpb, Bool.and_false, Bool.false_and]
        have hne : ¬ numEnd s 0 = s.size := by
          rw [hze]
          split <;> omega
        rw [decide_eq_false hne, Bool.and_false]
    · have hnb : ¬ (digEnd s 0 < s.size ∧ bt s (digEnd s 0) = 124) := fun e => c1 _ h e.2
      rw [if_neg hnb] at hzb
      rw [if_pos hzb, hza] at hze
      have hf := front s c3
      have hz0 : (s.extract 0 (cutI s)).size = cutI s := by rw [ByteArray.size_extract]; omega
      have hpa : partB (s.extract 0 (cutI s)) = false := by
        refine part_no ?_
        rw [hf.digits _ 0 (Nat.zero_le _) (Nat.le_refl _) (by omega)]; omega
      rw [hpa, Bool.false_and, Bool.false_and, decide_eq_false (show ¬ numEnd s 0 = s.size by omega), Bool.and_false]
theorem num_front (t : ByteArray) : above (t.extract 0 (numEnd t 0)) = above t ∧ below (t.extract 0 (numEnd t 0)) = below t ∧ numEnd (t.extract 0 (numEnd t 0)) 0 = (t.extract 0 (numEnd t 0)).size ∧ cutI (t.extract 0 (numEnd t 0)) = (above t).size := by
  have hn := numEnd_range (s := t) (i := 0) (Nat.zero_le _)
  have hf := front t hn.2
  have hz : (t.extract 0 (numEnd t 0)).size = numEnd t 0 := by rw [ByteArray.size_extract]; omega
  have hd := digEnd_range t (digEnd t 0 + 1)
  have hd0 := (digEnd_range t 0).2 (Nat.zero_le _)
  have hle : digEnd t 0 ≤ numEnd t 0 := by unfold numEnd; split <;> omega
  have hD : digEnd (t.extract 0 (numEnd t 0)) 0 = digEnd t 0 := hf.digits _ 0 (Nat.zero_le _) (Nat.le_refl _) (by omega)
  have hN : numEnd (t.extract 0 (numEnd t 0)) 0 = (t.extract 0 (numEnd t 0)).size := (hf.number (Nat.zero_le _) (by omega)).trans hz.symm
  have hA : above (t.extract 0 (numEnd t 0)) = above t := by
    unfold above
    rw [hD]
    exact (front_extract hf (by omega)).symm
  refine ⟨hA, ?_, hN, ?_⟩
  · unfold below
    rw [hD, hz]
    by_cases hc : digEnd t 0 < t.size ∧ bt t (digEnd t 0) = 124
    · rw [if_pos hc]
      by_cases h2 : digEnd t 0 + 1 < digEnd t (digEnd t 0 + 1)
      · have he : numEnd t 0 = digEnd t (digEnd t 0 + 1) := by unfold numEnd; rw [if_pos ⟨hc.1, hc.2, h2⟩]
        rw [if_pos ⟨by omega, by rw [hf.same _ (by omega)]; exact hc.2⟩]
        rw [hf.digits _ (digEnd t 0 + 1) (by omega) (Nat.le_refl _) (by omega)]
        exact (front_extract hf (by omega)).symm
      · have he : numEnd t 0 = digEnd t 0 := by unfold numEnd; rw [if_neg (fun e => h2 e.2.2)]
        rw [if_neg (fun e => by omega), extract_none _ (by omega)]
    · have he : numEnd t 0 = digEnd t 0 := by unfold numEnd; rw [if_neg (fun e => hc ⟨e.1, e.2.1⟩)]
      rw [if_neg hc, if_neg (fun e => by omega)]
  · rw [above_size]
    refine cutI_at (by omega) (fun j hj => ?_) ?_
    · rw [hf.same j (by omega)]
      exact digit_stroke (digEnd_all t _ 0 (Nat.le_refl _) j (Nat.zero_le _) hj)
    · by_cases hc : digEnd t 0 < t.size ∧ bt t (digEnd t 0) = 124 ∧ digEnd t 0 + 1 < digEnd t (digEnd t 0 + 1)
      · right
        have he : numEnd t 0 = digEnd t (digEnd t 0 + 1) := by unfold numEnd; rw [if_pos hc]
        rw [hf.same _ (by omega)]; exact hc.2.1
      · left
        have he : numEnd t 0 = digEnd t 0 := by unfold numEnd; rw [if_neg hc]
        omega
theorem token_number {t : ByteArray} (hk : kindAt t 0 = 2) : tokenI t 0 = if longB (above t) (below t) = true then (0, ⟨#[]⟩, numEnd t 0, 4) else if mayB (above t) (below t) = true then (1, t.extract 0 (numEnd t 0), numEnd t 0, 0) else (0, ⟨#[]⟩, numEnd t 0, 5) := by
  obtain ⟨h1, h2, h3, h4⟩ := num_front t
  have hs := numEnd_size t
  have hn := numEnd_range (s := t) (i := 0) (Nat.zero_le _)
  have hz : (t.extract 0 (numEnd t 0)).size = numEnd t 0 := by rw [ByteArray.size_extract]; omega
  unfold tokenI
  rw [if_neg (by omega), if_pos hk, numB_may (t.extract 0 (numEnd t 0)), h1, h2, h3, h4, decide_eq_true rfl, Bool.and_true]
  by_cases hl : longB (above t) (below t) = true
  · rw [if_pos hl, if_pos]
    unfold longB at hl
    simp only [Bool.or_eq_true, decide_eq_true_eq] at hl
    rw [hz, hs]
    split <;> omega
  · rw [if_neg hl, if_neg]
    unfold longB at hl
    simp only [Bool.or_eq_true, decide_eq_true_eq] at hl
    rw [hz, hs]
    split <;> omega
end Go.Proofs.YtbcfplaalepnbaaGreatDoor
namespace Go.Proofs.YtbcfplaalepnbaaGreatDoor
open Go.Lib
theorem right_kind {k : Int} {x : ByteArray} (h : RightT k x) : (k = 0 ∧ kindAt x 0 = 1) ∨ (k = 1 ∧ kindAt x 0 = 2 ∧ numB x = true) ∨ (k = 2 ∧ kindAt x 0 = 4 ∧ stepAt x 0 = x.size) := by
  obtain ⟨h0, h⟩ := h
  have h1 := congrArg (fun q => q.1) h
  have h2 := congrArg (fun q => q.2.1) h
  have h3 := congrArg (fun q => q.2.2.1) h
  have h4 := congrArg (fun q => q.2.2.2) h
  unfold tokenI at h1 h2 h3 h4
  by_cases k1 : kindAt x 0 = 1
  · simp only [if_pos k1] at h1 h2 h3 h4
    by_cases c1 : 0 + 40 < wordEnd x 0
    · simp only [if_pos c1] at h4
      omega
    · simp only [if_neg c1] at h1
      exact .inl ⟨h1.symm, k1⟩
  · simp only [if_neg k1] at h1 h2 h3 h4
    by_cases k2 : kindAt x 0 = 2
    · simp only [if_pos k2] at h1 h2 h3 h4
      split at h4
      · exact absurd (show (4 : Int) = 0 from h4) (by decide)
      · rename_i c1
        simp only [if_neg c1] at h1 h2 h3
        split at h4
        · rename_i c2
          simp only [if_pos c2] at h1 h2 h3
          rw [h2] at c2
          exact .inr (.inl ⟨h1.symm, k2, c2⟩)
        · exact absurd (show (5 : Int) = 0 from h4) (by decide)
    · simp only [if_neg k2] at h1 h2 h3 h4
      split at h4
      · rename_i k4
        simp only [if_pos k4] at h1 h3
        exact .inr (.inr ⟨h1.symm, k4, by omega⟩)
      · exact absurd (show (5 : Int) = 0 from h4) (by decide)
theorem kind_low {x : ByteArray} {i : Nat} (hi : i < x.size) (h : bt x i < 128) : kindAt x i = kindI (bt x i) := by
  unfold kindAt
  rw [if_pos hi, (next_byte h).1]
theorem mark_kind {k : Int} {x : ByteArray} {c : UInt8} (h : RightT k x) (hx : x.toList = [c]) (hc : kindI c.toNat = 4) : k = 2 := by
  have e : x = ⟨#[c]⟩ := by
    rw [ByteArray.toList_eq] at hx
    cases x with
    | mk d => congr 1; exact Array.toList_inj.1 (by simpa using hx)
  subst e
  have hb : bt ⟨#[c]⟩ 0 = c.toNat := rfl
  have hl : c.toNat < 128 := by
    by_cases q : c.toNat < 128
    · exact q
    · exfalso
      unfold kindI at hc
      repeat' split at hc
      all_goals omega
  have hk : kindAt ⟨#[c]⟩ 0 = 4 := by rw [kind_low (by show 0 < 1; omega) (by rw [hb]; exact hl), hb, hc]
  rcases right_kind h with ⟨-, q⟩ | ⟨-, q, -⟩ | ⟨q, -⟩
  · omega
  · omega
  · exact q
theorem word_kind {k : Int} {x : ByteArray} (h : RightT k x) (hk : kindAt x 0 = 1) : k = 0 := by
  rcases right_kind h with ⟨q, -⟩ | ⟨-, q, -⟩ | ⟨-, q, -⟩
  · exact q
  · omega
  · omega
theorem low_kind {k : Int} {x : ByteArray} {c : UInt8} {r : List UInt8} (h : RightT k x) (hx : x.toList = c :: r) (hc : c.toNat < 128 ∧ kindI c.toNat = 1) : k = 0 := by
  have e : x.data.toList = c :: r := by rw [← ByteArray.toList_eq]; exact hx
  have hs : 0 < x.size := by show 0 < x.data.size; rw [← Array.length_toList, e]; simp
  have hb : bt x 0 = c.toNat := by
    rw [bt_get hs]
    have : x.data.toList[0]? = some c := by rw [e]; rfl
    obtain ⟨hl, he⟩ := List.getElem?_eq_some_iff.1 this
    exact congrArg UInt8.toNat he
  exact word_kind h (by rw [kind_low hs (by omega), hb]; exact hc.2)
theorem name_kind {k : Int} {x : ByteArray} (h : RightT k x) (hn : nameB x = true) : k = 0 := by
  refine word_kind h ?_
  have hs := h.1
  unfold nameB at hn
  simp only [Bool.and_eq_true] at hn
  have := hn.2
  unfold nameF at this
  rw [if_pos hs] at this
  split at this
  · exact absurd this (by simp)
  · rename_i q
    unfold kindAt
    rw [if_pos hs]
    omega
def expA (x : ByteArray) : Option Int := match atoiAll x.data.toList with
  | .ok n => if n ≤ 20 then some n else none
  | _ => none
theorem pu_digits : ∀ (l : List UInt8) (acc u : Nat), parseUint10 acc l = .ok u → (∀ c ∈ l, 48 ≤ c.toNat ∧ c.toNat ≤ 57) ∧ acc * 10 ^ l.length ≤ u := by
  intro l
  induction l with
  | nil =>
    intro acc u h
    simp only [parseUint10] at h
    cases h
    exact ⟨fun c hc => by simp at hc, by simp⟩
  | cons c r ih =>
    intro acc u h
    unfold parseUint10 at h
    split at h
    · rename_i hc
      split at h
      · cases h
      · split at h
        · cases h
        · obtain ⟨h1, h2⟩ := ih _ _ h
          refine ⟨fun d hd => ?_, ?_⟩
          · rcases List.mem_cons.1 hd with rfl | q
            · exact hc
            · exact h1 d q
          · rw [List.length_cons, Nat.pow_succ]
            refine Nat.le_trans ?_ h2
            rw [Nat.mul_comm (10 ^ r.length) 10, ← Nat.mul_assoc]
            exact Nat.mul_le_mul_right _ (Nat.le_add_right _ _)
    · cases h
theorem atoi_open {c : UInt8} {r : List UInt8} (hc : 48 ≤ c.toNat ∧ c.toNat ≤ 57) : (if c.toNat = 43 ∨ c.toNat = 45 then r else c :: r) = c :: r ∧ parseMag (c :: r) = parseUint10 0 (c :: r) :=
  ⟨if_neg (by omega), by unfold parseMag; rw [if_neg (by simp)]⟩
theorem atoi_dig {c : UInt8} {r : List UInt8} (hc : 48 ≤ c.toNat ∧ c.toNat ≤ 57) {u : Nat} (hp : parseUint10 0 (c :: r) = .ok u) : atoiAll (c :: r) = if 9223372036854775808 ≤ u then .range else .ok (u : Int) := by
  have h2 : ¬ c.toNat = 45 := by omega
  unfold atoiAll
  dsimp only
  rw [(atoi_open hc).1, (atoi_open (r := r) hc).2, hp]
  dsimp only
  by_cases q : 9223372036854775808 ≤ u
  · rw [if_pos ⟨h2, q⟩, if_pos q]
  · rw [if_neg (fun t => q t.2), if_neg (fun t => h2 t.1), if_neg h2, if_neg q]
theorem atoi_digit {c : UInt8} {r : List UInt8} (hc : 48 ≤ c.toNat ∧ c.toNat ≤ 57) {n : Int} (h : atoiAll (c :: r) = .ok n) : ∃ u : Nat, n = u ∧ parseUint10 0 (c :: r) = .ok u := by
  cases hp : parseUint10 0 (c :: r)
  case ok u =>
    rw [atoi_dig hc hp] at h
    split at h
    · cases h
    · injection h with h
      exact ⟨u, h.symm, rfl⟩
  all_goals
    exfalso
    unfold atoiAll at h
    dsimp only at h
    rw [(atoi_open hc).1, (atoi_open (r := r) hc).2, hp] at h
    cases h
theorem expA_nil {x : ByteArray} (hx : x.data.toList = []) : expA x = none := by unfold expA; rw [hx]; rfl
theorem atoi_other {c : UInt8} {r : List UInt8} (hc : ¬ (48 ≤ c.toNat ∧ c.toNat ≤ 57)) (h : (c.toNat ≠ 43 ∧ c.toNat ≠ 45) ∨ r = []) (n : Int) : atoiAll (c :: r) ≠ .ok n := by
  unfold atoiAll
  by_cases hs : c.toNat = 43 ∨ c.toNat = 45
  · obtain rfl := h.resolve_left (by omega)
    simp only [if_pos hs]
    unfold parseMag
    simp
  · simp only [if_neg hs]
    unfold parseMag
    rw [if_neg (by simp)]
    unfold parseUint10
    rw [if_neg hc]
    simp
theorem expA_none {x : ByteArray} (h : ∀ n, atoiAll x.data.toList ≠ .ok n) : expA x = none := by
  unfold expA
  cases hp : atoiAll x.data.toList
  case ok n => exact absurd hp (h n)
  all_goals rfl
theorem bt_head {x : ByteArray} {c : UInt8} {r : List UInt8} (e : x.data.toList = c :: r) : bt x 0 = c.toNat ∧ x.size = r.length + 1 := by
  have hs : x.size = r.length + 1 := by show x.data.size = _; rw [← Array.length_toList, e]; simp
  refine ⟨?_, hs⟩
  rw [bt_get (by omega)]
  have : x.data.toList[0]? = some c := by rw [e]; rfl
  obtain ⟨hl, he⟩ := List.getElem?_eq_some_iff.1 this
  exact congrArg UInt8.toNat he
theorem bt_list {x : ByteArray} {j : Nat} (hj : j < x.size) : ∃ c, x.data.toList[j]? = some c ∧ c ∈ x.data.toList ∧ bt x j = c.toNat := by
  have hl : j < x.data.toList.length := by rw [Array.length_toList]; exact hj
  exact ⟨x.data.toList[j], List.getElem?_eq_getElem hl, List.getElem_mem hl, by rw [bt_get hj]; rfl⟩
theorem expA_word {k : Int} {x : ByteArray} (h : RightT k x) (hk : k ≠ 1) : expA x = none := by
  have h0 := h.1
  refine expA_none fun n => ?_
  cases e : x.data.toList with
  | nil => have : x.size = 0 := by show x.data.size = 0; rw [← Array.length_toList, e]; rfl
           omega
  | cons c r =>
    obtain ⟨hb, hs⟩ := bt_head e
    rcases right_kind h with ⟨-, q⟩ | ⟨q, -⟩ | ⟨-, q, hst⟩
    · have hd : ¬ (48 ≤ c.toNat ∧ c.toNat ≤ 57) := by
        intro hd
        have := (kindAt_digit (s := x) (i := 0)).2 ⟨h0, by omega, by omega⟩
        omega
      refine atoi_other hd (.inl ⟨fun hc => ?_, fun hc => ?_⟩) n
      · rw [kind_low h0 (by omega), hb, hc] at q; exact absurd q (by decide)
      · rw [kind_low h0 (by omega), hb, hc] at q; exact absurd q (by decide)
    · exact absurd q hk
    · have hd : ¬ (48 ≤ c.toNat ∧ c.toNat ≤ 57) := by
        intro hd
        have := (kindAt_digit (s := x) (i := 0)).2 ⟨h0, by omega, by omega⟩
        omega
      refine atoi_other hd ?_ n
      by_cases hr : r = []
      · exact .inr hr
      · left
        have hr1 : 0 < r.length := List.length_pos_iff.2 hr
        have hst1 : ∀ v : Nat, c.toNat = v → v < 128 → stepAt x 0 = 1 := by
          intro v hv hlt
          unfold stepAt
          rw [if_pos h0, (next_byte (by omega)).2]
        exact ⟨fun hc => by have := hst1 43 hc (by omega); omega, fun hc => by have := hst1 45 hc (by omega); omega⟩
theorem expA_number {x : ByteArray} (h : RightT 1 x) : expA x = if 0 ≤ expI x then some (expI x) else none := by
  have h0 := h.1
  obtain ⟨hk, hn⟩ : kindAt x 0 = 2 ∧ numB x = true := by
    rcases right_kind h with ⟨q, -⟩ | ⟨-, q⟩ | ⟨q, -⟩
    · exact absurd q (by decide)
    · exact q
    · exact absurd q (by decide)
  have hd0 := kindAt_digit.1 hk
  cases e : x.data.toList with
  | nil => have : x.size = 0 := by show x.data.size = 0; rw [← Array.length_toList, e]; rfl
           omega
  | cons c r =>
    obtain ⟨hb, hs⟩ := bt_head e
    have hc : 48 ≤ c.toNat ∧ c.toNat ≤ 57 := by omega
    by_cases s1 : x.size = 1
    · obtain rfl : r = [] := List.length_eq_zero_iff.1 (by omega)
      have hE : expI x = (c.toNat : Int) - 48 := by unfold expI; rw [if_pos s1, hb]
      rw [hE]
      have ea : atoiAll [c] = .ok ((c.toNat : Int) - 48) := by
        have ep : parseUint10 0 [c] = .ok (c.toNat - 48) := by
          unfold parseUint10
          rw [if_pos hc, if_neg (by omega), if_neg (by omega)]
          unfold parseUint10
          congr 1; omega
        rw [atoi_dig hc ep, if_neg (by omega)]
        congr 1
        omega
      unfold expA
      rw [e, ea, if_pos (by omega)]
      simp only
      rw [if_pos (by omega)]
    · cases r with
      | nil => simp at hs; omega
      | cons d r =>
        have hb1 : bt x 1 = d.toNat := by
          obtain ⟨c', hc1, -, hc3⟩ := bt_list (x := x) (j := 1) (by simp at hs; omega)
          rw [e] at hc1
          simp at hc1
          rw [hc3, hc1]
        by_cases s2 : x.size = 2 ∧ bt x 1 ≠ 124
        · obtain rfl : r = [] := List.length_eq_zero_iff.1 (by simp at hs; omega)
          have hcut : cutI x = x.size := by
            refine cutI_at (Nat.le_refl _) (fun j hj => ?_) (.inl rfl)
            rcases (show j = 0 ∨ j = 1 by omega) with rfl | rfl
            · omega
            · exact s2.2
          have hp : partB x = true := by unfold numB at hn; rw [if_pos hcut] at hn; exact hn
          unfold partB at hp
          simp only [Bool.and_eq_true, decide_eq_true_eq] at hp
          have hd1 := kindAt_digit.1 (digEnd_all x x.size 0 (by omega) 1 (by omega) (by omega))
          have hdd : 48 ≤ d.toNat ∧ d.toNat ≤ 57 := by omega
          have ea : atoiAll [c, d] = .ok (10 * ((c.toNat : Int) - 48) + (d.toNat - 48)) := by
            have ep : parseUint10 0 [c, d] = .ok (10 * (c.toNat - 48) + (d.toNat - 48)) := by
              unfold parseUint10
              rw [if_pos hc, if_neg (by omega), if_neg (by omega)]
              unfold parseUint10
              rw [if_pos hdd, if_neg (by omega), if_neg (by omega)]
              unfold parseUint10
              congr 1; omega
            rw [atoi_dig hc ep, if_neg (by omega)]
            congr 1
            omega
          unfold expA
          rw [e, ea]
          dsimp only
          by_cases h20 : 10 * ((c.toNat : Int) - 48) + d.toNat - 48 ≤ 20
          · have hE : expI x = 10 * ((c.toNat : Int) - 48) + d.toNat - 48 := by unfold expI; rw [if_neg s1, hb, hb1, if_pos ⟨s2.1, by omega, h20⟩]
            rw [hE, if_pos (by omega), if_pos (by omega)]
            congr 1
            omega
          · have hE : expI x = -1 := by unfold expI; rw [if_neg s1, hb, hb1, if_neg (fun q => h20 q.2.2)]
            rw [hE, if_neg (by omega), if_neg (by omega)]
        · have hE : expI x = -1 := by unfold expI; rw [if_neg s1, if_neg (fun q => s2 ⟨q.1, q.2.1⟩)]
          rw [hE, if_neg (by omega)]
          unfold expA
          cases ea : atoiAll x.data.toList
          case ok n =>
            simp only
            rw [if_neg]
            rw [e] at ea
            obtain ⟨u, rfl, hu⟩ := atoi_digit hc ea
            obtain ⟨hall, -⟩ := pu_digits _ _ _ hu
            have hnb : ∀ j, j < x.size → 48 ≤ bt x j ∧ bt x j ≤ 57 := by
              intro j hj
              obtain ⟨c', -, hm', hc3⟩ := bt_list hj
              rw [e] at hm'
              have := hall c' hm'
              omega
            have hs3 : 3 ≤ x.size := by
              rcases (show x.size = 2 ∨ 3 ≤ x.size by simp at hs; omega) with q | q
              · have := hnb 1 (by omega)
                exact absurd ⟨q, by omega⟩ s2
              · exact q
            have hcut : cutI x = x.size := by
              have t1 := cutI_told x
              have t2 := cutI_le x
              rcases Nat.lt_or_ge (cutI x) x.size with q | q
              · have := hnb _ q
                have := t1.2 q
                omega
              · omega
            have hp : partB x = true := by unfold numB at hn; rw [if_pos hcut] at hn; exact hn
            unfold partB at hp
            simp only [Bool.and_eq_true, Bool.or_eq_true, decide_eq_true_eq] at hp
            have hne : bt x 0 ≠ 48 := hp.2.resolve_left (by omega)
            unfold parseUint10 at hu
            rw [if_pos hc, if_neg (by omega), if_neg (by omega)] at hu
            obtain ⟨-, hge⟩ := pu_digits _ _ _ hu
            have hl : 2 ≤ (d :: r).length := by simp at hs ⊢; omega
            have h100 : 10 ^ 2 ≤ 10 ^ (d :: r).length := Nat.pow_le_pow_right (by omega) hl
            have h1c : 1 ≤ 0 * 10 + (c.toNat - 48) := by omega
            have := Nat.mul_le_mul h1c h100
            omega
          all_goals rfl
end Go.Proofs.YtbcfplaalepnbaaGreatDoor
namespace Go.Proofs.YtbcfplaalepnbaaGreatDoor
open Go.RowKit Go.Lib
def letterP (r : Int) : Prop := 97 ≤ r ∧ r ≤ 122 ∨ 65 ≤ r ∧ r ≤ 90 ∨ r = 95 ∨ 128 ≤ r ∧ r ≤ 1114111 ∧ r ≠ 65533
set_option maxHeartbeats 4000000 in
theorem sign_letter_yes (r : Int) (h : letterP r) (w : World) : Calls Tryz.prog 109 #[.int .i32 r] w fun e w' => e = .returned (.bool true) ∧ w = w' := by
  rcases h with ⟨g1, g2⟩ | ⟨g1, g2⟩ | rfl | ⟨g1, g2, g3⟩
  · have g3 : ¬ 128 ≤ r := by omega
    go_enter Tryz.func109, Tryz.ntmps109
    go_wp2
    go_ret
    exact ⟨rfl, rfl⟩
  · have g3 : ¬ 128 ≤ r := by omega
    have g4 : ¬ 97 ≤ r := by omega
    go_enter Tryz.func109, Tryz.ntmps109
    go_wp2
    go_ret
    exact ⟨rfl, rfl⟩
  · go_enter Tryz.func109, Tryz.ntmps109
    go_wp2
    go_ret
    exact ⟨rfl, rfl⟩
  · have g4 : (r != 65533) = true := by rw [bne_iff_ne]; exact g3
    clear g3
    go_enter Tryz.func109, Tryz.ntmps109
    go_wp2
    go_ret
    exact ⟨rfl, rfl⟩
set_option maxHeartbeats 4000000 in
theorem sign_letter_no (r : Int) (h : ¬ letterP r) (w : World) : Calls Tryz.prog 109 #[.int .i32 r] w fun e w' => e = .returned (.bool false) ∧ w = w' := by
  unfold letterP at h
  rcases (by omega : r < 65 ∨ (90 < r ∧ r < 97 ∧ r ≠ 95) ∨ (122 < r ∧ r < 128) ∨ r = 65533 ∨ 1114111 < r) with g | ⟨g1, g2, g3⟩ | ⟨g1, g2⟩ | rfl | g
  · have g1 : ¬ 128 ≤ r := by omega
    have g2 : ¬ 97 ≤ r := by omega
    have g3 : ¬ 65 ≤ r := by omega
    have g4 : (r == 95) = false := by rw [beq_eq_false_iff_ne]; omega
    clear h
    go_enter Tryz.func109, Tryz.ntmps109
    go_wp2
    go_ret
    exact ⟨rfl, rfl⟩
  · have k1 : ¬ 128 ≤ r := by omega
    have k2 : ¬ 97 ≤ r := by omega
    have k3 : ¬ r ≤ 90 := by omega
    have k5 : 65 ≤ r := by omega
    have k4 : (r == 95) = false := by rw [beq_eq_false_iff_ne]; omega
    clear h
    go_enter Tryz.func109, Tryz.ntmps109
    go_wp2
    go_ret
    exact ⟨rfl, rfl⟩
  · have k1 : ¬ 128 ≤ r := by omega
    have k2 : 97 ≤ r := by omega
    have k3 : ¬ r ≤ 122 := by omega
    have k5 : 65 ≤ r := by omega
    have k6 : ¬ r ≤ 90 := by omega
    have k4 : (r == 95) = false := by rw [beq_eq_false_iff_ne]; omega
    clear h
    go_enter Tryz.func109, Tryz.ntmps109
    go_wp2
    go_ret
    exact ⟨rfl, rfl⟩
  · clear h
    go_enter Tryz.func109, Tryz.ntmps109
    go_wp2
    go_ret
    exact ⟨rfl, rfl⟩
  · have k1 : 128 ≤ r := by omega
    have k2 : ¬ r ≤ 1114111 := by omega
    clear h
    go_enter Tryz.func109, Tryz.ntmps109
    go_wp2
    go_ret
    exact ⟨rfl, rfl⟩
theorem kindI_letter {r : Int} (h : letterP r) : kindI r = 1 := if_pos h
theorem kindI_rest {r : Int} (h : ¬ letterP r) : kindI r = if 48 ≤ r ∧ r ≤ 57 then 2 else if r = 9 ∨ r = 10 ∨ r = 13 ∨ r = 32 then 3 else if r = 43 ∨ r = 45 ∨ r = 42 ∨ r = 47 ∨ r = 94 ∨ r = 40 ∨ r = 41 ∨ r = 61 ∨ r = 59 ∨ r = 44 then 4 else 0 := if_neg h
set_option maxHeartbeats 4000000 in
theorem sign_kind (r : Int) (k : Int) (hk : kindI r = k) (w : World) : Calls Tryz.prog 78 #[.int .i32 r] w fun e w' => e = .returned (.int .i64 k) ∧ w = w' := by
  by_cases hl : letterP r
  · have L := fun v => sign_letter_yes r hl v
    obtain rfl : k = 1 := by rw [← hk]; exact kindI_letter hl
    clear hl hk
    go_enter Tryz.func78, Tryz.ntmps78
    go_wp2_with (go_at_call 109; (with_reducible refine Calls.mono (L _) ?_); rintro e v1 ⟨rfl, rfl⟩)
    go_ret
    exact ⟨rfl, rfl⟩
  have L := fun v => sign_letter_no r hl v
  have HK : Hid (kindI r = k) := hk
  rcases (by omega : (48 ≤ r ∧ r ≤ 57) ∨ r = 9 ∨ r = 10 ∨ r = 13 ∨ r = 32 ∨ r = 43 ∨ r = 45 ∨ r = 42 ∨ r = 47 ∨ r = 94 ∨ r = 40 ∨ r = 41 ∨ r = 61 ∨ r = 59 ∨ r = 44 ∨ (¬ (48 ≤ r ∧ r ≤ 57) ∧ r ≠ 9 ∧ r ≠ 10 ∧ r ≠ 13 ∧ r ≠ 32 ∧ r ≠ 43 ∧ r ≠ 45 ∧ r ≠ 42 ∧ r ≠ 47 ∧ r ≠ 94 ∧ r ≠ 40 ∧ r ≠ 41 ∧ r ≠ 61 ∧ r ≠ 59 ∧ r ≠ 44)) with ⟨g1, g2⟩ | rfl | rfl | rfl | rfl | rfl | rfl | rfl | rfl | rfl | rfl | rfl | rfl | rfl | rfl | ⟨g, n9, n10, n13, n32, n43, n45, n42, n47, n94, n40, n41, n61, n59, n44⟩
  · obtain rfl : k = 2 := by
      rw [← HK.out, kindI_rest hl, if_pos ⟨g1, g2⟩]
    clear hl hk HK
    go_enter Tryz.func78, Tryz.ntmps78
    go_wp2_with (go_at_call 109; (with_reducible refine Calls.mono (L _) ?_); rintro e v1 ⟨rfl, rfl⟩)
    go_ret
    exact ⟨rfl, rfl⟩
  · obtain rfl : k = 3 := by rw [← HK.out]; decide
    clear hl hk HK
    go_enter Tryz.func78, Tryz.ntmps78
    go_wp2_with (go_at_call 109; (with_reducible refine Calls.mono (L _) ?_); rintro e v1 ⟨rfl, rfl⟩)
    go_ret
    exact ⟨rfl, rfl⟩
  · obtain rfl : k = 3 := by rw [← HK.out]; decide
    clear hl hk HK
    go_enter Tryz.func78, Tryz.ntmps78
    go_wp2_with (go_at_call 109; (with_reducible refine Calls.mono (L _) ?_); rintro e v1 ⟨rfl, rfl⟩)
    go_ret
    exact ⟨rfl, rfl⟩
  · obtain rfl : k = 3 := by rw [← HK.out]; decide
    clear hl hk HK
    go_enter Tryz.func78, Tryz.ntmps78
    go_wp2_with (go_at_call 109; (with_reducible refine Calls.mono (L _) ?_); rintro e v1 ⟨rfl, rfl⟩)
    go_ret
    exact ⟨rfl, rfl⟩
  · obtain rfl : k = 3 := by rw [← HK.out]; decide
    clear hl hk HK
    go_enter Tryz.func78, Tryz.ntmps78
    go_wp2_with (go_at_call 109; (with_reducible refine Calls.mono (L _) ?_); rintro e v1 ⟨rfl, rfl⟩)
    go_ret
    exact ⟨rfl, rfl⟩
  · obtain rfl : k = 4 := by rw [← HK.out]; decide
    clear hl hk HK
    go_enter Tryz.func78, Tryz.ntmps78
    go_wp2_with (go_at_call 109; (with_reducible refine Calls.mono (L _) ?_); rintro e v1 ⟨rfl, rfl⟩)
    go_ret
    exact ⟨rfl, rfl⟩
  · obtain rfl : k = 4 := by rw [← HK.out]; decide
    clear hl hk HK
    go_enter Tryz.func78, Tryz.ntmps78
    go_wp2_with (go_at_call 109; (with_reducible refine Calls.mono (L _) ?_); rintro e v1 ⟨rfl, rfl⟩)
    go_ret
    exact ⟨rfl, rfl⟩
  · obtain rfl : k = 4 := by rw [← HK.out]; decide
    clear hl hk HK
    go_enter Tryz.func78, Tryz.ntmps78
    go_wp2_with (go_at_call 109; (with_reducible refine Calls.mono (L _) ?_); rintro e v1 ⟨rfl, rfl⟩)
    go_ret
    exact ⟨rfl, rfl⟩
  · obtain rfl : k = 4 := by rw [← HK.out]; decide
    clear hl hk HK
    go_enter Tryz.func78, Tryz.ntmps78
    go_wp2_with (go_at_call 109; (with_reducible refine Calls.mono (L _) ?_); rintro e v1 ⟨rfl, rfl⟩)
    go_ret
    exact ⟨rfl, rfl⟩
  · obtain rfl : k = 4 := by rw [← HK.out]; decide
    clear hl hk HK
    go_enter Tryz.func78, Tryz.ntmps78
    go_wp2_with (go_at_call 109; (with_reducible refine Calls.mono (L _) ?_); rintro e v1 ⟨rfl, rfl⟩)
    go_ret
    exact ⟨rfl, rfl⟩
  · obtain rfl : k = 4 := by rw [← HK.out]; decide
    clear hl hk HK
    go_enter Tryz.func78, Tryz.ntmps78
    go_wp2_with (go_at_call 109; (with_reducible refine Calls.mono (L _) ?_); rintro e v1 ⟨rfl, rfl⟩)
    go_ret
    exact ⟨rfl, rfl⟩
  · obtain rfl : k = 4 := by rw [← HK.out]; decide
    clear hl hk HK
    go_enter Tryz.func78, Tryz.ntmps78
    go_wp2_with (go_at_call 109; (with_reducible refine Calls.mono (L _) ?_); rintro e v1 ⟨rfl, rfl⟩)
    go_ret
    exact ⟨rfl, rfl⟩
  · obtain rfl : k = 4 := by rw [← HK.out]; decide
    clear hl hk HK
    go_enter Tryz.func78, Tryz.ntmps78
    go_wp2_with (go_at_call 109; (with_reducible refine Calls.mono (L _) ?_); rintro e v1 ⟨rfl, rfl⟩)
    go_ret
    exact ⟨rfl, rfl⟩
  · obtain rfl : k = 4 := by rw [← HK.out]; decide
    clear hl hk HK
    go_enter Tryz.func78, Tryz.ntmps78
    go_wp2_with (go_at_call 109; (with_reducible refine Calls.mono (L _) ?_); rintro e v1 ⟨rfl, rfl⟩)
    go_ret
    exact ⟨rfl, rfl⟩
  · obtain rfl : k = 4 := by rw [← HK.out]; decide
    clear hl hk HK
    go_enter Tryz.func78, Tryz.ntmps78
    go_wp2_with (go_at_call 109; (with_reducible refine Calls.mono (L _) ?_); rintro e v1 ⟨rfl, rfl⟩)
    go_ret
    exact ⟨rfl, rfl⟩
  · obtain rfl : k = 0 := by
      rw [← HK.out, kindI_rest hl, if_neg g, if_neg (by omega), if_neg (by omega)]
    have e9 : (r == 9) = false := by rw [beq_eq_false_iff_ne]; exact n9
    have e10 : (r == 10) = false := by rw [beq_eq_false_iff_ne]; exact n10
    have e13 : (r == 13) = false := by rw [beq_eq_false_iff_ne]; exact n13
    have e32 : (r == 32) = false := by rw [beq_eq_false_iff_ne]; exact n32
    have e43 : (r == 43) = false := by rw [beq_eq_false_iff_ne]; exact n43
    have e45 : (r == 45) = false := by rw [beq_eq_false_iff_ne]; exact n45
    have e42 : (r == 42) = false := by rw [beq_eq_false_iff_ne]; exact n42
    have e47 : (r == 47) = false := by rw [beq_eq_false_iff_ne]; exact n47
    have e94 : (r == 94) = false := by rw [beq_eq_false_iff_ne]; exact n94
    have e40 : (r == 40) = false := by rw [beq_eq_false_iff_ne]; exact n40
    have e41 : (r == 41) = false := by rw [beq_eq_false_iff_ne]; exact n41
    have e61 : (r == 61) = false := by rw [beq_eq_false_iff_ne]; exact n61
    have e59 : (r == 59) = false := by rw [beq_eq_false_iff_ne]; exact n59
    have e44 : (r == 44) = false := by rw [beq_eq_false_iff_ne]; exact n44
    clear hl hk HK
    rcases (by omega : r < 48 ∨ 57 < r) with q | q
    · have q1 : ¬ 48 ≤ r := by omega
      clear g q n9 n10 n13 n32 n43 n45 n42 n47 n94 n40 n41 n61 n59 n44
      go_enter Tryz.func78, Tryz.ntmps78
      go_wp2_with (go_at_call 109; (with_reducible refine Calls.mono (L _) ?_); rintro e v1 ⟨rfl, rfl⟩)
      go_ret
      exact ⟨rfl, rfl⟩
    · have q1 : 48 ≤ r := by omega
      have q2 : ¬ r ≤ 57 := by omega
      clear g q n9 n10 n13 n32 n43 n45 n42 n47 n94 n40 n41 n61 n59 n44
      go_enter Tryz.func78, Tryz.ntmps78
      go_wp2_with (go_at_call 109; (with_reducible refine Calls.mono (L _) ?_); rintro e v1 ⟨rfl, rfl⟩)
      go_ret
      exact ⟨rfl, rfl⟩
set_option maxHeartbeats 4000000 in
theorem sign_key (s : ByteArray) (r : Bool) (hr : keyB s = r) (w : World) : Calls Tryz.prog 101 #[.string s] w fun e w' => e = .returned (.bool r) ∧ w = w' := by
  unfold keyB at hr
  generalize h1 : (s.toList == [105, 110]) = b1 at hr
  generalize h2 : (s.toList == [108, 101, 116]) = b2 at hr
  generalize h3 : (s.toList == [111, 117, 116]) = b3 at hr
  subst hr
  cases b1 <;> cases b2 <;> cases b3
  all_goals
    go_enter Tryz.func101, Tryz.ntmps101
    go_wp2
    go_ret
    exact ⟨rfl, rfl⟩
set_option maxHeartbeats 4000000 in
theorem sign_behind (l c R : Int) (hl0 : 0 ≤ l) (hl : l < 10000000) (hc0 : 0 ≤ c) (hc : c < 10000000) (w : World) :
    Calls Tryz.prog 48 #[.agg #[.int .i64 l, .int .i64 c], .int .i32 R] w (AnsL w (if R = 10 then l + 1 else l, if R = 10 then 1 else c + 1)) := by
  have wl : wrap64 (l + 1) = l + 1 := by unfold wrap64; omega
  have wc : wrap64 (c + 1) = c + 1 := by unfold wrap64; omega
  clear hl0 hl hc0 hc
  by_cases h10 : R = 10
  · have e10 : (R == 10) = true := by rw [beq_iff_eq]; exact h10
    rw [if_pos h10, if_pos h10]
    obtain ⟨B2, B4, bV, hb⟩ := boxes2 w #[.int .i64 l, .int .i64 c] #[.int .i64 (l + 1), .int .i64 1] 29 29
    obtain ⟨x0, x1, x2, x3⟩ := B2.cells2
    obtain ⟨y0, y1, y2, y3⟩ := B4.cells2
    clear h10 B2 B4
    go_enter Tryz.func48, Tryz.ntmps48
    go_wp2
    exact bodyPost_ret (v := .agg #[.int .i64 (l + 1), .int .i64 1]) (by simp [results, Tryz.results48, go_sem, y0, y1]) rfl ⟨rfl, bV⟩
  · have e10 : (R == 10) = false := by rw [beq_eq_false_iff_ne]; exact h10
    rw [if_neg h10, if_neg h10]
    obtain ⟨B2, B4, bV, hb⟩ := boxes2 w #[.int .i64 l, .int .i64 c] #[.int .i64 l, .int .i64 (c + 1)] 29 29
    obtain ⟨x0, x1, x2, x3⟩ := B2.cells2
    obtain ⟨y0, y1, y2, y3⟩ := B4.cells2
    clear h10 B2 B4
    go_enter Tryz.func48, Tryz.ntmps48
    go_wp2
    exact bodyPost_ret (v := .agg #[.int .i64 l, .int .i64 (c + 1)]) (by simp [results, Tryz.results48, go_sem, y0, y1]) rfl ⟨rfl, bV⟩
end Go.Proofs.YtbcfplaalepnbaaGreatDoor
namespace Go.Proofs.YtbcfplaalepnbaaGreatDoor
open Go.RowKit Go.Lib
theorem Own.iterAt {W w : World} {v : Value} {n : Nat} {xs : List Int} (h : Own W w v n xs) {k : Nat} {s : ByteArray} {pos : Nat} (hk : w.heap[k]? = some (.stringIter s pos)) (hW : W.heap.size ≤ k) (pos' : Nat) :
    Own W (w.iterAt k s pos') v n xs := by
  refine ⟨⟨h.1.1, ?_⟩, below_iterAt h.2 hW s pos'⟩
  rcases h.1.2 with h0 | ⟨g, cap, cur, e, h1, hg, h2⟩
  · exact .inl h0
  · have hkg : g ≠ k := by
      intro e1
      rw [e1, hk] at hg
      cases hg
    exact .inr ⟨g, cap, cur, e, h1, (iterAt_other w k g s pos' hkg).trans hg, h2⟩
theorem iter_more {w w' : World} {k : Nat} {s : ByteArray} {pos : Nat} (hk : w.heap[k]? = some (.stringIter s pos)) (hb : Below w.heap.size w w') : w'.heap[k]? = some (.stringIter s pos) :=
  (hb.block k (Array.getElem?_eq_some_iff.1 hk).1).trans hk
theorem iter_new (w : World) (s : ByteArray) : (w.iter s 0).heap[w.heap.size]? = some (.stringIter s 0) := World.iter_heap w s 0
theorem below_iter (w : World) (s : ByteArray) (pos : Nat) : Below w.heap.size w (w.iter s pos) := (Below.refl _ w).alloc (Nat.le_refl _) _
theorem decode_not {s : ByteArray} {pos : Nat} (h : pos < s.size) {a b : Nat} (hb : b < 128) (hc : ¬ (a ≤ (s[pos]'h).toNat ∧ (s[pos]'h).toNat ≤ b)) : (Utf8.decode s pos).1 < a ∨ b < (Utf8.decode s pos).1 := by
  by_cases ha : (s[pos]'h).toNat < 128
  · rw [decode_ascii s pos h ha]; dsimp only; omega
  · have := (decode_high s pos h (by omega)).1; omega
end Go.Proofs.YtbcfplaalepnbaaGreatDoor
