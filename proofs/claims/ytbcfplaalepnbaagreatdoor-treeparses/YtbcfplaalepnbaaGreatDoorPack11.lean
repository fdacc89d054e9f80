/-
  Texts of mine put together in build order, as far as TreeParses need them: WholeRefC, RatRefF, RatParse, RatRefQ, TreeRefE, TreeRefF, TreeRefG, TreeRefH, TreeRefI, TreeRefJ, TreeRefK, TreeRefL, TreeRefM, TreePg. No conditions of their own.
-/
import Derived.Test.YtbcfplaalepnbaaGreatDoorRows
import Derived.WalkKit
import Derived.ProofKit
import Derived.WalkLawsBesides
import Derived.Deep.QuietTactic
import Derived.BigQuiet
import Derived.Outline
import Derived.Lib.BitFns
import Derived.Lib.AppendZerosOnto
import Derived.OpenShut
import Derived.Laws.CopyOwn
import Derived.Deep.RegionWith
import Derived.Deep.DrawnRows
import Derived.Deep.LoopGhost
import Derived.Deep.RegionLaw
import Derived.Deep.RegionHeld3
import Derived.Laws.IdiomStrings
import Derived.Laws.Bits64b
import Derived.RangeFuncNested
import Derived.RangeFuncBound
import Derived.RangeFuncCalls
import Derived.RangeFuncLeaves
import Derived.Shelf.Abstract
import Derived.Shelf.RegionOpen
import Derived.OwnWalkIn
import Derived.TacticsInMore
import Derived.LoopNIn
import Derived.LoopIn
import Derived.Sort.LoopGhostIn
import Derived.Laws.AppendOwn
import Derived.Laws.AppendOwnNone
import Derived.Lib.DecodeN
import Derived.Test.YtbcfplaalepnbaaGreatDoorPack1
import Derived.Test.YtbcfplaalepnbaaGreatDoorPack2
import Derived.Test.YtbcfplaalepnbaaGreatDoorPack3
import Derived.Test.YtbcfplaalepnbaaGreatDoorPack4
import Derived.Test.YtbcfplaalepnbaaGreatDoorPack5
import Derived.Test.YtbcfplaalepnbaaGreatDoorPack10
namespace Go.Proofs.YtbcfplaalepnbaaGreatDoor
open Go.RowKit
set_option maxHeartbeats 4000000 in
theorem ref_iparse (s : ByteArray) (w : World) (hs : s.size ≤ maxLen) :
    Calls Tryz.prog 177 #[.string s] w (AnsIP w (znum s.data.toList) (zerr s.data.toList)) := by
  obtain ⟨b1, bV, hb⟩ := boxes1 w #[.bool false, .slice none 0 0] 82
  have hs' := hs
  unfold maxLen at hs'
  obtain ⟨g, u, hu, hg, hg2, hsz⟩ : ∃ (g : Bool) (u : ByteArray), stripI s.data.toList = u.data.toList ∧ minusI s.data.toList = g ∧ (g = true ∧ 0 < s.size ∧ (∀ h : 0 < s.size, ((s[0].toNat : Int) == 45) = true) ∧ s.extract 1 s.size = u ∨ g = false ∧ u = s ∧ (s.size = 0 ∨ 0 < s.size ∧ ∀ h : 0 < s.size, ((s[0].toNat : Int) == 45) = false)) ∧ u.size ≤ maxLen := by
    rcases Nat.eq_zero_or_pos s.size with h0 | h0
    · have e : s.data.toList = [] := List.eq_nil_of_length_eq_zero (by simpa using h0)
      exact ⟨false, s, by rw [e]; rfl, by rw [e]; rfl, .inr ⟨rfl, rfl, .inl h0⟩, hs⟩
    · have hh : s.data.toList.head? = some s[0] := by
        have := drop_byte s 0 h0
        rw [List.drop_zero] at this
        rw [this]; rfl
      by_cases hc : s[0] = 45
      · refine ⟨true, s.extract 1 s.size, ?_, ?_, .inl ⟨rfl, h0, fun _ => by rw [hc]; rfl, rfl⟩, ?_⟩
        · rw [extract_tail]; unfold stripI; rw [if_pos (by rw [hh, hc])]
        · unfold minusI; rw [hh, hc]; rfl
        · rw [ByteArray.size_extract]; unfold maxLen at hs ⊢; omega
      · refine ⟨false, s, ?_, ?_, .inr ⟨rfl, rfl, .inr ⟨h0, fun _ => ?_⟩⟩, hs⟩
        · unfold stripI; rw [if_neg (by rw [hh]; intro e; exact hc (Option.some.inj e))]
        · unfold minusI; rw [hh]; simp [hc]
        · rw [beq_eq_false_iff_ne]
          intro e
          refine hc (UInt8.toNat_inj.1 ?_)
          show s[0].toNat = 45
          omega
  have P := fun v => ref_parse u v hsz
  unfold znum zerr
  rw [hu, hg]
  have lp := pnum_words u.data.toList
  have FX := fun v a1 c1 (p : IsWords v (.slice a1 (nl (pnum u.data.toList)) c1) (natOf (pnum u.data.toList))) => ref_ifix (s := g) p (wd_natOf _) (by omega) (iv g (pnum u.data.toList)) (by rw [val_natOf])
  have hE : perr u.data.toList = 0 ∨ (perr u.data.toList != 0) = true ∧ pnum u.data.toList = 0 := by
    by_cases h : perr u.data.toList = 0
    · exact .inl h
    · exact .inr ⟨by simpa using h, pnum_err h⟩
  unfold AnsP at P
  unfold AnsI at FX
  generalize pnum u.data.toList = K at *
  generalize perr u.data.toList = E at *
  clear hu hg hs lp hsz
  have HZ : Hid (K = 0 → iv g K = 0) := fun e => by rw [e]; exact iv_zero g
  rcases hE with rfl | ⟨hE, hK⟩
  · generalize iv g K = z at FX HZ ⊢
    unfold AnsIP
    generalize decide (z < 0) = r at FX ⊢
    generalize z.natAbs = N at FX ⊢
    clear HZ
    rcases hg2 with ⟨rfl, h0, hc, hu⟩ | ⟨rfl, rfl, hz⟩
    case' inl =>
      have hc := hc h0
      have h0' : (0 : Int) < s.size := by omega
      have h1' : (1 : Int) ≤ s.size := by omega
    case' inr =>
      rcases hz with hz | ⟨h0, hc⟩
    case' inr.inl => have h0' : ¬ (0 : Int) < u.size := by omega
    case' inr.inr =>
      have hc := hc h0
      have h0' : (0 : Int) < u.size := by omega
    all_goals
      go_enter Tryz.func177, Tryz.ntmps177
      go_wp2_with (first
        | (go_at_call 178; (with_reducible refine Calls.mono (P _) ?_); rintro e w1 ⟨a1, c1, rfl, o1⟩)
        | (go_at_call 142; (with_reducible refine Calls.mono (FX w1 _ _ o1.words) ?_); rintro e w2 ⟨a2, c2, rfl, o2⟩; obtain ⟨z0, z1, f0, f1⟩ := ((b1.more o1.below).more o2.below).cells2))
      have B1 := below_more bV o1.below
      have hs1 : w.heap.size < w1.heap.size := Nat.lt_of_lt_of_le hb o1.below.size
      have q := fun x y => ((o2.above B1).set (k := w.heap.size) (by omega) hs1 0 x).set (k := w.heap.size) (by omega) hs1 1 y
      exact bodyPost_ret (v := .tuple #[.agg #[.bool r, .slice a2 (nl N) c2], .int .i64 0]) (by simp [results, Tryz.results177, go_sem, z0, z1]) rfl ⟨a2, c2, rfl, (q _ _).own (by omega)⟩
  · rw [HZ.out hK]
    subst hK
    clear FX HZ
    simp only [nl_zero] at P
    rcases hg2 with ⟨rfl, h0, hc, hu⟩ | ⟨rfl, rfl, hz⟩
    case' inl =>
      have hc := hc h0
      have h0' : (0 : Int) < s.size := by omega
      have h1' : (1 : Int) ≤ s.size := by omega
    case' inr =>
      rcases hz with hz | ⟨h0, hc⟩
    case' inr.inr.inl => have h0' : ¬ (0 : Int) < u.size := by omega
    case' inr.inr.inr =>
      have hc := hc h0
      have h0' : (0 : Int) < u.size := by omega
    all_goals
      go_enter Tryz.func177, Tryz.ntmps177
      go_wp2_with (go_at_call 178; (with_reducible refine Calls.mono (P _) ?_); rintro e w1 ⟨a1, c1, rfl, o1⟩; obtain ⟨z0, z1, f0, f1⟩ := (b1.more o1.below).cells2)
      have B1 := below_more bV o1.below
      have q := fun x y => (B1.setCell (p := ⟨w.heap.size, 0, none⟩) (Nat.le_refl _) x).setCell (p := ⟨w.heap.size, 1, none⟩) (Nat.le_refl _) y
      exact bodyPost_ret (v := .tuple #[.agg #[.bool false, .slice none 0 0], .int .i64 E]) (by simp [results, Tryz.results177, go_sem, z0, z1]) rfl ⟨none, 0, by simp [nl_zero], by simpa [nl_zero, natOf_zero] using Own.nil (q _ _)⟩
end Go.Proofs.YtbcfplaalepnbaaGreatDoor
namespace Go.Proofs.YtbcfplaalepnbaaGreatDoor
open Go.RowKit
set_option maxHeartbeats 4000000 in
theorem ref_rmake {s : Bool} {a : Option Addr} {n c : Nat} {xs : List Int} {t : Bool} {b : Option Addr} {m d : Nat} {ys : List Int} {w : World} (h : IsWords w (.slice a n c) xs) (hx : Wd xs) (k : IsWords w (.slice b m d) ys) (hy : Wd ys) (hn : n ≤ 3000) (hm : m ≤ 3000) :
    Calls Tryz.prog 179 #[.agg #[.bool s, .slice a n c], .agg #[.bool t, .slice b m d]] w (AnsTE w (mkT s (val xs) t (val ys)) (mkE (val ys))) := by
  have L0 := fun v (hb : Below w.heap.size w v) => ref_low_nl b m d ys v (k.below hb) hy
  have L1 := fun v (hb : Below w.heap.size w v) => ref_rlow (s := !(s == t)) (h.below hb) hx (k.below hb) hy hn hm _ rfl
  obtain ⟨b1, b2, b3, bV, hs⟩ := boxes3 w #[.bool s, .slice a n c] #[.bool t, .slice b m d] #[.bool false, .slice none 0 0, .slice none 0 0] 82 82 42
  clear h k hx hy hn hm
  obtain ⟨x0, x1, -, -⟩ := b1.cells2
  obtain ⟨z0, z1, -, -⟩ := b2.cells2
  obtain ⟨y0, y1, y2, g0, g1, g2⟩ := b3.cells3
  generalize val xs = A at *
  generalize val ys = D at *
  unfold mkT mkE
  rcases Nat.eq_zero_or_pos D with h0 | h0
  · subst h0
    rw [if_pos rfl, if_pos rfl]
    simp only [nl_zero] at L0
    clear L1
    go_enter Tryz.func179, Tryz.ntmps179
    go_wp2_with (go_at_call 119; (with_reducible refine Calls.mono (L0 _ bV) ?_); rintro e w1 ⟨rfl, rfl⟩)
    exact bodyPost_ret (v := .tuple #[.agg #[.bool false, .slice none 0 0, .slice none 0 0], .int .i64 3]) (by simp [results, Tryz.results179, go_sem, y0, y1, y2]) rfl (ansTE_no bV)
  · rw [if_neg (by omega), if_neg (by omega)]
    have hl : ((nl D : Int) == 0) = false := by have := nl_pos h0; simp; omega
    unfold AnsT at L1
    generalize tri (rv (!(s == t)) A D) = tt at L1 ⊢
    obtain ⟨t0, tN, tD⟩ := tt
    dsimp only at L1
    clear h0
    go_enter Tryz.func179, Tryz.ntmps179
    go_wp2_with (first
      | (go_at_call 119; (with_reducible refine Calls.mono (L0 _ bV) ?_); rintro e w1 ⟨rfl, rfl⟩)
      | (go_at_call 49; (with_reducible refine Calls.mono (L1 _ bV) ?_); rintro e w2 ⟨a1, c1, a2, c2, rfl, o1, o2⟩; obtain ⟨y0, y1, y2, g0, g1, g2⟩ := (b3.more o1.below).cells3))
    exact bodyPost_ret (v := .tuple #[.agg #[.bool t0, .slice a1 (nl tN) c1, .slice a2 (nl tD) c2], .int .i64 0]) (by simp [results, Tryz.results179, go_sem, y0, y1, y2]) rfl (ansTE_mk (((o1.above bV).set3 (by omega) hs _ _ _).own (by omega)) (((o2.above bV).set3 (by omega) hs _ _ _).own (by omega)))
end Go.Proofs.YtbcfplaalepnbaaGreatDoor
namespace Go.Proofs.YtbcfplaalepnbaaGreatDoor
theorem stroke_nil : strokeAt [] = 0 := rfl
end Go.Proofs.YtbcfplaalepnbaaGreatDoor
namespace Go.Proofs.YtbcfplaalepnbaaGreatDoor
open Go.RowKit
set_option maxHeartbeats 8000000 in
theorem ref_rparse (s : ByteArray) (w : World) (hs : s.size ≤ maxLen) :
    Calls Tryz.prog 163 #[.string s] w (AnsTE w (parT s.data.toList) (parE s.data.toList)) := by
  obtain ⟨BR, bV, hb⟩ := boxes1 w #[.bool false, .slice none 0 0, .slice none 0 0] 42
  have hsz : s.data.toList.length = s.size := by simp
  have HS : Hid (s.size ≤ maxLen ∧ s.data.toList.length = s.size) := ⟨hs, hsz⟩
  unfold maxLen at hs
  clear hsz
  go_enter Tryz.func163, Tryz.ntmps163
  go_wp2
  generalize w.alloc (.cells #[.bool false, .slice none 0 0, .slice none 0 0] 42) = V at *
  go_loopg [4, 5] s.size (fun g s4 s5 v => ∃ A : Nat, s4 = .int .i64 A ∧ s5 = .int .i64 ((g : Int) - 1) ∧ g ≤ s.size ∧ A = g + strokeAt (s.data.toList.drop g) ∧ V = v)
  case atStart =>
    refine ⟨s.size, rfl, rfl, Nat.le_refl _, ?_, rfl⟩
    rw [List.drop_of_length_le (by rw [HS.out.2]; exact Nat.le_refl _), stroke_nil]; omega
  case round =>
    obtain ⟨A, rfl, rfl, hg, hA, rfl⟩ := hrel
    cases gk with
    | succ t =>
      have ht : t < s.size := by omega
      have hd := drop_byte s t ht
      have hc := stroke_cons s[t] (s.data.toList.drop (t + 1))
      rw [← hd] at hc
      rw [show ((t + 1 : Nat) : Int) - 1 = t by omega]
      by_cases h124 : (s[t].toNat : Int) = 124
      · have e : s[t] = 124 := UInt8.toNat_inj.1 (by show s[t].toNat = 124; omega)
        rw [if_pos e] at hc
        have HC : Hid (strokeAt (s.data.toList.drop t) = 0) := hc
        clear hc hd e hA hg
        go_wp2
        go_roundg t
        case measure => omega
        case rel => exact ⟨t, rfl, by go_num, by omega, by rw [HC.out]; omega, rfl⟩
      · have e : s[t] ≠ 124 := fun e => h124 (by rw [e]; rfl)
        rw [if_neg e] at hc
        have HC : Hid (A = t + strokeAt (s.data.toList.drop t)) := by show A = _; rw [hc]; omega
        clear hc hd e hA hg
        go_wp2
        go_roundg t
        case measure => omega
        case rel => exact ⟨A, rfl, by go_num, by omega, HC.out, rfl⟩
    | zero =>
      rw [List.drop_zero, Nat.zero_add] at hA
      have hle := stroke_le s.data.toList
      have hf := front_take s.data.toList
      have hr := rest_drop s.data.toList
      rw [← hA] at hle hf hr
      have hA2 : A ≤ s.size := by have := HS.out.2; omega
      have P1 := fun v => ref_iparse (s.extract 0 A) v (by have := HS.out.1; rw [ByteArray.size_extract]; omega)
      rw [extract_front, ← hf] at P1
      rw [show ((0 : Nat) : Int) - 1 = -1 from rfl]
      have lz : nl (znum (frontR s.data.toList)).natAbs ≤ 1001 := by unfold znum; rw [iv_abs]; exact pnum_words _
      unfold AnsIP at P1
      by_cases hz : zerr (frontR s.data.toList) = 0
      case neg =>
        obtain ⟨e1, e2⟩ := par_err hz
        have HP : Hid (parT s.data.toList = tri0 ∧ parE s.data.toList = zerr (frontR s.data.toList)) := ⟨e1, e2⟩
        have hz2 : (zerr (frontR s.data.toList) == 0) = false := by simpa using hz
        generalize zerr (frontR s.data.toList) = E1 at *
        generalize znum (frontR s.data.toList) = Z at *
        generalize decide (Z < 0) = gZ at *
        generalize Z.natAbs = NZ at *
        clear hf hr hle hA lz e1 e2 hz
        go_wp2_with (go_at_call 177; (with_reducible refine Calls.mono (P1 _) ?_); rintro e w1 ⟨a1, c1, rfl, o1⟩; obtain ⟨y0, y1, y2, g0, g1, g2⟩ := (BR.more o1.below).cells3; have R := fun o => ((BR.more o1.below).alloc o).cells3; have u0 := fun o => (R o).1; have u1 := fun o => (R o).2.1; have u2 := fun o => (R o).2.2.1; have v0 := fun o => (R o).2.2.2.1; have v1 := fun o => (R o).2.2.2.2.1; have v2 := fun o => (R o).2.2.2.2.2; clear R)
        have bw := below_more bV o1.below
        have q := fun x y z o => (((BR.more o1.below).alloc o).set3 x y z).cells3
        have q0 := fun x y z o => (q x y z o).1
        have q1 := fun x y z o => (q x y z o).2.1
        have q2 := fun x y z o => (q x y z o).2.2.1
        exact bodyPost_ret (v := .tuple #[.agg #[.bool false, .slice none 0 0, .slice none 0 0], .int .i64 E1]) (by simp [results, Tryz.results163, go_sem, q0, q1, q2]) rfl (by rw [HP.out.1, HP.out.2]; exact ansTE_no (below_set3 (bw.alloc bw.size _) (by omega) _ _ _))
      case pos =>
        rw [hz] at P1
        have n1 : natOf 1 = [1] := natOf_lit [1] (wd_one (by omega) (by omega)) (by decide) (by decide)
        rcases Nat.lt_or_ge A s.size with hlt | hge
        case inr =>
          have hge' : ¬ (A : Int) < s.size := by omega
          obtain ⟨e1, e2⟩ := par_none hz (by rw [hr]; exact List.drop_of_length_le (by rw [HS.out.2]; exact hge))
          have MK := fun v a1 c1 (W : World) (o : Own W v (.slice a1 (nl (znum (frontR s.data.toList)).natAbs) c1) (nl (znum (frontR s.data.toList)).natAbs) (natOf (znum (frontR s.data.toList)).natAbs)) => ref_rmake (s := decide (znum (frontR s.data.toList) < 0)) (t := false) (o.alloc (.cells #[.int .u32 1] 84)).words (wd_natOf _) (lit_words v [1] 1 rfl (by decide)) (wd_one (by omega) (by omega)) (by omega) (by omega)
          simp only [val_natOf, show val [1] = 1 from rfl] at MK
          rw [← e1, ← e2] at MK
          unfold AnsTE at MK
          have HA : Hid (∀ e w', AnsTE w (parT s.data.toList) (parE s.data.toList) e w' → AnsTE w (parT s.data.toList) (parE s.data.toList) e w') := fun _ _ h => h
          obtain ⟨tt, htt⟩ : ∃ tt, parT s.data.toList = tt := ⟨_, rfl⟩
          obtain ⟨EE, hEE⟩ : ∃ EE, parE s.data.toList = EE := ⟨_, rfl⟩
          have HA : Hid (∀ e w', AnsTE w tt EE e w' → AnsTE w (parT s.data.toList) (parE s.data.toList) e w') := fun _ _ h => by rw [htt, hEE]; exact h
          rw [htt, hEE] at MK
          clear htt hEE
          obtain ⟨t0, tN, tD⟩ := tt
          dsimp only at MK
          generalize znum (frontR s.data.toList) = Z at *
          generalize decide (Z < 0) = gZ at *
          generalize Z.natAbs = NZ at *
          clear hf hr hle hA lz e1 e2 hz n1
          go_wp2_with (first
            | (go_at_call 177; (with_reducible refine Calls.mono (P1 _) ?_); rintro e w1 ⟨a1, c1, rfl, o1⟩; have B1 := BoxC.new w1 #[.bool gZ, .slice a1 (nl NZ) c1] 82; have u0 := fun o => (B1.alloc o).cells2.1; have u1 := fun o => (B1.alloc o).cells2.2.1; have M1 := MK _ _ _ _ (o1.alloc (.cells #[.bool gZ, .slice a1 (nl NZ) c1] 82)); rw [World.size_alloc] at M1)
            | (go_at_call 179; (with_reducible refine Calls.mono M1 ?_); rintro e w2 ⟨a2, c2, a3, c3, rfl, o2, o3⟩; obtain ⟨y0, y1, y2, g0, g1, g2⟩ := ((((BR.more o1.below).alloc _).alloc _).more o2.below).cells3))
          have bw := ((below_more bV o1.below).alloc (below_more bV o1.below).size (.cells #[.bool gZ, .slice a1 (nl NZ) c1] 82)).alloc (by have := ((below_more bV o1.below).alloc (below_more bV o1.below).size (.cells #[.bool gZ, .slice a1 (nl NZ) c1] 82)).size; exact this) (.cells #[.int .u32 1] 84)
          have hk : w.heap.size < ((w1.alloc (.cells #[.bool gZ, .slice a1 (nl NZ) c1] 82)).alloc (.cells #[.int .u32 1] 84)).heap.size := Nat.lt_of_lt_of_le hb (Nat.le_trans o1.below.size (by simp; omega))
          exact bodyPost_ret (v := .tuple #[.agg #[.bool t0, .slice a2 (nl tN) c2, .slice a3 (nl tD) c3], .int .i64 EE]) (by simp [results, Tryz.results163, go_sem, y0, y1, y2]) rfl (HA.out _ _ (ansTE_mk (((o2.above bw).set3 (by omega) hk _ _ _).own (by omega)) (((o3.above bw).set3 (by omega) hk _ _ _).own (by omega))))
        case inl =>
          have hlt' : (A : Int) < s.size := by omega
          have hr2 : restR s.data.toList = s[A] :: s.data.toList.drop (A + 1) := by rw [hr]; exact drop_byte s A hlt
          have P2 := fun v => ref_parse (s.extract (A + 1) s.size) v (by have := HS.out.1; rw [ByteArray.size_extract]; omega)
          rw [extract_rest] at P2
          unfold AnsP at P2
          by_cases hp : perr (s.data.toList.drop (A + 1)) = 0
          case neg =>
            obtain ⟨e1, e2⟩ := par_rest hz hr2 hp
            have HP : Hid (parT s.data.toList = tri0 ∧ parE s.data.toList = perr (s.data.toList.drop (A + 1))) := ⟨e1, e2⟩
            have hp2 : (perr (s.data.toList.drop (A + 1)) == 0) = false := by simpa using hp
            generalize perr (s.data.toList.drop (A + 1)) = E1 at *
            generalize pnum (s.data.toList.drop (A + 1)) = NP at *
            generalize znum (frontR s.data.toList) = Z at *
            generalize decide (Z < 0) = gZ at *
            generalize Z.natAbs = NZ at *
            clear hf hr hr2 hle hA lz e1 e2 hz n1 hp
            go_wp2_with (first
              | (go_at_call 177; (with_reducible refine Calls.mono (P1 _) ?_); rintro e w1 ⟨a1, c1, rfl, o1⟩; have C1 := fun o o' => ((BR.more o1.below).alloc o).alloc o')
              | (go_at_call 178; (with_reducible refine Calls.mono (P2 _) ?_); rintro e w2 ⟨a2, c2, rfl, o2⟩; obtain ⟨y0, y1, y2, g0, g1, g2⟩ := ((C1 _ _).more o2.below).cells3))
            have bw := below_more (((below_more bV o1.below).alloc (below_more bV o1.below).size (.cells #[.bool gZ, .slice a1 (nl NZ) c1] 82)).alloc (by have := ((below_more bV o1.below).alloc (below_more bV o1.below).size (.cells #[.bool gZ, .slice a1 (nl NZ) c1] 82)).size; exact this) (.cells #[.int .u32 1] 84)) o2.below
            exact bodyPost_ret (v := .tuple #[.agg #[.bool false, .slice none 0 0, .slice none 0 0], .int .i64 E1]) (by simp [results, Tryz.results163, go_sem, y0, y1, y2]) rfl (by rw [HP.out.1, HP.out.2]; exact ansTE_no (below_set3 bw (by omega) _ _ _))
          case pos =>
            rw [hp] at P2
            obtain ⟨e1, e2⟩ := par_both hz hr2 hp
            have lp := pnum_words (s.data.toList.drop (A + 1))
            have MK := fun v a1 c1 (W : World) (o : Own W v (.slice a1 (nl (znum (frontR s.data.toList)).natAbs) c1) (nl (znum (frontR s.data.toList)).natAbs) (natOf (znum (frontR s.data.toList)).natAbs)) a2 c2 (W2 : World) (o2 : Own W2 v (.slice a2 (nl (pnum (s.data.toList.drop (A + 1)))) c2) (nl (pnum (s.data.toList.drop (A + 1)))) (natOf (pnum (s.data.toList.drop (A + 1))))) => ref_rmake (s := decide (znum (frontR s.data.toList) < 0)) (t := false) o.words (wd_natOf _) o2.words (wd_natOf _) (by omega) (by omega)
            simp only [val_natOf] at MK
            rw [← e1, ← e2] at MK
            unfold AnsTE at MK
            obtain ⟨tt, htt⟩ : ∃ tt, parT s.data.toList = tt := ⟨_, rfl⟩
            obtain ⟨EE, hEE⟩ : ∃ EE, parE s.data.toList = EE := ⟨_, rfl⟩
            have HA : Hid (∀ e w', AnsTE w tt EE e w' → AnsTE w (parT s.data.toList) (parE s.data.toList) e w') := fun _ _ h => by rw [htt, hEE]; exact h
            rw [htt, hEE] at MK
            clear htt hEE
            obtain ⟨t0, tN, tD⟩ := tt
            dsimp only at MK
            clear e1 e2 hp lp
            generalize pnum (s.data.toList.drop (A + 1)) = NP at *
            generalize znum (frontR s.data.toList) = Z at *
            generalize decide (Z < 0) = gZ at *
            generalize Z.natAbs = NZ at *
            clear hf hr hr2 hle hA lz hz n1
            go_wp2_with (first
              | (go_at_call 177; (with_reducible refine Calls.mono (P1 _) ?_); rintro e w1 ⟨a1, c1, rfl, o1⟩; have C1 := fun o o' => ((BR.more o1.below).alloc o).alloc o'; have B1 := BoxC.new w1 #[.bool gZ, .slice a1 (nl NZ) c1] 82)
              | (go_at_call 178; (with_reducible refine Calls.mono (P2 _) ?_); rintro e w2 ⟨a2, c2, rfl, o2⟩; obtain ⟨u0, u1, -, -⟩ := ((B1.alloc _).more o2.below).cells2; have q1 := ((o1.alloc _).alloc _).more o2.below)
              | (go_at_call 179; (with_reducible refine Calls.mono (MK _ _ _ _ q1 _ _ _ o2) ?_); rintro e w3 ⟨a3, c3, a4, c4, rfl, o3, o4⟩; obtain ⟨y0, y1, y2, g0, g1, g2⟩ := (((C1 _ _).more o2.below).more o3.below).cells3))
            have bw := below_more (((below_more bV o1.below).alloc (below_more bV o1.below).size (.cells #[.bool gZ, .slice a1 (nl NZ) c1] 82)).alloc (by have := ((below_more bV o1.below).alloc (below_more bV o1.below).size (.cells #[.bool gZ, .slice a1 (nl NZ) c1] 82)).size; exact this) (.cells #[.int .u32 1] 84)) o2.below
            have hk : w.heap.size < w2.heap.size := Nat.lt_of_lt_of_le hb (Nat.le_trans o1.below.size (Nat.le_trans (by simp; omega) o2.below.size))
            exact bodyPost_ret (v := .tuple #[.agg #[.bool t0, .slice a3 (nl tN) c3, .slice a4 (nl tD) c4], .int .i64 EE]) (by simp [results, Tryz.results163, go_sem, y0, y1, y2]) rfl (HA.out _ _ (ansTE_mk (((o3.above bw).set3 (by omega) hk _ _ _).own (by omega)) (((o4.above bw).set3 (by omega) hk _ _ _).own (by omega))))
end Go.Proofs.YtbcfplaalepnbaaGreatDoor
namespace Go.Proofs.YtbcfplaalepnbaaGreatDoor
open Go.RowKit Go.Lib
def ExC (F m f : Nat) : Prop := ∀ (W w : World) (R : Nat) (la : Option Addr) (lc : Nat) (i l o : Value) (L : List Tok) (r : Rd), Tr W w R la lc i l o L r → L.length ≤ 4000 → (∀ t ∈ L, t.2.1.size ≤ 1000000) → cnt L r ≤ 20000 → needE L m r ≤ f →
  Calls Tryz.prog F #[.pointer (some ⟨R, 0, none⟩)] w fun e w' => e = .returned (.int .i64 (exprI numT L m 0 r).1) ∧ Tr W w' R la lc i l o L (exprI numT L m 0 r).2 ∧ Keep TX w w'
section
variable {W w : World} {R : Nat} {la : Option Addr} {lc : Nat} {i l o : Value} {L : List Tok} {r : Rd}
theorem Tr.skip (h : Tr W w R la lc i l o L r) : Tr W (w.setCell ⟨R, 1, none⟩ (.int .i64 ((r.pos : Int) + 1))) R la lc i l o L r.skip ∧ Keep TX w (w.setCell ⟨R, 1, none⟩ (.int .i64 ((r.pos : Int) + 1))) := h.at (r.pos + 1)
theorem ref_tnode0 (h : Tr W w R la lc i l o L r) (k a b x : Int) (y : ByteArray) (hl : r.all.length ≤ 100000) :
    Calls Tryz.prog 92 #[.pointer (some ⟨R, 0, none⟩), .agg #[.int .i64 k, .int .i64 a, .int .i64 b, .int .i64 x, .string y, .bool false, .slice none 0 0, .slice none 0 0]] w fun e w' => e = .returned (.int .i64 r.all.length) ∧ Tr W w' R la lc i l o L (r.node ⟨k, a, b, x, y, (false, 0, 0)⟩).2 ∧ Keep TX w w' :=
  ref_tnode h ⟨k, a, b, x, y, (false, 0, 0)⟩ none 0 0 none 0 0 (num_zero h.below k a b x y) hl
end
set_option maxHeartbeats 8000000 in
theorem step_factor (f : Nat) (HF : ExC 118 4 f) (HP : ExC 139 5 f) : ExC 118 4 (f + 1) := by
  intro W w R la lc i l o L r h hL hT hc hn
  have IS := ref_tis h 2 ⟨#[45]⟩ _ rfl
  rw [toList_byte] at IS
  rw [expr_factor]
  have r4 : rankE 4 = 3 := rfl
  have r5 : rankE 5 = 2 := rfl
  by_cases hb : r.is L 2 [45] = true
  · rw [if_pos hb]
    rw [hb] at IS
    have hp := (r.is_in hb).2
    have n2 := needE_skip hp 4
    have c2 := cnt_skip hp
    have c3 := cnt_exprI numT L 4 0 r.skip
    rw [show extraN 4 = 1 from rfl] at c3
    have w1 : wrap64 ((r.pos : Int) + 1) = (r.pos : Int) + 1 := wrap_smalls (by omega) (by omega)
    have FS1 := fun v (q : Tr W v R la lc i l o L r.skip) => HF W v R la lc i l o L r.skip q hL hT (by omega) (by unfold needE at hn n2 ⊢; omega)
    have NO := fun v (q : Tr W v R la lc i l o L (exprI numT L 4 0 r.skip).2) => ref_tnode0 q 6 (exprI numT L 4 0 r.skip).1 0 0 ⟨#[]⟩ (by have := cnt_all (n := 20001) (show cnt L (exprI numT L 4 0 r.skip).2 ≤ 20001 by omega); omega)
    have HH : Hid (Tr W w R la lc i l o L r) := h
    generalize exprI numT L 4 0 r.skip = q at *
    obtain ⟨q1, q2⟩ := q
    dsimp only at FS1 NO ⊢
    clear h hL hT hc hn hb hp n2 c2 c3 HF HP r4 r5
    go_enter Tryz.func118, Tryz.ntmps118
    go_wp2_with (first
      | (go_at_call 60; (with_reducible refine Calls.mono IS ?_); rintro e w1 ⟨rfl, d1⟩; obtain ⟨x0, x1, x6, y1, y6⟩ := (HH.out.more d1).fields; have T2 := (HH.out.more d1).skip)
      | (go_at_call 118; (with_reducible refine Calls.mono (FS1 _ T2.1) ?_); rintro e w3 ⟨rfl, T3, K3⟩)
      | (go_at_call 92; (with_reducible refine Calls.mono (NO _ T3) ?_); rintro e w4 ⟨rfl, T4, K4⟩))
    go_ret
    exact ⟨rfl, T4, (((Keep.of TX d1).trans T2.2).trans K3).trans K4⟩
  · rw [if_neg hb]
    rw [show r.is L 2 [45] = false by simpa using hb] at IS
    have PS := fun v (q : Tr W v R la lc i l o L r) => HP W v R la lc i l o L r q hL hT hc (by unfold needE at hn ⊢; omega)
    have HH : Hid (Tr W w R la lc i l o L r) := h
    clear h hL hT hc hn hb HF HP r4 r5
    go_enter Tryz.func118, Tryz.ntmps118
    go_wp2_with (first
      | (go_at_call 60; (with_reducible refine Calls.mono IS ?_); rintro e w1 ⟨rfl, d1⟩)
      | (go_at_call 139; (with_reducible refine Calls.mono (PS _ (HH.out.more d1)) ?_); rintro e w3 ⟨rfl, T3, K3⟩))
    go_ret
    exact ⟨rfl, T3, (Keep.of TX d1).trans K3⟩
end Go.Proofs.YtbcfplaalepnbaaGreatDoor
namespace Go.Proofs.YtbcfplaalepnbaaGreatDoor
open Go.RowKit Go.Lib
theorem Rd.is_tok {L : List Tok} {r : Rd} {k : Int} {x : List UInt8} (h : r.is L k x = true) : ∃ t, L[r.pos]? = some t ∧ t.1 = k ∧ (t.2.1.toList == x) = true := by
  unfold Rd.is at h
  rw [Bool.and_eq_true] at h
  obtain ⟨-, h⟩ := h
  cases ht : L[r.pos]? with
  | none => rw [ht] at h; exact absurd h (by simp)
  | some t =>
    rw [ht] at h
    dsimp only at h
    rw [Bool.and_eq_true, decide_eq_true_eq] at h
    exact ⟨t, rfl, h.1, h.2⟩
theorem Rd.is_other {L : List Tok} {r : Rd} {k k' : Int} {x y : List UInt8} (h : r.is L k x = true) (hxy : x ≠ y) : r.is L k' y = false := by
  obtain ⟨t, ht, -, hx⟩ := Rd.is_tok h
  unfold Rd.is
  rw [ht]
  dsimp only
  have : (t.2.1.toList == y) = false := by
    rw [beq_iff_eq] at hx
    rw [hx, beq_eq_false_iff_ne]; exact hxy
  rw [this, Bool.and_false, Bool.and_false]
set_option maxHeartbeats 16000000 in
theorem step_sum (f : Nat) (HP : ExC 91 2 f) : ExC 62 0 (f + 1) := by
  intro W w R la lc i l o L r h hL hT hc hn
  rw [expr_sum]
  have r0 : rankE 0 = 5 := rfl
  have r2 : rankE 2 = 4 := rfl
  have P1 := HP W w R la lc i l o L r h hL hT hc (by unfold needE at hn ⊢; omega)
  have c1 := cnt_exprI numT L 2 0 r
  have o1 := (on_exprI numT L 2 0 r).pos
  rw [show extraN 2 = 1 from rfl] at c1
  have PS := fun v q (T : Tr W v R la lc i l o L q) (h1 : cnt L q ≤ 20000) (h2 : r.pos < q.pos) (h3 : q.pos ≤ L.length) => HP W v R la lc i l o L q T hL hT h1 (by unfold needE at hn ⊢; omega)
  have ISa := fun v q (T : Tr W v R la lc i l o L q) => ref_tis T 2 ⟨#[43]⟩ _ rfl
  have ISb := fun v q (T : Tr W v R la lc i l o L q) => ref_tis T 2 ⟨#[45]⟩ _ rfl
  rw [toList_byte] at ISa ISb
  have HC : Hid (cnt L (exprI numT L 2 0 r).2 ≤ 20001 ∧ r.pos ≤ (exprI numT L 2 0 r).2.pos ∧ L.length ≤ 4000) := ⟨by omega, o1, hL⟩
  generalize exprI numT L 2 0 r = z at *
  obtain ⟨z1, z2⟩ := z
  dsimp only at P1 HC ⊢
  generalize hE : exprI numT L 1 z1 z2 = E at *
  have HE : Hid (exprI numT L 1 z1 z2 = E) := hE
  clear h hL hT hc hn c1 o1 hE r0 r2 HP
  go_enter Tryz.func62, Tryz.ntmps62
  go_wp2_with (go_at_call 91; (with_reducible refine Calls.mono P1 ?_); rintro e w1 ⟨rfl, T1, K1⟩)
  go_loopg [3] L.length (fun g s3 v => ∃ (a : Int) (q : Rd), s3 = .int .i64 a ∧ Tr W v R la lc i l o L q ∧ Keep TX w v ∧ exprI numT L 1 a q = E ∧ L.length - q.pos ≤ g ∧ cnt L q ≤ 20001 ∧ r.pos ≤ q.pos)
  case atStart => exact ⟨z1, z2, rfl, T1, K1, HE.out, by omega, HC.out.1, HC.out.2.1⟩
  case round =>
    obtain ⟨a, q, rfl, T, K, hE, hg, hc, hp⟩ := hrel
    have hL := HC.out.2.2
    clear P1 HE HC T1 K1
    rw [expr_more_sum] at hE
    by_cases ha : q.is L 2 [43] = true
    · obtain ⟨t, ht, -, hx⟩ := Rd.is_tok ha
      have hq := (q.is_in ha).2
      have hb : q.is L 2 [45] = false := Rd.is_other ha (by decide)
      have e5 : (t.2.1.toList == [45]) = false := by
        rw [beq_iff_eq] at hx
        rw [hx]; decide
      rw [if_pos (by rw [ha]; rfl), hb] at hE
      simp only [Bool.false_eq_true, if_false] at hE
      have ISa' := ISa wr q T
      rw [ha] at ISa'
      have PS' := fun v (T' : Tr W v R la lc i l o L q.skip) => PS v q.skip T' (by have := cnt_skip hq; omega) (by show r.pos < q.pos + 1; omega) hq
      have k3 : (q.pos : Int) < L.length := by omega
      have w1 : wrap64 ((q.pos : Int) + 1) = (q.pos : Int) + 1 := wrap_smalls (by omega) (by omega)
      have c2 := cnt_skip hq
      have c3 := cnt_exprI numT L 2 0 q.skip
      rw [show extraN 2 = 1 from rfl] at c3
      have o3 : q.pos + 1 ≤ (exprI numT L 2 0 q.skip).2.pos := (on_exprI numT L 2 0 q.skip).pos
      generalize exprI numT L 2 0 q.skip = y at *
      obtain ⟨b, u⟩ := y
      dsimp only at PS' hE c3 o3
      have NO := fun v (T' : Tr W v R la lc i l o L u) => ref_tnode0 T' 2 a b 0 ⟨#[]⟩ (by have := cnt_all (n := 20001) (show cnt L u ≤ 20001 by omega); omega)
      have HR : Hid (exprI numT L 1 (u.node ⟨2, a, b, 0, noText, (false, 0, 0)⟩).1 (u.node ⟨2, a, b, 0, noText, (false, 0, 0)⟩).2 = E ∧ L.length - q.pos ≤ gk ∧ q.pos < L.length ∧ q.pos + 1 ≤ u.pos ∧ cnt L u ≤ 20000 ∧ r.pos ≤ q.pos ∧ Tr W wr R la lc i l o L q ∧ Keep TX w wr) := ⟨hE, hg, hq, o3, by omega, hp, T, K⟩
      have HQ : Hid (L[q.pos]? = some t) := ht
      clear hE hg hc hp ha hb hx c2 c3 o3 PS ISa ISb hq hL ht T K
      go_wp2_with (first
        | (go_at_call 60; (with_reducible refine Calls.mono ISa' ?_); rintro e w2 ⟨rfl, d2⟩; have T2 := HR.out.2.2.2.2.2.2.1.more d2; obtain ⟨x0, x1, x6, y1, y6⟩ := T2.fields; obtain ⟨gb, rfl, t0, t1, t2, t3⟩ := T2.tok HQ.out))
      go_quiet (fail)
      have T2' := T2.more (below_drewN (Below.refl _ w2) nq)
      have K2 := (Keep.of TX d2).more (below_drewN (Below.refl _ w2) nq)
      generalize w2.drewN nq = V at *
      clear T2 x0 x1 x6 y1 y6 t0 t1 t2 t3 d2 ISa'
      obtain ⟨x0, x1, x6, y1, y6⟩ := T2'.fields
      have T3 := T2'.skip
      go_wp2_with (first
        | (go_at_call 91; (with_reducible refine Calls.mono (PS' _ T3.1) ?_); rintro e w3 ⟨rfl, T4, K4⟩)
        | (go_at_call 92; (with_reducible refine Calls.mono (NO _ T4) ?_); rintro e w4 ⟨rfl, T5, K5⟩))
      obtain ⟨j1, j2, j3, j4, j5, j6, -, j8⟩ := HR.out
      go_roundg (L.length - (q.pos + 1))
      case measure => omega
      case rel => exact ⟨_, _, rfl, T5, ((((j8.trans K2).trans T3.2).trans K4).trans K5), j1, by show L.length - u.pos ≤ _; omega, by rw [cnt_node]; omega, by show r.pos ≤ u.pos; omega⟩
    · by_cases hb : q.is L 2 [45] = true
      · obtain ⟨t, ht, -, hx⟩ := Rd.is_tok hb
        have hq := (q.is_in hb).2
        have ha' : q.is L 2 [43] = false := by simpa using ha
        rw [if_pos (by rw [hb, Bool.or_true]), if_pos hb] at hE
        have ISa' := ISa wr q T
        have ISb' := fun v (T' : Tr W v R la lc i l o L q) => ISb v q T'
        rw [ha'] at ISa'
        rw [hb] at ISb'
        have PS' := fun v (T' : Tr W v R la lc i l o L q.skip) => PS v q.skip T' (by have := cnt_skip hq; omega) (by show r.pos < q.pos + 1; omega) hq
        have k3 : (q.pos : Int) < L.length := by omega
        have w1 : wrap64 ((q.pos : Int) + 1) = (q.pos : Int) + 1 := wrap_smalls (by omega) (by omega)
        have c2 := cnt_skip hq
        have c3 := cnt_exprI numT L 2 0 q.skip
        rw [show extraN 2 = 1 from rfl] at c3
        have o3 : q.pos + 1 ≤ (exprI numT L 2 0 q.skip).2.pos := (on_exprI numT L 2 0 q.skip).pos
        generalize exprI numT L 2 0 q.skip = y at *
        obtain ⟨b, u⟩ := y
        dsimp only at PS' hE c3 o3
        have NO := fun v (T' : Tr W v R la lc i l o L u) => ref_tnode0 T' 3 a b 0 ⟨#[]⟩ (by have := cnt_all (n := 20001) (show cnt L u ≤ 20001 by omega); omega)
        have HR : Hid (exprI numT L 1 (u.node ⟨3, a, b, 0, noText, (false, 0, 0)⟩).1 (u.node ⟨3, a, b, 0, noText, (false, 0, 0)⟩).2 = E ∧ L.length - q.pos ≤ gk ∧ q.pos < L.length ∧ q.pos + 1 ≤ u.pos ∧ cnt L u ≤ 20000 ∧ r.pos ≤ q.pos ∧ Tr W wr R la lc i l o L q ∧ Keep TX w wr) := ⟨hE, hg, hq, o3, by omega, hp, T, K⟩
        have HQ : Hid (L[q.pos]? = some t) := ht
        clear hE hg hc hp ha ha' hb c2 c3 o3 PS ISa ISb hq hL ht T K
        go_wp2_with (first
          | (go_at_call 60; (with_reducible refine Calls.mono ISa' ?_); rintro e w2a ⟨rfl, d2a⟩)
          | (go_at_call 60; (with_reducible refine Calls.mono (ISb' _ (HR.out.2.2.2.2.2.2.1.more d2a)) ?_); rintro e w2 ⟨rfl, d2b⟩; have d2 := below_more d2a d2b; have T2 := HR.out.2.2.2.2.2.2.1.more d2; obtain ⟨x0, x1, x6, y1, y6⟩ := T2.fields; obtain ⟨gb, rfl, t0, t1, t2, t3⟩ := T2.tok HQ.out))
        go_quiet (fail)
        have T2' := T2.more (below_drewN (Below.refl _ w2) nq)
        have K2 := (Keep.of TX d2).more (below_drewN (Below.refl _ w2) nq)
        generalize w2.drewN nq = V at *
        clear T2 x0 x1 x6 y1 y6 t0 t1 t2 t3 d2 d2b d2a ISa' ISb'
        obtain ⟨x0, x1, x6, y1, y6⟩ := T2'.fields
        have T3 := T2'.skip
        go_wp2_with (first
          | (go_at_call 91; (with_reducible refine Calls.mono (PS' _ T3.1) ?_); rintro e w3 ⟨rfl, T4, K4⟩)
          | (go_at_call 92; (with_reducible refine Calls.mono (NO _ T4) ?_); rintro e w4 ⟨rfl, T5, K5⟩))
        obtain ⟨j1, j2, j3, j4, j5, j6, -, j8⟩ := HR.out
        go_roundg (L.length - (q.pos + 1))
        case measure => omega
        case rel => exact ⟨_, _, rfl, T5, ((((j8.trans K2).trans T3.2).trans K4).trans K5), j1, by show L.length - u.pos ≤ _; omega, by rw [cnt_node]; omega, by show r.pos ≤ u.pos; omega⟩
      · have ha' : q.is L 2 [43] = false := by simpa using ha
        have hb' : q.is L 2 [45] = false := by simpa using hb
        rw [if_neg (by rw [ha', hb']; simp)] at hE
        subst hE
        have ISa' := ISa wr q T
        have ISb' := fun v (T' : Tr W v R la lc i l o L q) => ISb v q T'
        rw [ha'] at ISa'
        rw [hb'] at ISb'
        have HR : Hid (Tr W wr R la lc i l o L q ∧ Keep TX w wr) := ⟨T, K⟩
        clear hg hc hp ha ha' hb hb' PS ISa ISb hL T K
        go_wp2_with (first
          | (go_at_call 60; (with_reducible refine Calls.mono ISa' ?_); rintro e w2a ⟨rfl, d2a⟩)
          | (go_at_call 60; (with_reducible refine Calls.mono (ISb' _ (HR.out.1.more d2a)) ?_); rintro e w2 ⟨rfl, d2b⟩))
        go_ret
        exact ⟨rfl, HR.out.1.more (below_more d2a d2b), HR.out.2.more (below_more d2a d2b)⟩
set_option maxHeartbeats 16000000 in
theorem step_product (f : Nat) (HP : ExC 118 4 f) : ExC 91 2 (f + 1) := by
  intro W w R la lc i l o L r h hL hT hc hn
  rw [expr_product]
  have r0 : rankE 2 = 4 := rfl
  have r2 : rankE 4 = 3 := rfl
  have P1 := HP W w R la lc i l o L r h hL hT hc (by unfold needE at hn ⊢; omega)
  have c1 := cnt_exprI numT L 4 0 r
  have o1 := (on_exprI numT L 4 0 r).pos
  rw [show extraN 4 = 1 from rfl] at c1
  have PS := fun v q (T : Tr W v R la lc i l o L q) (h1 : cnt L q ≤ 20000) (h2 : r.pos < q.pos) (h3 : q.pos ≤ L.length) => HP W v R la lc i l o L q T hL hT h1 (by unfold needE at hn ⊢; omega)
  have ISa := fun v q (T : Tr W v R la lc i l o L q) => ref_tis T 2 ⟨#[42]⟩ _ rfl
  have ISb := fun v q (T : Tr W v R la lc i l o L q) => ref_tis T 2 ⟨#[47]⟩ _ rfl
  rw [toList_byte] at ISa ISb
  have HC : Hid (cnt L (exprI numT L 4 0 r).2 ≤ 20001 ∧ r.pos ≤ (exprI numT L 4 0 r).2.pos ∧ L.length ≤ 4000) := ⟨by omega, o1, hL⟩
  generalize exprI numT L 4 0 r = z at *
  obtain ⟨z1, z2⟩ := z
  dsimp only at P1 HC ⊢
  generalize hE : exprI numT L 3 z1 z2 = E at *
  have HE : Hid (exprI numT L 3 z1 z2 = E) := hE
  clear h hL hT hc hn c1 o1 hE r0 r2 HP
  go_enter Tryz.func91, Tryz.ntmps91
  go_wp2_with (go_at_call 118; (with_reducible refine Calls.mono P1 ?_); rintro e w1 ⟨rfl, T1, K1⟩)
  go_loopg [3] L.length (fun g s3 v => ∃ (a : Int) (q : Rd), s3 = .int .i64 a ∧ Tr W v R la lc i l o L q ∧ Keep TX w v ∧ exprI numT L 3 a q = E ∧ L.length - q.pos ≤ g ∧ cnt L q ≤ 20001 ∧ r.pos ≤ q.pos)
  case atStart => exact ⟨z1, z2, rfl, T1, K1, HE.out, by omega, HC.out.1, HC.out.2.1⟩
  case round =>
    obtain ⟨a, q, rfl, T, K, hE, hg, hc, hp⟩ := hrel
    have hL := HC.out.2.2
    clear P1 HE HC T1 K1
    rw [expr_more_product] at hE
    by_cases ha : q.is L 2 [42] = true
    · obtain ⟨t, ht, -, hx⟩ := Rd.is_tok ha
      have hq := (q.is_in ha).2
      have hb : q.is L 2 [47] = false := Rd.is_other ha (by decide)
      have e5 : (t.2.1.toList == [47]) = false := by
        rw [beq_iff_eq] at hx
        rw [hx]; decide
      rw [if_pos (by rw [ha]; rfl), hb] at hE
      simp only [Bool.false_eq_true, if_false] at hE
      have ISa' := ISa wr q T
      rw [ha] at ISa'
      have PS' := fun v (T' : Tr W v R la lc i l o L q.skip) => PS v q.skip T' (by have := cnt_skip hq; omega) (by show r.pos < q.pos + 1; omega) hq
      have k3 : (q.pos : Int) < L.length := by omega
      have w1 : wrap64 ((q.pos : Int) + 1) = (q.pos : Int) + 1 := wrap_smalls (by omega) (by omega)
      have c2 := cnt_skip hq
      have c3 := cnt_exprI numT L 4 0 q.skip
      rw [show extraN 4 = 1 from rfl] at c3
      have o3 : q.pos + 1 ≤ (exprI numT L 4 0 q.skip).2.pos := (on_exprI numT L 4 0 q.skip).pos
      generalize exprI numT L 4 0 q.skip = y at *
      obtain ⟨b, u⟩ := y
      dsimp only at PS' hE c3 o3
      have NO := fun v (T' : Tr W v R la lc i l o L u) => ref_tnode0 T' 4 a b 0 ⟨#[]⟩ (by have := cnt_all (n := 20001) (show cnt L u ≤ 20001 by omega); omega)
      have HR : Hid (exprI numT L 3 (u.node ⟨4, a, b, 0, noText, (false, 0, 0)⟩).1 (u.node ⟨4, a, b, 0, noText, (false, 0, 0)⟩).2 = E ∧ L.length - q.pos ≤ gk ∧ q.pos < L.length ∧ q.pos + 1 ≤ u.pos ∧ cnt L u ≤ 20000 ∧ r.pos ≤ q.pos ∧ Tr W wr R la lc i l o L q ∧ Keep TX w wr) := ⟨hE, hg, hq, o3, by omega, hp, T, K⟩
      have HQ : Hid (L[q.pos]? = some t) := ht
      clear hE hg hc hp ha hb hx c2 c3 o3 PS ISa ISb hq hL ht T K
      go_wp2_with (first
        | (go_at_call 60; (with_reducible refine Calls.mono ISa' ?_); rintro e w2 ⟨rfl, d2⟩; have T2 := HR.out.2.2.2.2.2.2.1.more d2; obtain ⟨x0, x1, x6, y1, y6⟩ := T2.fields; obtain ⟨gb, rfl, t0, t1, t2, t3⟩ := T2.tok HQ.out))
      go_quiet (fail)
      have T2' := T2.more (below_drewN (Below.refl _ w2) nq)
      have K2 := (Keep.of TX d2).more (below_drewN (Below.refl _ w2) nq)
      generalize w2.drewN nq = V at *
      clear T2 x0 x1 x6 y1 y6 t0 t1 t2 t3 d2 ISa'
      obtain ⟨x0, x1, x6, y1, y6⟩ := T2'.fields
      have T3 := T2'.skip
      go_wp2_with (first
        | (go_at_call 118; (with_reducible refine Calls.mono (PS' _ T3.1) ?_); rintro e w3 ⟨rfl, T4, K4⟩)
        | (go_at_call 92; (with_reducible refine Calls.mono (NO _ T4) ?_); rintro e w4 ⟨rfl, T5, K5⟩))
      obtain ⟨j1, j2, j3, j4, j5, j6, -, j8⟩ := HR.out
      go_roundg (L.length - (q.pos + 1))
      case measure => omega
      case rel => exact ⟨_, _, rfl, T5, ((((j8.trans K2).trans T3.2).trans K4).trans K5), j1, by show L.length - u.pos ≤ _; omega, by rw [cnt_node]; omega, by show r.pos ≤ u.pos; omega⟩
    · by_cases hb : q.is L 2 [47] = true
      · obtain ⟨t, ht, -, hx⟩ := Rd.is_tok hb
        have hq := (q.is_in hb).2
        have ha' : q.is L 2 [42] = false := by simpa using ha
        rw [if_pos (by rw [hb, Bool.or_true]), if_pos hb] at hE
        have ISa' := ISa wr q T
        have ISb' := fun v (T' : Tr W v R la lc i l o L q) => ISb v q T'
        rw [ha'] at ISa'
        rw [hb] at ISb'
        have PS' := fun v (T' : Tr W v R la lc i l o L q.skip) => PS v q.skip T' (by have := cnt_skip hq; omega) (by show r.pos < q.pos + 1; omega) hq
        have k3 : (q.pos : Int) < L.length := by omega
        have w1 : wrap64 ((q.pos : Int) + 1) = (q.pos : Int) + 1 := wrap_smalls (by omega) (by omega)
        have c2 := cnt_skip hq
        have c3 := cnt_exprI numT L 4 0 q.skip
        rw [show extraN 4 = 1 from rfl] at c3
        have o3 : q.pos + 1 ≤ (exprI numT L 4 0 q.skip).2.pos := (on_exprI numT L 4 0 q.skip).pos
        generalize exprI numT L 4 0 q.skip = y at *
        obtain ⟨b, u⟩ := y
        dsimp only at PS' hE c3 o3
        have NO := fun v (T' : Tr W v R la lc i l o L u) => ref_tnode0 T' 5 a b 0 ⟨#[]⟩ (by have := cnt_all (n := 20001) (show cnt L u ≤ 20001 by omega); omega)
        have HR : Hid (exprI numT L 3 (u.node ⟨5, a, b, 0, noText, (false, 0, 0)⟩).1 (u.node ⟨5, a, b, 0, noText, (false, 0, 0)⟩).2 = E ∧ L.length - q.pos ≤ gk ∧ q.pos < L.length ∧ q.pos + 1 ≤ u.pos ∧ cnt L u ≤ 20000 ∧ r.pos ≤ q.pos ∧ Tr W wr R la lc i l o L q ∧ Keep TX w wr) := ⟨hE, hg, hq, o3, by omega, hp, T, K⟩
        have HQ : Hid (L[q.pos]? = some t) := ht
        clear hE hg hc hp ha ha' hb c2 c3 o3 PS ISa ISb hq hL ht T K
        go_wp2_with (first
          | (go_at_call 60; (with_reducible refine Calls.mono ISa' ?_); rintro e w2a ⟨rfl, d2a⟩)
          | (go_at_call 60; (with_reducible refine Calls.mono (ISb' _ (HR.out.2.2.2.2.2.2.1.more d2a)) ?_); rintro e w2 ⟨rfl, d2b⟩; have d2 := below_more d2a d2b; have T2 := HR.out.2.2.2.2.2.2.1.more d2; obtain ⟨x0, x1, x6, y1, y6⟩ := T2.fields; obtain ⟨gb, rfl, t0, t1, t2, t3⟩ := T2.tok HQ.out))
        go_quiet (fail)
        have T2' := T2.more (below_drewN (Below.refl _ w2) nq)
        have K2 := (Keep.of TX d2).more (below_drewN (Below.refl _ w2) nq)
        generalize w2.drewN nq = V at *
        clear T2 x0 x1 x6 y1 y6 t0 t1 t2 t3 d2 d2b d2a ISa' ISb'
        obtain ⟨x0, x1, x6, y1, y6⟩ := T2'.fields
        have T3 := T2'.skip
        go_wp2_with (first
          | (go_at_call 118; (with_reducible refine Calls.mono (PS' _ T3.1) ?_); rintro e w3 ⟨rfl, T4, K4⟩)
          | (go_at_call 92; (with_reducible refine Calls.mono (NO _ T4) ?_); rintro e w4 ⟨rfl, T5, K5⟩))
        obtain ⟨j1, j2, j3, j4, j5, j6, -, j8⟩ := HR.out
        go_roundg (L.length - (q.pos + 1))
        case measure => omega
        case rel => exact ⟨_, _, rfl, T5, ((((j8.trans K2).trans T3.2).trans K4).trans K5), j1, by show L.length - u.pos ≤ _; omega, by rw [cnt_node]; omega, by show r.pos ≤ u.pos; omega⟩
      · have ha' : q.is L 2 [42] = false := by simpa using ha
        have hb' : q.is L 2 [47] = false := by simpa using hb
        rw [if_neg (by rw [ha', hb']; simp)] at hE
        subst hE
        have ISa' := ISa wr q T
        have ISb' := fun v (T' : Tr W v R la lc i l o L q) => ISb v q T'
        rw [ha'] at ISa'
        rw [hb'] at ISb'
        have HR : Hid (Tr W wr R la lc i l o L q ∧ Keep TX w wr) := ⟨T, K⟩
        clear hg hc hp ha ha' hb hb' PS ISa ISb hL T K
        go_wp2_with (first
          | (go_at_call 60; (with_reducible refine Calls.mono ISa' ?_); rintro e w2a ⟨rfl, d2a⟩)
          | (go_at_call 60; (with_reducible refine Calls.mono (ISb' _ (HR.out.1.more d2a)) ?_); rintro e w2 ⟨rfl, d2b⟩))
        go_ret
        exact ⟨rfl, HR.out.1.more (below_more d2a d2b), HR.out.2.more (below_more d2a d2b)⟩
end Go.Proofs.YtbcfplaalepnbaaGreatDoor
namespace Go.Proofs.YtbcfplaalepnbaaGreatDoor
open Go.RowKit Go.Lib
set_option maxHeartbeats 16000000 in
theorem step_atom (f : Nat) (HS : ExC 62 0 f) : ExC 151 6 (f + 1) := by
  intro W w R la lc i l o L r h hL hT hc hn
  have IS := ref_tis h 2 ⟨#[40]⟩ _ rfl
  rw [toList_byte] at IS
  rw [expr_atom]
  have r6 : rankE 6 = 1 := rfl
  have r0 : rankE 0 = 5 := rfl
  by_cases hb : r.is L 2 [40] = true
  · rw [if_pos hb]
    rw [hb] at IS
    have hp := (r.is_in hb).2
    have n2 := needE_skip hp 0
    have c2 := cnt_skip hp
    have w1 : wrap64 ((r.pos : Int) + 1) = (r.pos : Int) + 1 := wrap_smalls (by omega) (by omega)
    have SS := fun v (q : Tr W v R la lc i l o L r.skip) => HS W v R la lc i l o L r.skip q hL hT (by omega) (by unfold needE at hn n2 ⊢; omega)
    have WT := fun v (q : Tr W v R la lc i l o L (exprI numT L 0 0 r.skip).2) => ref_twant q hL 2 ⟨#[41]⟩
    rw [toList_byte] at WT
    have HH : Hid (Tr W w R la lc i l o L r) := h
    generalize exprI numT L 0 0 r.skip = q at *
    obtain ⟨q1, q2⟩ := q
    dsimp only at SS WT ⊢
    clear h hL hT hc hn hb hp n2 c2 HS r6 r0
    go_enter Tryz.func151, Tryz.ntmps151
    go_wp2_with (first
      | (go_at_call 60; (with_reducible refine Calls.mono IS ?_); rintro e w1 ⟨rfl, d1⟩; obtain ⟨x0, x1, x6, y1, y6⟩ := (HH.out.more d1).fields; have T2 := (HH.out.more d1).skip)
      | (go_at_call 62; (with_reducible refine Calls.mono (SS _ T2.1) ?_); rintro e w3 ⟨rfl, T3, K3⟩)
      | (go_at_call 58; (with_reducible refine Calls.mono (WT _ T3) ?_); rintro e w4 ⟨rfl, T4, K4⟩))
    go_ret
    exact ⟨rfl, T4, (((Keep.of TX d1).trans T2.2).trans K3).trans K4⟩
  rw [if_neg hb]
  rw [show r.is L 2 [40] = false by simpa using hb] at IS
  have HH : Hid (Tr W w R la lc i l o L r) := h
  have cn := cnt_name L r
  by_cases hk : r.bad = true ∨ L[r.pos]? = none ∨ ∃ t, L[r.pos]? = some t ∧ t.1 ≠ 1
  · rw [leaf_name numT L r hk]
    have NM := fun v (q : Tr W v R la lc i l o L r) => ref_tname q hL hT
    have NO := fun v (q : Tr W v R la lc i l o L (r.nameT L).2) => ref_tnode0 q 0 0 0 0 (r.nameT L).1 (by have := cnt_all (n := 20001) (show cnt L (r.nameT L).2 ≤ 20001 by omega); omega)
    generalize r.nameT L = z at *
    obtain ⟨z1, z2⟩ := z
    dsimp only at NM NO ⊢
    clear hn hc cn r6 r0 HS hT h
    rcases hk with hk | hk
    · have hk' : Hid (r.bad = true) := hk
      clear hL hb hk
      go_enter Tryz.func151, Tryz.ntmps151
      go_wp2_with (go_at_call 60; (with_reducible refine Calls.mono IS ?_); rintro e w1 ⟨rfl, d1⟩; obtain ⟨x0, x1, x6, y1, y6⟩ := (HH.out.more d1).fields; rw [hk'.out] at x6)
      go_quiet (fail)
      have T2 := (HH.out.more d1).more (below_drewN (Below.refl _ w1) nq)
      have K2 := (Keep.of TX d1).more (below_drewN (Below.refl _ w1) nq)
      go_wp2_with (first
        | (go_at_call 61; (with_reducible refine Calls.mono (NM _ T2) ?_); rintro e w3 ⟨rfl, T3, K3⟩)
        | (go_at_call 92; (with_reducible refine Calls.mono (NO _ T3) ?_); rintro e w4 ⟨rfl, T4, K4⟩))
      go_ret
      exact ⟨rfl, T4, (K2.trans K3).trans K4⟩
    · cases hbad : r.bad with
      | true =>
        have hk' : Hid (r.bad = true) := hbad
        clear hL hb hk hbad
        go_enter Tryz.func151, Tryz.ntmps151
        go_wp2_with (go_at_call 60; (with_reducible refine Calls.mono IS ?_); rintro e w1 ⟨rfl, d1⟩; obtain ⟨x0, x1, x6, y1, y6⟩ := (HH.out.more d1).fields; rw [hk'.out] at x6)
        go_quiet (fail)
        have T2 := (HH.out.more d1).more (below_drewN (Below.refl _ w1) nq)
        have K2 := (Keep.of TX d1).more (below_drewN (Below.refl _ w1) nq)
        go_wp2_with (first
          | (go_at_call 61; (with_reducible refine Calls.mono (NM _ T2) ?_); rintro e w3 ⟨rfl, T3, K3⟩)
          | (go_at_call 92; (with_reducible refine Calls.mono (NO _ T3) ?_); rintro e w4 ⟨rfl, T4, K4⟩))
        go_ret
        exact ⟨rfl, T4, (K2.trans K3).trans K4⟩
      | false =>
        have hk' : Hid (r.bad = false) := hbad
        rcases hk with hk | ⟨t, ht, h1⟩
        · have k1 : ¬ (r.pos : Int) < L.length := by have := List.getElem?_eq_none_iff.1 hk; omega
          have k2 : ¬ r.pos < L.length := by omega
          clear hL hb hk hbad
          go_enter Tryz.func151, Tryz.ntmps151
          go_wp2_with (go_at_call 60; (with_reducible refine Calls.mono IS ?_); rintro e w1 ⟨rfl, d1⟩; obtain ⟨x0, x1, x6, y1, y6⟩ := (HH.out.more d1).fields; rw [hk'.out] at x6)
          go_quiet (fail)
          have T2 := (HH.out.more d1).more (below_drewN (Below.refl _ w1) nq)
          have K2 := (Keep.of TX d1).more (below_drewN (Below.refl _ w1) nq)
          go_wp2_with (first
            | (go_at_call 61; (with_reducible refine Calls.mono (NM _ T2) ?_); rintro e w3 ⟨rfl, T3, K3⟩)
            | (go_at_call 92; (with_reducible refine Calls.mono (NO _ T3) ?_); rintro e w4 ⟨rfl, T4, K4⟩))
          go_ret
          exact ⟨rfl, T4, (K2.trans K3).trans K4⟩
        · have hp := (List.getElem?_eq_some_iff.1 ht).1
          have k1 : (r.pos : Int) < L.length := by omega
          have e1 : (t.1 == 1) = false := by rw [beq_eq_false_iff_ne]; exact h1
          have HQ : Hid (L[r.pos]? = some t) := ht
          clear hL hb hbad ht h1
          go_enter Tryz.func151, Tryz.ntmps151
          go_wp2_with (go_at_call 60; (with_reducible refine Calls.mono IS ?_); rintro e w1 ⟨rfl, d1⟩; obtain ⟨x0, x1, x6, y1, y6⟩ := (HH.out.more d1).fields; rw [hk'.out] at x6; obtain ⟨gb, rfl, t0, t1, t2, t3⟩ := (HH.out.more d1).tok HQ.out)
          go_quiet (fail)
          have T2 := (HH.out.more d1).more (below_drewN (Below.refl _ w1) nq)
          have K2 := (Keep.of TX d1).more (below_drewN (Below.refl _ w1) nq)
          go_wp2_with (first
            | (go_at_call 61; (with_reducible refine Calls.mono (NM _ T2) ?_); rintro e w3 ⟨rfl, T3, K3⟩)
            | (go_at_call 92; (with_reducible refine Calls.mono (NO _ T3) ?_); rintro e w4 ⟨rfl, T4, K4⟩))
          go_ret
          exact ⟨rfl, T4, (K2.trans K3).trans K4⟩
  · have hbad : r.bad = false := by
      cases e : r.bad with
      | false => rfl
      | true => exact absurd (.inl e) hk
    cases ht : L[r.pos]? with
    | none => exact absurd (.inr (.inl ht)) hk
    | some t =>
      have h1 : t.1 = 1 := Decidable.byContradiction fun e => hk (.inr (.inr ⟨t, ht, e⟩))
      rw [leaf_num numT L r hbad ht h1]
      have hp := (List.getElem?_eq_some_iff.1 ht).1
      have hm := hT t (List.mem_of_getElem? ht)
      have k1 : (r.pos : Int) < L.length := by omega
      have e1 : (t.1 == 1) = true := by rw [beq_iff_eq]; exact h1
      have w1 : wrap64 ((r.pos : Int) + 1) = (r.pos : Int) + 1 := wrap_smalls (by omega) (by omega)
      have PR := fun v => ref_rparse t.2.1 v (by unfold maxLen; omega)
      rw [show parT t.2.1.data.toList = numT t.2.1 from rfl] at PR
      unfold AnsTE at PR
      have NO := fun v ua uc va vc (T' : Tr W v R la lc i l o L r.skip) => ref_tnode T' ⟨1, 0, 0, 0, ⟨#[]⟩, numT t.2.1⟩ ua (nl (numT t.2.1).2.1) uc va (nl (numT t.2.1).2.2) vc
      dsimp only at NO
      have HC : Hid (r.skip.all.length ≤ 100000) := by have := cnt_all hc; show r.all.length ≤ _; omega
      have HQ : Hid (L[r.pos]? = some t) := ht
      have hk' : Hid (r.bad = false) := hbad
      have hR : R < w.heap.size := by obtain ⟨a, c, -, B⟩ := h.box; exact B.lt
      clear hn hc cn r6 r0 HS hT h hL hb hk hbad ht h1 hp hm
      go_enter Tryz.func151, Tryz.ntmps151
      go_wp2_with (go_at_call 60; (with_reducible refine Calls.mono IS ?_); rintro e w1 ⟨rfl, d1⟩; obtain ⟨x0, x1, x6, y1, y6⟩ := (HH.out.more d1).fields; rw [hk'.out] at x6; obtain ⟨gb, rfl, t0, t1, t2, t3⟩ := (HH.out.more d1).tok HQ.out)
      go_quiet (fail)
      have T2 := (HH.out.more d1).more (below_drewN (Below.refl _ w1) nq)
      have K2 := (Keep.of TX d1).more (below_drewN (Below.refl _ w1) nq)
      have hRV : R < (w1.drewN nq).heap.size := Nat.lt_of_lt_of_le hR d1.size
      generalize w1.drewN nq = V at *
      clear x0 x1 x6 y1 y6 t0 t1 t2 t3 d1 IS hR
      obtain ⟨x0, x1, x6, y1, y6⟩ := T2.fields
      obtain ⟨gb', eb, t0, t1, t2, t3⟩ := T2.tok HQ.out
      obtain rfl : gb = gb' := by simpa using eb
      have hgV : gb < V.heap.size := World.block_lt_of_cell? V _ t0
      have SO : ∀ v, Below V.heap.size V v → (v.cell? ⟨R, 0, none⟩ = some (.slice (some ⟨gb, 0, none⟩) L.length lc) ∧ v.cell? ⟨R, 1, none⟩ = some (.int .i64 r.pos) ∧ v.cell? ⟨gb, r.pos * 4 + 1, none⟩ = some (.string t.2.1)) := fun v hb => ⟨by rw [hb.cell (p := ⟨R, 0, none⟩) hRV]; exact x0, by rw [hb.cell (p := ⟨R, 1, none⟩) hRV]; exact x1, by rw [hb.cell (p := ⟨gb, r.pos * 4 + 1, none⟩) hgV]; exact t1⟩
      have bs := (Below.refl V.heap.size V).drew
      have bs0 := Below.refl V.heap.size V
      have hsz0 : V.heap.size ≤ V.heap.size := Nat.le_refl _
      go_wp2
      go_region_held3 (fun v => v.cell? ⟨R, 0, none⟩ = some (.slice (some ⟨gb, 0, none⟩) L.length lc) ∧ v.cell? ⟨R, 1, none⟩ = some (.int .i64 r.pos) ∧ v.cell? ⟨gb, r.pos * 4 + 1, none⟩ = some (.string t.2.1))
        ((refine SO _ ?_; have hsz := bs.size; repeat' first | exact bs | exact bs0 | with_reducible refine Below.alloc ?_ ?_ _ | with_reducible refine Below.setCell ?_ ?_ _ | with_reducible refine Below.drew ?_ | exact hsz | exact Nat.le_refl _ | omega | (simp; done) | (simp; omega)))
        (first
        | (go_at_call 163; (with_reducible refine Calls.mono (PR V.drew) ?_); rintro e w2 ⟨ra, rc, rb, rd, rfl, o1, o2⟩; replace bs := below_more bs o1.below; have p1 := o1.outer (bs0.drew); have p2 := o2.outer (bs0.drew))
        | (go_at_call 163; (with_reducible refine Calls.mono (PR (V.alloc (.cells #[.bool false, .slice none 0 0, .slice none 0 0] 42)).drew) ?_); rintro e w2 ⟨ra, rc, rb, rd, rfl, o1, o2⟩; have BN := (BoxC.new V #[.bool false, .slice none 0 0, .slice none 0 0] 42).drew.more o1.below; obtain ⟨z0, z1, z2, g0, g1, g2⟩ := BN.cells3; replace bs := below_more (bs0.alloc hsz0 (.cells #[.bool false, .slice none 0 0, .slice none 0 0] 42)).drew o1.below; have p1 := o1.outer ((bs0.alloc hsz0 (.cells #[.bool false, .slice none 0 0, .slice none 0 0] 42)).drew); have p2 := o2.outer ((bs0.alloc hsz0 (.cells #[.bool false, .slice none 0 0, .slice none 0 0] 42)).drew)))
      · have BX := BoxC.new w2 #[.bool (numT t.2.1).1, .slice ra (nl (numT t.2.1).2.1) rc, .slice rb (nl (numT t.2.1).2.2) rd] 42
        have bb := bs.alloc bs.size (.cells #[.bool (numT t.2.1).1, .slice ra (nl (numT t.2.1).2.1) rc, .slice rb (nl (numT t.2.1).2.2) rd] 42)
        have T3 := T2.more bb
        have K3 := K2.more bb
        have NW : NumW W _ (rawOf ⟨1, 0, 0, 0, ⟨#[]⟩, numT t.2.1⟩, .slice ra (nl (numT t.2.1).2.1) rc, .slice rb (nl (numT t.2.1).2.2) rd) := ⟨(p1.outer T2.below).alloc (.cells #[.bool (numT t.2.1).1, .slice ra (nl (numT t.2.1).2.1) rc, .slice rb (nl (numT t.2.1).2.2) rd] 42), (p2.outer T2.below).alloc _⟩
        have hRw : R < w2.heap.size := Nat.lt_of_lt_of_le hRV bs.size
        generalize hF : w2.alloc (.cells #[.bool (numT t.2.1).1, .slice ra (nl (numT t.2.1).2.1) rc, .slice rb (nl (numT t.2.1).2.2) rd] 42) = F at *
        clear hF
        have T4 := T3.skip
        have NW4 := NW.keep T4.2 T4.1.below
        have hne : R ≠ w2.heap.size := by omega
        obtain ⟨n0, n1, n2, -, -, -⟩ := (BX.other (g := R) (i := 1) (by omega) (.int .i64 ((r.pos : Int) + 1))).cells3
        clear x0 x1 x6 y1 y6 t0 t1 t2 t3 SO bs bs0 p1 p2 o1 o2 PR
        obtain ⟨x0, x1, x6, y1, y6⟩ := T3.fields
        go_wp2_with (go_at_call 92; (with_reducible refine Calls.mono (NO _ ra rc rb rd T4.1 NW4 HC.out) ?_); rintro e w5 ⟨rfl, T5, K5⟩)
        go_ret
        exact ⟨rfl, T5, (K3.trans T4.2).trans K5⟩
      · have bb := ((bs.setCell (p := ⟨V.heap.size, 0, none⟩) hsz0 (.bool (numT t.2.1).1)).setCell (p := ⟨V.heap.size, 1, none⟩) hsz0 (.slice ra (nl (numT t.2.1).2.1) rc)).setCell (p := ⟨V.heap.size, 2, none⟩) hsz0 (.slice rb (nl (numT t.2.1).2.2) rd)
        have BX := ((BN.set 0 (.bool (numT t.2.1).1)).set 1 (.slice ra (nl (numT t.2.1).2.1) rc)).set 2 (.slice rb (nl (numT t.2.1).2.2) rd)
        have T3 := T2.more bb
        have K3 := K2.more bb
        have NW : NumW W _ (rawOf ⟨1, 0, 0, 0, ⟨#[]⟩, numT t.2.1⟩, .slice ra (nl (numT t.2.1).2.1) rc, .slice rb (nl (numT t.2.1).2.2) rd) := ⟨(p1.outer T2.below).box3 BN rat_ne_u32 T2.below.size (.bool (numT t.2.1).1) (.slice ra (nl (numT t.2.1).2.1) rc) (.slice rb (nl (numT t.2.1).2.2) rd), (p2.outer T2.below).box3 BN rat_ne_u32 T2.below.size _ _ _⟩
        generalize ((w2.setCell ⟨V.heap.size, 0, none⟩ (.bool (numT t.2.1).1)).setCell ⟨V.heap.size, 1, none⟩ (.slice ra (nl (numT t.2.1).2.1) rc)).setCell ⟨V.heap.size, 2, none⟩ (.slice rb (nl (numT t.2.1).2.2) rd) = F at *
        have T4 := T3.skip
        have NW4 := NW.keep T4.2 T4.1.below
        have hne : R ≠ V.heap.size := by omega
        obtain ⟨n0, n1, n2, -, -, -⟩ := (BoxC.other (k := V.heap.size) (cs := #[.bool (numT t.2.1).1, .slice ra (nl (numT t.2.1).2.1) rc, .slice rb (nl (numT t.2.1).2.2) rd]) BX (g := R) (i := 1) (by omega) (.int .i64 ((r.pos : Int) + 1))).cells3
        clear x0 x1 x6 y1 y6 t0 t1 t2 t3 SO bs bs0 p1 p2 o1 o2 PR z0 z1 z2 g0 g1 g2 BN
        obtain ⟨x0, x1, x6, y1, y6⟩ := T3.fields
        go_wp2_with (go_at_call 92; (with_reducible refine Calls.mono (NO _ ra rc rb rd T4.1 NW4 HC.out) ?_); rintro e w5 ⟨rfl, T5, K5⟩)
        go_ret
        exact ⟨rfl, T5, (K3.trans T4.2).trans K5⟩
end Go.Proofs.YtbcfplaalepnbaaGreatDoor
namespace Go.Proofs.YtbcfplaalepnbaaGreatDoor
open Go.RowKit Go.Lib
theorem expI_range (x : ByteArray) : -1000 ≤ expI x ∧ expI x ≤ 1000 := by
  have a := bt_lt x 0
  have b := bt_lt x 1
  unfold expI
  split
  · omega
  · split
    · omega
    · omega
set_option maxHeartbeats 32000000 in
theorem step_power (f : Nat) (HA : ExC 151 6 f) : ExC 139 5 (f + 1) := by
  intro W w R la lc i l o L r h hL hT hc hn
  rw [expr_power]
  have r5 : rankE 5 = 2 := rfl
  have r6 : rankE 6 = 1 := rfl
  have P1 := HA W w R la lc i l o L r h hL hT hc (by unfold needE at hn ⊢; omega)
  have c1 := cnt_exprI numT L 6 0 r
  rw [show extraN 6 = 1 from rfl] at c1
  generalize exprI numT L 6 0 r = y at *
  obtain ⟨a, q⟩ := y
  dsimp only at P1 c1 ⊢
  have hS : cnt L q ≤ 20001 := by omega
  clear hn r5 r6 HA hT h c1
  have IS1 := fun v (T : Tr W v R la lc i l o L q) => ref_tis T 2 ⟨#[94]⟩ _ rfl
  rw [toList_byte] at IS1
  unfold Rd.powT
  by_cases hb : q.is L 2 [94] = true
  · rw [if_pos hb]
    rw [hb] at IS1
    have hqb := (q.is_in hb).1
    have hqp := (q.is_in hb).2
    have w1 : wrap64 ((q.pos : Int) + 1) = (q.pos : Int) + 1 := wrap_smalls (by omega) (by omega)
    have IS2 := fun v (T : Tr W v R la lc i l o L q.skip) => ref_tis T 2 ⟨#[45]⟩ _ rfl
    rw [toList_byte] at IS2
    by_cases hm : q.skip.is L 2 [45] = true
    · rw [if_pos hm]
      rw [hm] at IS2
      have hmp := (q.skip.is_in hm).2
      have w2 : wrap64 ((q.skip.pos : Int) + 1) = (q.skip.pos : Int) + 1 := wrap_smalls (by omega) (by omega)
      clear hb hm hqp hmp
      unfold Rd.powE
      have hsb : (q.skip.skip).bad = false := hqb
      rw [if_neg (by rw [hsb]; simp)]
      cases ht : L[(q.skip.skip).pos]? with
      | none =>
        dsimp only
        have k1 : (L.length : Int) ≤ (q.skip.skip).pos := by have := List.getElem?_eq_none_iff.1 ht; omega
        have k2 : L.length ≤ (q.skip.skip).pos := by omega
        have hk' : Hid ((q.skip.skip).bad = false) := hsb
        clear ht hsb hqb hS hc
        go_enter Tryz.func139, Tryz.ntmps139
        go_wp2_with (first
          | (go_at_call 151; (with_reducible refine Calls.mono P1 ?_); rintro e w1 ⟨rfl, T1, K1⟩)
          | (go_at_call 60; (with_reducible refine Calls.mono (IS1 _ T1) ?_); rintro e w2 ⟨rfl, d2⟩; obtain ⟨x0, x1, x6, y1, y6⟩ := (T1.more d2).fields; have T3 := (T1.more d2).skip)
          | (go_at_call 60; (with_reducible refine Calls.mono (IS2 _ T3.1) ?_); rintro e w4 ⟨rfl, d4⟩; have T4 := T3.1.more d4; have K4 := (((K1.more d2).trans T3.2).more d4); obtain ⟨x0, x1, x6, y1, y6⟩ := T4.fields; have TS := T4.skip; have KS := K4.trans TS.2))
        generalize w4.setCell ⟨R, 1, none⟩ (.int .i64 ((q.skip.pos : Int) + 1)) = VV at *
        obtain ⟨x0, x1, x6, y1, y6⟩ := TS.1.fields
        rw [hk'.out] at x6
        go_wp2
        go_quiet (fail)
        have T7 := TS.1.more (below_drewN (Below.refl _ VV) nq)
        have K7 := KS.more (below_drewN (Below.refl _ VV) nq)
        generalize VV.drewN nq = F at *
        clear x0 x1 x6 y1 y6
        obtain ⟨x0, x1, x6, y1, y6⟩ := T7.fields
        go_wp2
        go_ret
        exact ⟨rfl, T7.bad.1, K7.trans T7.bad.2⟩
      | some t =>
        dsimp only
        have hp := (List.getElem?_eq_some_iff.1 ht).1
        have k1 : ¬ (L.length : Int) ≤ (q.skip.skip).pos := by omega
        have k2 : ¬ L.length ≤ (q.skip.skip).pos := by omega
        have k3 : ((q.skip.skip).pos : Int) < L.length := by omega
        have w9 : wrap64 (((q.skip.skip).pos : Int) + 1) = ((q.skip.skip).pos : Int) + 1 := wrap_smalls (by omega) (by omega)
        have HQ : Hid (L[(q.skip.skip).pos]? = some t) := ht
        have hk' : Hid ((q.skip.skip).bad = false) := hsb
        by_cases h1 : t.1 ≠ 1
        · rw [if_pos h1]
          have e1 : (t.1 != 1) = true := by rw [bne_iff_ne]; exact h1
          clear ht hsb hqb hS hc hp h1
          go_enter Tryz.func139, Tryz.ntmps139
          go_wp2_with (first
            | (go_at_call 151; (with_reducible refine Calls.mono P1 ?_); rintro e w1 ⟨rfl, T1, K1⟩)
            | (go_at_call 60; (with_reducible refine Calls.mono (IS1 _ T1) ?_); rintro e w2 ⟨rfl, d2⟩; obtain ⟨x0, x1, x6, y1, y6⟩ := (T1.more d2).fields; have T3 := (T1.more d2).skip)
            | (go_at_call 60; (with_reducible refine Calls.mono (IS2 _ T3.1) ?_); rintro e w4 ⟨rfl, d4⟩; have T4 := T3.1.more d4; have K4 := (((K1.more d2).trans T3.2).more d4); obtain ⟨x0, x1, x6, y1, y6⟩ := T4.fields; have TS := T4.skip; have KS := K4.trans TS.2))
          generalize w4.setCell ⟨R, 1, none⟩ (.int .i64 ((q.skip.pos : Int) + 1)) = VV at *
          obtain ⟨x0, x1, x6, y1, y6⟩ := TS.1.fields
          obtain ⟨gb, rfl, t0, t1, t2, t3⟩ := TS.1.tok HQ.out
          rw [hk'.out] at x6
          go_wp2
          go_quiet (fail)
          have T7 := TS.1.more (below_drewN (Below.refl _ VV) nq)
          have K7 := KS.more (below_drewN (Below.refl _ VV) nq)
          generalize VV.drewN nq = F at *
          clear x0 x1 x6 y1 y6 t0 t1 t2 t3
          obtain ⟨x0, x1, x6, y1, y6⟩ := T7.fields
          go_wp2
          go_ret
          exact ⟨rfl, T7.bad.1, K7.trans T7.bad.2⟩
        · rw [if_neg h1]
          have e1 : (t.1 != 1) = false := by rw [bne_eq_false_iff_eq]; exact Decidable.not_not.1 h1
          have EX := fun v => ref_texp t.2.1 _ rfl v
          have er := expI_range t.2.1
          generalize expI t.2.1 = z at *
          by_cases hz : z < 0
          · rw [if_pos hz]
            clear ht hsb hqb hS hc hp h1 er
            go_enter Tryz.func139, Tryz.ntmps139
            go_wp2_with (first
              | (go_at_call 151; (with_reducible refine Calls.mono P1 ?_); rintro e w1 ⟨rfl, T1, K1⟩)
              | (go_at_call 60; (with_reducible refine Calls.mono (IS1 _ T1) ?_); rintro e w2 ⟨rfl, d2⟩; obtain ⟨x0, x1, x6, y1, y6⟩ := (T1.more d2).fields; have T3 := (T1.more d2).skip)
              | (go_at_call 60; (with_reducible refine Calls.mono (IS2 _ T3.1) ?_); rintro e w4 ⟨rfl, d4⟩; have T4 := T3.1.more d4; have K4 := (((K1.more d2).trans T3.2).more d4); obtain ⟨x0, x1, x6, y1, y6⟩ := T4.fields; have TS := T4.skip; have KS := K4.trans TS.2))
            generalize w4.setCell ⟨R, 1, none⟩ (.int .i64 ((q.skip.pos : Int) + 1)) = VV at *
            obtain ⟨x0, x1, x6, y1, y6⟩ := TS.1.fields
            obtain ⟨gb, rfl, t0, t1, t2, t3⟩ := TS.1.tok HQ.out
            rw [hk'.out] at x6
            go_wp2
            go_quiet (fail)
            have T7 := TS.1.more (below_drewN (Below.refl _ VV) nq)
            have K7 := KS.more (below_drewN (Below.refl _ VV) nq)
            generalize VV.drewN nq = F at *
            clear x0 x1 x6 y1 y6 t0 t1 t2 t3
            obtain ⟨x0, x1, x6, y1, y6⟩ := T7.fields
            obtain ⟨gb', eb, t0, t1, t2, t3⟩ := T7.tok HQ.out
            obtain rfl : gb = gb' := by simpa using eb
            go_wp2
            go_region_with (go_at_call 152; (with_reducible refine Calls.mono (EX _) ?_); rintro e v8 ⟨rfl, d8⟩; have T8 := T7.more (Below.trans (Below.refl _ _).drew d8); have K8 := K7.more (Below.trans (Below.refl _ _).drew d8); obtain ⟨x0, x1, x6, y1, y6⟩ := T8.fields)
            all_goals
              go_wp2
              go_ret
              exact ⟨rfl, T8.bad.1, K8.trans T8.bad.2⟩
          · rw [if_neg hz]
            have NO := fun v (T' : Tr W v R la lc i l o L (q.skip.skip).skip) => ref_tnode0 T' 7 a 0 (-z) ⟨#[]⟩ (by have := cnt_all hS; show q.all.length ≤ 100000; omega)
            have v0 : wrap64 z = z := wrap_smalls (by omega) (by omega)
            have v1 : wrap64 (-z) = -z := by unfold wrap64; omega
            have v2 : wrap64 (1 * z) = z := by rw [Int.one_mul]; exact v0
            have v3 : wrap64 (-1 * z) = -z := by rw [show (-1 : Int) * z = -z by omega]; exact v1
            have HZ : Hid ((-1) * z = (-z)) := by show _ = _; omega
            clear ht hsb hqb hS hc hp h1 er
            go_enter Tryz.func139, Tryz.ntmps139
            go_wp2_with (first
              | (go_at_call 151; (with_reducible refine Calls.mono P1 ?_); rintro e w1 ⟨rfl, T1, K1⟩)
              | (go_at_call 60; (with_reducible refine Calls.mono (IS1 _ T1) ?_); rintro e w2 ⟨rfl, d2⟩; obtain ⟨x0, x1, x6, y1, y6⟩ := (T1.more d2).fields; have T3 := (T1.more d2).skip)
              | (go_at_call 60; (with_reducible refine Calls.mono (IS2 _ T3.1) ?_); rintro e w4 ⟨rfl, d4⟩; have T4 := T3.1.more d4; have K4 := (((K1.more d2).trans T3.2).more d4); obtain ⟨x0, x1, x6, y1, y6⟩ := T4.fields; have TS := T4.skip; have KS := K4.trans TS.2))
            generalize w4.setCell ⟨R, 1, none⟩ (.int .i64 ((q.skip.pos : Int) + 1)) = VV at *
            obtain ⟨x0, x1, x6, y1, y6⟩ := TS.1.fields
            obtain ⟨gb, rfl, t0, t1, t2, t3⟩ := TS.1.tok HQ.out
            rw [hk'.out] at x6
            go_wp2
            go_quiet (fail)
            have T7 := TS.1.more (below_drewN (Below.refl _ VV) nq)
            have K7 := KS.more (below_drewN (Below.refl _ VV) nq)
            generalize VV.drewN nq = F at *
            clear x0 x1 x6 y1 y6 t0 t1 t2 t3
            obtain ⟨x0, x1, x6, y1, y6⟩ := T7.fields
            obtain ⟨gb', eb, t0, t1, t2, t3⟩ := T7.tok HQ.out
            obtain rfl : gb = gb' := by simpa using eb
            go_wp2
            go_region_with (go_at_call 152; (with_reducible refine Calls.mono (EX _) ?_); rintro e v8 ⟨rfl, d8⟩; have T8 := T7.more (Below.trans (Below.refl _ _).drew d8); have K8 := K7.more (Below.trans (Below.refl _ _).drew d8); obtain ⟨x0, x1, x6, y1, y6⟩ := T8.fields; have T9 := T8.skip)
            all_goals
              go_wp2_with (go_at_call 92; (with_reducible refine Calls.mono (NO _ T9.1) ?_); rintro e v10 ⟨rfl, T10, K10⟩)
              go_ret
              rw [HZ.out]
              exact ⟨rfl, T10, (K8.trans T9.2).trans K10⟩
    · rw [if_neg hm]
      rw [show q.skip.is L 2 [45] = false by simpa using hm] at IS2
      clear hb hm hqp
      unfold Rd.powE
      have hsb : (q.skip).bad = false := hqb
      rw [if_neg (by rw [hsb]; simp)]
      cases ht : L[(q.skip).pos]? with
      | none =>
        dsimp only
        have k1 : (L.length : Int) ≤ (q.skip).pos := by have := List.getElem?_eq_none_iff.1 ht; omega
        have k2 : L.length ≤ (q.skip).pos := by omega
        have hk' : Hid ((q.skip).bad = false) := hsb
        clear ht hsb hqb hS hc
        go_enter Tryz.func139, Tryz.ntmps139
        go_wp2_with (first
          | (go_at_call 151; (with_reducible refine Calls.mono P1 ?_); rintro e w1 ⟨rfl, T1, K1⟩)
          | (go_at_call 60; (with_reducible refine Calls.mono (IS1 _ T1) ?_); rintro e w2 ⟨rfl, d2⟩; obtain ⟨x0, x1, x6, y1, y6⟩ := (T1.more d2).fields; have T3 := (T1.more d2).skip)
          | (go_at_call 60; (with_reducible refine Calls.mono (IS2 _ T3.1) ?_); rintro e w4 ⟨rfl, d4⟩; have TS : Tr W w4 R la lc i l o L q.skip ∧ True := ⟨T3.1.more d4, trivial⟩; have KS := (((K1.more d2).trans T3.2).more d4)))
        generalize hVV : w4 = VV at *
        clear hVV
        obtain ⟨x0, x1, x6, y1, y6⟩ := TS.1.fields
        rw [hk'.out] at x6
        go_wp2
        go_quiet (fail)
        have T7 := TS.1.more (below_drewN (Below.refl _ VV) nq)
        have K7 := KS.more (below_drewN (Below.refl _ VV) nq)
        generalize VV.drewN nq = F at *
        clear x0 x1 x6 y1 y6
        obtain ⟨x0, x1, x6, y1, y6⟩ := T7.fields
        go_wp2
        go_ret
        exact ⟨rfl, T7.bad.1, K7.trans T7.bad.2⟩
      | some t =>
        dsimp only
        have hp := (List.getElem?_eq_some_iff.1 ht).1
        have k1 : ¬ (L.length : Int) ≤ (q.skip).pos := by omega
        have k2 : ¬ L.length ≤ (q.skip).pos := by omega
        have k3 : ((q.skip).pos : Int) < L.length := by omega
        have w9 : wrap64 (((q.skip).pos : Int) + 1) = ((q.skip).pos : Int) + 1 := wrap_smalls (by omega) (by omega)
        have HQ : Hid (L[(q.skip).pos]? = some t) := ht
        have hk' : Hid ((q.skip).bad = false) := hsb
        by_cases h1 : t.1 ≠ 1
        · rw [if_pos h1]
          have e1 : (t.1 != 1) = true := by rw [bne_iff_ne]; exact h1
          clear ht hsb hqb hS hc hp h1
          go_enter Tryz.func139, Tryz.ntmps139
          go_wp2_with (first
            | (go_at_call 151; (with_reducible refine Calls.mono P1 ?_); rintro e w1 ⟨rfl, T1, K1⟩)
            | (go_at_call 60; (with_reducible refine Calls.mono (IS1 _ T1) ?_); rintro e w2 ⟨rfl, d2⟩; obtain ⟨x0, x1, x6, y1, y6⟩ := (T1.more d2).fields; have T3 := (T1.more d2).skip)
            | (go_at_call 60; (with_reducible refine Calls.mono (IS2 _ T3.1) ?_); rintro e w4 ⟨rfl, d4⟩; have TS : Tr W w4 R la lc i l o L q.skip ∧ True := ⟨T3.1.more d4, trivial⟩; have KS := (((K1.more d2).trans T3.2).more d4)))
          generalize hVV : w4 = VV at *
          clear hVV
          obtain ⟨x0, x1, x6, y1, y6⟩ := TS.1.fields
          obtain ⟨gb, rfl, t0, t1, t2, t3⟩ := TS.1.tok HQ.out
          rw [hk'.out] at x6
          go_wp2
          go_quiet (fail)
          have T7 := TS.1.more (below_drewN (Below.refl _ VV) nq)
          have K7 := KS.more (below_drewN (Below.refl _ VV) nq)
          generalize VV.drewN nq = F at *
          clear x0 x1 x6 y1 y6 t0 t1 t2 t3
          obtain ⟨x0, x1, x6, y1, y6⟩ := T7.fields
          go_wp2
          go_ret
          exact ⟨rfl, T7.bad.1, K7.trans T7.bad.2⟩
        · rw [if_neg h1]
          have e1 : (t.1 != 1) = false := by rw [bne_eq_false_iff_eq]; exact Decidable.not_not.1 h1
          have EX := fun v => ref_texp t.2.1 _ rfl v
          have er := expI_range t.2.1
          generalize expI t.2.1 = z at *
          by_cases hz : z < 0
          · rw [if_pos hz]
            clear ht hsb hqb hS hc hp h1 er
            go_enter Tryz.func139, Tryz.ntmps139
            go_wp2_with (first
              | (go_at_call 151; (with_reducible refine Calls.mono P1 ?_); rintro e w1 ⟨rfl, T1, K1⟩)
              | (go_at_call 60; (with_reducible refine Calls.mono (IS1 _ T1) ?_); rintro e w2 ⟨rfl, d2⟩; obtain ⟨x0, x1, x6, y1, y6⟩ := (T1.more d2).fields; have T3 := (T1.more d2).skip)
              | (go_at_call 60; (with_reducible refine Calls.mono (IS2 _ T3.1) ?_); rintro e w4 ⟨rfl, d4⟩; have TS : Tr W w4 R la lc i l o L q.skip ∧ True := ⟨T3.1.more d4, trivial⟩; have KS := (((K1.more d2).trans T3.2).more d4)))
            generalize hVV : w4 = VV at *
            clear hVV
            obtain ⟨x0, x1, x6, y1, y6⟩ := TS.1.fields
            obtain ⟨gb, rfl, t0, t1, t2, t3⟩ := TS.1.tok HQ.out
            rw [hk'.out] at x6
            go_wp2
            go_quiet (fail)
            have T7 := TS.1.more (below_drewN (Below.refl _ VV) nq)
            have K7 := KS.more (below_drewN (Below.refl _ VV) nq)
            generalize VV.drewN nq = F at *
            clear x0 x1 x6 y1 y6 t0 t1 t2 t3
            obtain ⟨x0, x1, x6, y1, y6⟩ := T7.fields
            obtain ⟨gb', eb, t0, t1, t2, t3⟩ := T7.tok HQ.out
            obtain rfl : gb = gb' := by simpa using eb
            go_wp2
            go_region_with (go_at_call 152; (with_reducible refine Calls.mono (EX _) ?_); rintro e v8 ⟨rfl, d8⟩; have T8 := T7.more (Below.trans (Below.refl _ _).drew d8); have K8 := K7.more (Below.trans (Below.refl _ _).drew d8); obtain ⟨x0, x1, x6, y1, y6⟩ := T8.fields)
            all_goals
              go_wp2
              go_ret
              exact ⟨rfl, T8.bad.1, K8.trans T8.bad.2⟩
          · rw [if_neg hz]
            have NO := fun v (T' : Tr W v R la lc i l o L (q.skip).skip) => ref_tnode0 T' 7 a 0 z ⟨#[]⟩ (by have := cnt_all hS; show q.all.length ≤ 100000; omega)
            have v0 : wrap64 z = z := wrap_smalls (by omega) (by omega)
            have v1 : wrap64 (-z) = -z := by unfold wrap64; omega
            have v2 : wrap64 (1 * z) = z := by rw [Int.one_mul]; exact v0
            have v3 : wrap64 (-1 * z) = -z := by rw [show (-1 : Int) * z = -z by omega]; exact v1
            have HZ : Hid ((1) * z = z) := by show _ = _; omega
            clear ht hsb hqb hS hc hp h1 er
            go_enter Tryz.func139, Tryz.ntmps139
            go_wp2_with (first
              | (go_at_call 151; (with_reducible refine Calls.mono P1 ?_); rintro e w1 ⟨rfl, T1, K1⟩)
              | (go_at_call 60; (with_reducible refine Calls.mono (IS1 _ T1) ?_); rintro e w2 ⟨rfl, d2⟩; obtain ⟨x0, x1, x6, y1, y6⟩ := (T1.more d2).fields; have T3 := (T1.more d2).skip)
              | (go_at_call 60; (with_reducible refine Calls.mono (IS2 _ T3.1) ?_); rintro e w4 ⟨rfl, d4⟩; have TS : Tr W w4 R la lc i l o L q.skip ∧ True := ⟨T3.1.more d4, trivial⟩; have KS := (((K1.more d2).trans T3.2).more d4)))
            generalize hVV : w4 = VV at *
            clear hVV
            obtain ⟨x0, x1, x6, y1, y6⟩ := TS.1.fields
            obtain ⟨gb, rfl, t0, t1, t2, t3⟩ := TS.1.tok HQ.out
            rw [hk'.out] at x6
            go_wp2
            go_quiet (fail)
            have T7 := TS.1.more (below_drewN (Below.refl _ VV) nq)
            have K7 := KS.more (below_drewN (Below.refl _ VV) nq)
            generalize VV.drewN nq = F at *
            clear x0 x1 x6 y1 y6 t0 t1 t2 t3
            obtain ⟨x0, x1, x6, y1, y6⟩ := T7.fields
            obtain ⟨gb', eb, t0, t1, t2, t3⟩ := T7.tok HQ.out
            obtain rfl : gb = gb' := by simpa using eb
            go_wp2
            go_region_with (go_at_call 152; (with_reducible refine Calls.mono (EX _) ?_); rintro e v8 ⟨rfl, d8⟩; have T8 := T7.more (Below.trans (Below.refl _ _).drew d8); have K8 := K7.more (Below.trans (Below.refl _ _).drew d8); obtain ⟨x0, x1, x6, y1, y6⟩ := T8.fields; have T9 := T8.skip)
            all_goals
              go_wp2_with (go_at_call 92; (with_reducible refine Calls.mono (NO _ T9.1) ?_); rintro e v10 ⟨rfl, T10, K10⟩)
              go_ret
              rw [HZ.out]
              exact ⟨rfl, T10, (K8.trans T9.2).trans K10⟩
  · rw [if_neg hb]
    rw [show q.is L 2 [94] = false by simpa using hb] at IS1
    clear hb hS hc hL
    go_enter Tryz.func139, Tryz.ntmps139
    go_wp2_with (first
      | (go_at_call 151; (with_reducible refine Calls.mono P1 ?_); rintro e w1 ⟨rfl, T1, K1⟩)
      | (go_at_call 60; (with_reducible refine Calls.mono (IS1 _ T1) ?_); rintro e w2 ⟨rfl, d2⟩))
    go_ret
    exact ⟨rfl, T1.more d2, K1.more d2⟩
end Go.Proofs.YtbcfplaalepnbaaGreatDoor
namespace Go.Proofs.YtbcfplaalepnbaaGreatDoor
open Go.RowKit Go.Lib
theorem exC_zero (F m : Nat) : ExC F m 0 := fun _ _ _ _ _ _ _ _ L r _ _ _ _ hn => absurd hn (by have := needE_pos L m r; omega)
theorem ref_texpr : ∀ f, ExC 62 0 f ∧ ExC 91 2 f ∧ ExC 118 4 f ∧ ExC 139 5 f ∧ ExC 151 6 f := by
  intro f
  induction f with
  | zero => exact ⟨exC_zero _ _, exC_zero _ _, exC_zero _ _, exC_zero _ _, exC_zero _ _⟩
  | succ f ih =>
    obtain ⟨h0, h2, h4, h5, h6⟩ := ih
    exact ⟨step_sum f h2, step_product f h4, step_factor f h4 h5, step_power f h6, step_atom f h0⟩
section
variable {W w w' : World} {R : Nat} {la : Option Addr} {lc : Nat} {i l o : Value} {L : List Tok} {r : Rd}
theorem ref_tsum (h : Tr W w R la lc i l o L r) (hL : L.length ≤ 4000) (hT : ∀ t ∈ L, t.2.1.size ≤ 1000000) (hc : cnt L r ≤ 20000) :
    Calls Tryz.prog 62 #[.pointer (some ⟨R, 0, none⟩)] w fun e w' => e = .returned (.int .i64 (exprI numT L 0 0 r).1) ∧ Tr W w' R la lc i l o L (exprI numT L 0 0 r).2 ∧ Keep TX w w' :=
  (ref_texpr (needE L 0 r)).1 W w R la lc i l o L r h hL hT hc (Nat.le_refl _)
theorem Tr.keep (h : Tr W w R la lc i l o L r) {Y : TypeId → Prop} (k : Keep Y w w') (hb : Below W.heap.size W w') (y1 : ¬ Y 64) (y2 : ¬ Y 44) (y3 : ¬ Y 66) (y4 : ¬ Y 84) : Tr W w' R la lc i l o L r := by
  obtain ⟨a, c, ms, h1, h2, h3, h4, h5, h6⟩ := h
  exact ⟨a, c, ms, h1, h2.keep k y1, h3.keep k y2 hb, h4, fun m hm => ⟨OwnC.keep (h5 m hm).1 k y4 hb, OwnC.keep (h5 m hm).2 k y4 hb⟩, ownsRow_keep h6.1 k y3, hb⟩
end
theorem row_one (v : World) (x : Value) (T : TypeId) {B : Nat} (hB : B ≤ v.heap.size) : (v.alloc (.cells #[x] T)).ownsRow B T 1 (.slice (some ⟨v.heap.size, 0, none⟩) 1 1) 1 [x] :=
  ⟨rfl, .inr ⟨v.heap.size, 1, #[x], rfl, hB, heap_alloc_new v _, Nat.le_refl _, by decide, rfl, rfl⟩⟩
section
variable {W w w' : World} {R : Nat} {la : Option Addr} {lc : Nat} {i l o : Value} {L : List Tok} {r : Rd}
set_option maxHeartbeats 16000000 in
theorem ref_tnames (h : Tr W w R la lc i l o L r) (hL : L.length ≤ 4000) (hT : ∀ t ∈ L, t.2.1.size ≤ 1000000) :
    Calls Tryz.prog 59 #[.pointer (some ⟨R, 0, none⟩)] w fun e w' => ∃ a c, e = .returned (.slice a (namesI L r).1.length c) ∧ w'.ownsRow w.heap.size 9 1 (.slice a (namesI L r).1.length c) (namesI L r).1.length (flat encS (namesI L r).1) ∧ Tr W w' R la lc i l o L (namesI L r).2 ∧ Keep TX w w' := by
  have N1 := ref_tname h hL hT
  have hb0 := h.below
  have on1 := (Rd.on_name L r).pos
  unfold namesI
  generalize r.nameT L = z at *
  obtain ⟨z1, z2⟩ := z
  dsimp only at N1 on1 ⊢
  generalize hE : moreN L (L.length + 1) [z1] z2 = E at *
  have WT := fun v (q : Tr W v R la lc i l o L E.2) => ref_twant q hL 2 ⟨#[59]⟩
  rw [toList_byte] at WT
  have IS := fun v q (T : Tr W v R la lc i l o L q) => ref_tis T 2 ⟨#[44]⟩ _ rfl
  rw [toList_byte] at IS
  have NM := fun v q (T : Tr W v R la lc i l o L q) => ref_tname T hL hT
  have HE : Hid (moreN L (L.length + 1) [z1] z2 = E) := hE
  have HH : Hid (Below W.heap.size W w ∧ L.length ≤ 4000) := ⟨hb0, hL⟩
  clear hE h hL hT hb0 on1
  go_enter Tryz.func59, Tryz.ntmps59
  go_wp2_with (go_at_call 61; (with_reducible refine Calls.mono N1 ?_); rintro e w1 ⟨rfl, T1, K1⟩)
  have T1' := T1.more ((Below.refl _ w1).alloc (Nat.le_refl _) (.cells #[.string z1] 9))
  have O1 := row_one w1 (.string z1) 9 (B := w.heap.size) K1.1
  have K1' := K1.alloc (.cells #[.string z1] 9)
  go_loopg [3] L.length (fun g s3 v => ∃ (a : Option Addr) (c f : Nat) (out : List ByteArray) (q : Rd), s3 = .slice a out.length c ∧ v.ownsRow w.heap.size 9 1 (.slice a out.length c) out.length (flat encS out) ∧ Tr W v R la lc i l o L q ∧ Keep TX w v ∧ moreN L f out q = E ∧ L.length - q.pos < f ∧ L.length - q.pos ≤ g ∧ out.length + (L.length - q.pos) ≤ 5000)
  case atStart => exact ⟨_, 1, L.length + 1, [z1], z2, rfl, O1, T1', K1', HE.out, by omega, by omega, by have := HH.out.2; show 1 + _ ≤ _; omega⟩
  case round =>
    obtain ⟨a, c, f, out, q, rfl, O, T, K, hE, hf, hg, hn⟩ := hrel
    have hL := HH.out.2
    clear O1 T1 T1' K1 K1' N1 HE
    cases f with
    | zero => omega
    | succ f =>
      have IS1 := IS wr q T
      by_cases hb : q.is L 2 [44] = true
      · have hq := (q.is_in hb).2
        rw [hb] at IS1
        have w1 : wrap64 ((q.pos : Int) + 1) = (q.pos : Int) + 1 := wrap_smalls (by omega) (by omega)
        have o1 : q.pos + 1 ≤ (q.skip.nameT L).2.pos := (Rd.on_name L q.skip).pos
        have hE' : moreN L f (out ++ [(q.skip.nameT L).1]) (q.skip.nameT L).2 = E := by rw [← hE]; symm; exact if_pos hb
        have NM1 := fun v (T' : Tr W v R la lc i l o L q.skip) => NM v q.skip T'
        generalize q.skip.nameT L = y at *
        obtain ⟨yn, yq⟩ := y
        dsimp only at NM1 hE' o1
        have m1 : out.length + 1 ≤ maxLen := by unfold maxLen; omega
        have m2 : (out.length + 1) * 16 ≤ 140737488355328 := by omega
        have HR : Hid (moreN L f (out ++ [yn]) yq = E ∧ L.length - q.pos < f + 1 ∧ L.length - q.pos ≤ gk ∧ q.pos < L.length ∧ q.pos + 1 ≤ yq.pos ∧ out.length + (L.length - q.pos) ≤ 5000 ∧ Tr W wr R la lc i l o L q ∧ Keep TX w wr ∧ wr.ownsRow w.heap.size 9 1 (.slice a out.length c) out.length (flat encS out)) := ⟨hE', hf, hg, hq, o1, hn, T, K, O⟩
        generalize hN : out.length = N at *
        clear hE hE' hf hg hq o1 hn T K O hb NM IS hL
        go_wp2_with (first
          | (go_at_call 60; (with_reducible refine Calls.mono IS1 ?_); rintro e v2 ⟨rfl, d2⟩; have T2 := HR.out.2.2.2.2.2.2.1.more d2; obtain ⟨x0, x1, x6, y1, y6⟩ := T2.fields; have T3 := T2.skip)
          | (go_at_call 61; (with_reducible refine Calls.mono (NM1 _ T3.1) ?_); rintro e v4 ⟨rfl, T4, K4⟩; have K3 := ((HR.out.2.2.2.2.2.2.2.1.more d2).trans T3.2).trans K4; have O4 := fun ob => ownsRow_below (ownsRow_keep (ownsRow_keep (ownsRow_below HR.out.2.2.2.2.2.2.2.2 d2) T3.2 tx_str) K4 tx_str) ((Below.refl _ v4).alloc (Nat.le_refl _) ob); have hB4 := K3.1)
          | (at_builtin; refine wpl_append_b (t := 23) (e := 9) Tryz.underlying23 infoStr rfl (by decide) (.tmp 17) (.tmp 20) rfl rfl _ w.heap.size (by simp; omega) _ N (flat encS out) v4.heap.size (encS yn) rfl rfl (O4 _) (BoxC.new v4 #[.string yn] 9).isc (by simp [encS, Value.oneCell']) m1 m2 ?_; intro a6 c6 v6 o6 g6))
        obtain ⟨j1, j2, j3, j4, j5, j6, j7, j8, j9⟩ := HR.out
        have hWw := HH.out.1.size
        have b6 : Below W.heap.size W v6 := (T4.below.alloc T4.below.size (.cells #[.string yn] 9)).grown g6 (Nat.le_trans T4.below.size (by simp)) (fun k hk => Nat.le_trans hWw ((O4 (.cells #[.string yn] 9)).lt k hk).1)
        have T6 := (T4.more ((Below.refl _ v4).alloc (Nat.le_refl _) (.cells #[.string yn] 9))).keep (Keep.grown_type (X := TS) (O4 (.cells #[.string yn] 9)) rfl g6) b6 (by unfold TS; decide) (by unfold TS; decide) (by unfold TS; decide) (by unfold TS; decide)
        have K6 := (K3.alloc (.cells #[.string yn] 9)).grown_new (O4 (.cells #[.string yn] 9)) (Nat.le_refl _) g6
        have eN : (out ++ [yn]).length = N + 1 := by rw [List.length_append, hN]; rfl
        go_roundg (L.length - (q.pos + 1))
        case measure => omega
        case rel => exact ⟨a6, c6, f, out ++ [yn], yq, by rw [eN], by rw [eN, flat_append, flat_one]; exact o6, T6, K6, j1, by omega, by omega, by rw [eN]; omega⟩
      · have hb' : q.is L 2 [44] = false := by simpa using hb
        rw [hb'] at IS1
        have hE' : (out, q) = E := by rw [← hE]; symm; exact if_neg hb
        subst hE'
        have HR : Hid (Tr W wr R la lc i l o L q ∧ Keep TX w wr ∧ wr.ownsRow w.heap.size 9 1 (.slice a out.length c) out.length (flat encS out)) := ⟨T, K, O⟩
        dsimp only at WT
        generalize hN : out.length = N at *
        clear hE hf hg hn T K O hb hb' NM IS hL
        go_wp2_with (first
          | (go_at_call 60; (with_reducible refine Calls.mono IS1 ?_); rintro e v2 ⟨rfl, d2⟩)
          | (go_at_call 58; (with_reducible refine Calls.mono (WT _ (HR.out.1.more d2)) ?_); rintro e v3 ⟨rfl, T3, K3⟩))
        go_ret
        subst hN
        exact ⟨a, c, rfl, ownsRow_keep (ownsRow_below HR.out.2.2 d2) K3 tx_str, T3, (HR.out.2.1.more d2).trans K3⟩
end
end Go.Proofs.YtbcfplaalepnbaaGreatDoor
namespace Go.Proofs.YtbcfplaalepnbaaGreatDoor
open Go.RowKit Go.Lib
theorem ownsRow_base {w : World} {B B' : Nat} {T : TypeId} {k : Nat} {v : Value} {n : Nat} {cs : List Value} (h : w.ownsRow B T k v n cs) (hB : B' ≤ B) : w.ownsRow B' T k v n cs := by
  refine ⟨h.1, ?_⟩
  rcases h.2 with h0 | ⟨g, cap, cur, e, h1, h2⟩
  · exact .inl h0
  · exact .inr ⟨g, cap, cur, e, Nat.le_trans hB h1, h2⟩
section
variable {W w w' : World} {R : Nat} {la : Option Addr} {lc : Nat} {i l o : Value} {L : List Tok} {r : Rd}
theorem Tr.ins (h : Tr W w R la lc i l o L r) (x : Value) : Tr W (w.setCell ⟨R, 2, none⟩ x) R la lc x l o L r ∧ Keep TX w (w.setCell ⟨R, 2, none⟩ x) := by
  obtain ⟨a, c, ms, h1, h2, h3, h4, h5, h6⟩ := h
  have hk := (Keep.refl TX w).set h2 tx_reader 2 x
  have hb := h3.below.setCell (p := ⟨R, 2, none⟩) h1 x
  exact ⟨⟨a, c, ms, h1, h2.set 2 x, h3.box h2 (by decide) h1 _ _, h4, fun m hm => (h5 m hm).keep hk hb, h6.box h2 (by decide) h1 _ _⟩, hk⟩
theorem Tr.lets (h : Tr W w R la lc i l o L r) (x : Value) : Tr W (w.setCell ⟨R, 3, none⟩ x) R la lc i x o L r ∧ Keep TX w (w.setCell ⟨R, 3, none⟩ x) := by
  obtain ⟨a, c, ms, h1, h2, h3, h4, h5, h6⟩ := h
  have hk := (Keep.refl TX w).set h2 tx_reader 3 x
  have hb := h3.below.setCell (p := ⟨R, 3, none⟩) h1 x
  exact ⟨⟨a, c, ms, h1, h2.set 3 x, h3.box h2 (by decide) h1 _ _, h4, fun m hm => (h5 m hm).keep hk hb, h6.box h2 (by decide) h1 _ _⟩, hk⟩
theorem Tr.outs (h : Tr W w R la lc i l o L r) (x : Value) : Tr W (w.setCell ⟨R, 4, none⟩ x) R la lc i l x L r ∧ Keep TX w (w.setCell ⟨R, 4, none⟩ x) := by
  obtain ⟨a, c, ms, h1, h2, h3, h4, h5, h6⟩ := h
  have hk := (Keep.refl TX w).set h2 tx_reader 4 x
  have hb := h3.below.setCell (p := ⟨R, 4, none⟩) h1 x
  exact ⟨⟨a, c, ms, h1, h2.set 4 x, h3.box h2 (by decide) h1 _ _, h4, fun m hm => (h5 m hm).keep hk hb, h6.box h2 (by decide) h1 _ _⟩, hk⟩
theorem Tr.cells3 (h : Tr W w R la lc i l o L r) : w.cell? ⟨R, 2, none⟩ = some i ∧ w.cell? ⟨R, 3, none⟩ = some l ∧ w.cell? ⟨R, 4, none⟩ = some o ∧ w.frozen? ⟨R, 2, none⟩ = false ∧ w.frozen? ⟨R, 3, none⟩ = false ∧ w.frozen? ⟨R, 4, none⟩ = false := by
  obtain ⟨a, c, -, B⟩ := h.box
  exact ⟨(B.cell 2).1, (B.cell 3).1, (B.cell 4).1, (B.cell 2).2, (B.cell 3).2, (B.cell 4).2⟩
set_option maxHeartbeats 32000000 in
theorem ref_tprogram (h : Tr W w R la lc (.slice none 0 0) (.slice none 0 0) (.slice none 0 0) L startR) (hL : L.length ≤ 4000) (hT : ∀ t ∈ L, t.2.1.size ≤ 1000000) :
    Calls Tryz.prog 31 #[.pointer (some ⟨R, 0, none⟩)] w fun e w' => e = .returned (.tuple #[]) ∧ ∃ ia ic ta tc oa oc, Tr W w' R la lc (.slice ia (progI numT L).1.ins.length ic) (.slice ta (progI numT L).1.lets.length tc) (.slice oa (progI numT L).1.outs.length oc) L (progI numT L).2 ∧
      w'.ownsRow w.heap.size 9 1 (.slice ia (progI numT L).1.ins.length ic) (progI numT L).1.ins.length (flat encS (progI numT L).1.ins) ∧ w'.ownsRow w.heap.size 46 2 (.slice ta (progI numT L).1.lets.length tc) (progI numT L).1.lets.length (flat encL (progI numT L).1.lets) ∧
      w'.ownsRow w.heap.size 9 1 (.slice oa (progI numT L).1.outs.length oc) (progI numT L).1.outs.length (flat encS (progI numT L).1.outs) ∧ Keep TX w w' := by
  have W1 := ref_twant h hL 0 ⟨#[105, 110]⟩
  rw [show (⟨#[105, 110]⟩ : ByteArray).toList = [105, 110] by rw [ByteArray.toList_eq]] at W1
  have NS := fun v q i' l' o' (T : Tr W v R la lc i' l' o' L q) => ref_tnames T hL hT
  have hI : insI L = namesI L (startR.want L 0 [105, 110]) := rfl
  have hTt : letsI numT L = letsF numT L (L.length + 1) [] (insI L).2 := rfl
  have hO : outsI numT L = namesI L ((letsI numT L).2.want L 0 [111, 117, 116]) := rfl
  have N1 := fun v (T : Tr W v R la lc (.slice none 0 0) (.slice none 0 0) (.slice none 0 0) L (startR.want L 0 [105, 110])) => NS v _ _ _ _ T
  rw [← hI] at N1
  have cI : cnt L (insI L).2 ≤ 8000 := by
    have c0 : cnt L startR ≤ 8000 := by show 0 + 2 * (L.length - 0) ≤ 8000; omega
    have o1 := on_names L (startR.want L 0 [105, 110])
    rw [← hI] at o1
    have e1 := o1.2
    rw [want_all] at e1
    have e2 := o1.1.pos
    unfold cnt
    rw [e1]
    show 0 + 2 * (L.length - _) ≤ 8000
    omega
  unfold progI
  dsimp only
  have N3 := fun v i' l' o' (T : Tr W v R la lc i' l' o' L ((letsI numT L).2.want L 0 [111, 117, 116])) => NS v _ i' l' o' T
  rw [← hO] at N3
  have WO := fun v i' l' o' (T : Tr W v R la lc i' l' o' L (letsI numT L).2) => ref_twant T hL 0 ⟨#[111, 117, 116]⟩
  rw [show (⟨#[111, 117, 116]⟩ : ByteArray).toList = [111, 117, 116] by rw [ByteArray.toList_eq]] at WO
  generalize startR.want L 0 [105, 110] = q00 at *
  generalize (letsI numT L).2.want L 0 [111, 117, 116] = q10 at *
  generalize outsI numT L = OT at *
  generalize hE : letsI numT L = E at *
  generalize insI L = IN at *
  have HE : Hid (letsF numT L (L.length + 1) [] IN.2 = E) := hTt.symm
  obtain ⟨ins, q0⟩ := IN
  obtain ⟨outs, q2⟩ := OT
  dsimp only at N1 N3 cI HE WO ⊢
  generalize hQ : (if q2.pos < L.length then q2.wrong else q2) = Q9 at *
  have HQ : Hid ((if q2.pos < L.length then q2.wrong else q2) = Q9) := hQ
  clear hQ
  have IS := fun v q i' l' o' (T : Tr W v R la lc i' l' o' L q) => ref_tis T 0 ⟨#[108, 101, 116]⟩ _ rfl
  rw [show (⟨#[108, 101, 116]⟩ : ByteArray).toList = [108, 101, 116] by rw [ByteArray.toList_eq]] at IS
  have NM := fun v q i' l' o' (T : Tr W v R la lc i' l' o' L q) => ref_tname T hL hT
  have WQ := fun v q i' l' o' (T : Tr W v R la lc i' l' o' L q) => ref_twant T hL 2 ⟨#[61]⟩
  have WS := fun v q i' l' o' (T : Tr W v R la lc i' l' o' L q) => ref_twant T hL 2 ⟨#[59]⟩
  rw [toList_byte] at WQ WS
  have SM := fun v q i' l' o' (T : Tr W v R la lc i' l' o' L q) (hc : cnt L q ≤ 20000) => ref_tsum T hL hT hc
  have HH : Hid (L.length ≤ 4000 ∧ W.heap.size ≤ w.heap.size ∧ cnt L q0 ≤ 8000) := ⟨hL, h.below.size, cI⟩
  clear hI hTt hO NS cI hE hL hT h
  go_enter Tryz.func31, Tryz.ntmps31
  go_wp2_with (first
    | (go_at_call 58; (with_reducible refine Calls.mono W1 ?_); rintro e w1 ⟨rfl, T1, K1⟩)
    | (go_at_call 59; (with_reducible refine Calls.mono (N1 _ T1) ?_); rintro e w2 ⟨ia, ic, rfl, O2, T2, K2⟩; obtain ⟨s2, s3, s4, f2, f3, f4⟩ := T2.cells3; have T3 := T2.ins (.slice ia ins.length ic)))
  have K3 := (K1.trans K2).trans T3.2
  have O3 := ownsRow_keep (ownsRow_base O2 K1.1) T3.2 tx_str
  have T3' := T3.1
  clear O2 T2 T3 s2 s3 s4 f2 f3 f4 K1 K2 T1 W1 N1
  go_loopg [] L.length (fun g v => ∃ (ta : Option Addr) (tc f : Nat) (ls : List (ByteArray × Int)) (q : Rd), Tr W v R la lc (.slice ia ins.length ic) (.slice ta ls.length tc) (.slice none 0 0) L q ∧ v.ownsRow w.heap.size 9 1 (.slice ia ins.length ic) ins.length (flat encS ins) ∧ v.ownsRow w.heap.size 46 2 (.slice ta ls.length tc) ls.length (flat encL ls) ∧ Keep TX w v ∧ letsF numT L f ls q = E ∧ L.length - q.pos < f ∧ L.length - q.pos ≤ g ∧ ls.length + (L.length - q.pos) ≤ 5000 ∧ cnt L q ≤ 8000)
  case atStart => exact ⟨none, 0, L.length + 1, [], q0, T3', O3, World.ownsRow_nil _ _ _ _, K3, HE.out, by omega, by omega, by have := HH.out.1; show 0 + _ ≤ _; omega, HH.out.2.2⟩
  case round =>
    obtain ⟨ta, tc, f, ls, q, T, OI, OL, K, hE, hf, hg, hn, hc⟩ := hrel
    have hL := HH.out.1
    clear K3 O3 T3' HE
    cases f with
    | zero => omega
    | succ f =>
      have IS1 := IS wr q _ _ _ T
      by_cases hb : q.is L 0 [108, 101, 116] = true
      · have hq := (q.is_in hb).2
        rw [hb] at IS1
        have w1 : wrap64 ((q.pos : Int) + 1) = (q.pos : Int) + 1 := wrap_smalls (by omega) (by omega)
        have hE' : letsF numT L f (ls ++ [(oneLet numT L q.skip).1]) (oneLet numT L q.skip).2 = E := by rw [← hE]; symm; exact if_pos hb
        have o1 : q.pos + 1 ≤ (oneLet numT L q.skip).2.pos := (on_let numT L q.skip).pos
        have c1 := cnt_let L q.skip
        have c2 := cnt_skip hq
        have cm1 := cnt_name L q.skip
        have cm2 := cnt_want L (q.skip.nameT L).2 2 [61]
        unfold oneLet at hE' o1 c1
        dsimp only at hE' o1 c1
        have NM1 := fun v i' l' o' (T' : Tr W v R la lc i' l' o' L q.skip) => NM v q.skip i' l' o' T'
        have WQ1 := fun v i' l' o' (T' : Tr W v R la lc i' l' o' L (q.skip.nameT L).2) => WQ v _ i' l' o' T'
        have SM1 := fun v i' l' o' (T' : Tr W v R la lc i' l' o' L ((q.skip.nameT L).2.want L 2 [61])) => SM v _ i' l' o' T' (by omega)
        have WS1 := fun v i' l' o' (T' : Tr W v R la lc i' l' o' L (exprI numT L 0 0 ((q.skip.nameT L).2.want L 2 [61])).2) => WS v _ i' l' o' T'
        generalize exprI numT L 0 0 ((q.skip.nameT L).2.want L 2 [61]) = x at *
        generalize (q.skip.nameT L).2.want L 2 [61] = x0 at *
        generalize q.skip.nameT L = x1 at *
        obtain ⟨nm, xq1⟩ := x1
        obtain ⟨root, xq⟩ := x
        dsimp only at NM1 WQ1 SM1 WS1 hE' o1 c1
        generalize xq.want L 2 [59] = qe at *
        have m1 : ls.length + 1 ≤ maxLen := by unfold maxLen; omega
        have m2 : (ls.length + 1) * 24 ≤ 140737488355328 := by omega
        have HR : Hid (letsF numT L f (ls ++ [(nm, root)]) qe = E ∧ L.length - q.pos < f + 1 ∧ L.length - q.pos ≤ gk ∧ q.pos < L.length ∧ q.pos + 1 ≤ qe.pos ∧ ls.length + (L.length - q.pos) ≤ 5000 ∧ cnt L qe ≤ 8000 ∧ Tr W wr R la lc (.slice ia ins.length ic) (.slice ta ls.length tc) (.slice none 0 0) L q ∧ Keep TX w wr ∧ wr.ownsRow w.heap.size 9 1 (.slice ia ins.length ic) ins.length (flat encS ins) ∧ wr.ownsRow w.heap.size 46 2 (.slice ta ls.length tc) ls.length (flat encL ls)) := ⟨hE', hf, hg, hq, o1, hn, by omega, T, K, OI, OL⟩
        generalize hN : ls.length = N at *
        clear hE hE' hf hg hq o1 hn T K OI OL hb NM IS hL WQ WS SM c1 c2 cm1 cm2 hc N3 WO
        go_wp2_with (first
          | (go_at_call 60; (with_reducible refine Calls.mono IS1 ?_); rintro e v2 ⟨rfl, d2⟩; have T2 := HR.out.2.2.2.2.2.2.2.1.more d2; obtain ⟨x0, x1, x6, y1, y6⟩ := T2.fields; have T3 := T2.skip)
          | (go_at_call 61; (with_reducible refine Calls.mono (NM1 _ _ _ _ T3.1) ?_); rintro e v4 ⟨rfl, T4, K4⟩)
          | (go_at_call 58; (with_reducible refine Calls.mono (WQ1 _ _ _ _ T4) ?_); rintro e v5 ⟨rfl, T5, K5⟩)
          | (go_at_call 62; (with_reducible refine Calls.mono (SM1 _ _ _ _ T5) ?_); rintro e v6 ⟨rfl, T6, K6⟩)
          | (go_at_call 58; (with_reducible refine Calls.mono (WS1 _ _ _ _ T6) ?_); rintro e v7 ⟨rfl, T7, K7⟩; obtain ⟨s2, s3, s4, f2, f3, f4⟩ := T7.cells3; have KA := (((T3.2.trans K4).trans K5).trans K6).trans K7; have KW := (HR.out.2.2.2.2.2.2.2.2.1.more d2).trans KA; have OL7 := ownsRow_keep (ownsRow_below HR.out.2.2.2.2.2.2.2.2.2.2 d2) KA tx_let; have OL8 := fun ob => ownsRow_below OL7 ((Below.refl _ v7).alloc (Nat.le_refl _) ob); have hB7 := KW.1)
          | (at_builtin; refine wpl_append_b (t := 24) (e := 46) Tryz.underlying24 infoLet rfl (by decide) (.tmp 35) (.tmp 39) rfl rfl _ w.heap.size (by simp; omega) _ N (flat encL ls) v7.heap.size (encL (nm, root)) rfl rfl (OL8 _) (BoxC.new v7 #[.string nm, .int .i64 root] 46).isc (by simp [encL, Value.oneCell']) m1 m2 ?_; intro a9 c9 v9 o9 g9; have b9 : Below W.heap.size W v9 := (T7.below.alloc T7.below.size (.cells #[.string nm, .int .i64 root] 46)).grown g9 (Nat.le_trans T7.below.size (by simp)) (fun k hk => Nat.le_trans HH.out.2.1 ((OL8 (.cells #[.string nm, .int .i64 root] 46)).lt k hk).1); have T9 := (T7.more ((Below.refl _ v7).alloc (Nat.le_refl _) (.cells #[.string nm, .int .i64 root] 46))).keep (Keep.grown_type (X := TL) (OL8 (.cells #[.string nm, .int .i64 root] 46)) rfl g9) b9 (by unfold TL; decide) (by unfold TL; decide) (by unfold TL; decide) (by unfold TL; decide); obtain ⟨r2, r3, r4, e2, e3, e4⟩ := T9.cells3))
        obtain ⟨j1, j2, j3, j4, j5, j6, j7, j8, j9, j10, j11⟩ := HR.out
        have T10 := T9.lets (.slice a9 (N + 1) c9)
        have KT := Keep.grown_type (X := TL) (OL8 (.cells #[.string nm, .int .i64 root] 46)) rfl g9
        have OI10 := ownsRow_keep (ownsRow_keep (ownsRow_below (ownsRow_keep (ownsRow_below j10 d2) KA tx_str) ((Below.refl _ v7).alloc (Nat.le_refl _) (.cells #[.string nm, .int .i64 root] 46))) KT (by unfold TL; decide)) T10.2 tx_str
        have OL10 := ownsRow_keep o9 T10.2 tx_let
        have K10 := ((KW.alloc (.cells #[.string nm, .int .i64 root] 46)).grown_new (OL8 (.cells #[.string nm, .int .i64 root] 46)) (Nat.le_refl _) g9).trans T10.2
        have eN : (ls ++ [(nm, root)]).length = N + 1 := by rw [List.length_append, hN]; rfl
        go_roundg (L.length - (q.pos + 1))
        case measure => omega
        case rel => exact ⟨a9, c9, f, ls ++ [(nm, root)], qe, by rw [eN]; exact T10.1, OI10, by rw [eN, flat_append, flat_one]; exact OL10, K10, j1, by omega, by omega, by rw [eN]; omega, j7⟩
      · have hb' : q.is L 0 [108, 101, 116] = false := by simpa using hb
        rw [hb'] at IS1
        have hE' : (ls, q) = E := by rw [← hE]; symm; exact if_neg hb
        subst hE'
        dsimp only at WO N3
        have HR : Hid (Tr W wr R la lc (.slice ia ins.length ic) (.slice ta ls.length tc) (.slice none 0 0) L q ∧ Keep TX w wr ∧ wr.ownsRow w.heap.size 9 1 (.slice ia ins.length ic) ins.length (flat encS ins) ∧ wr.ownsRow w.heap.size 46 2 (.slice ta ls.length tc) ls.length (flat encL ls)) := ⟨T, K, OI, OL⟩
        clear hE hf hg hn hc T K OI OL hb hb' NM IS hL WQ WS SM
        by_cases hq : q2.pos < L.length
        · have k1 : (q2.pos : Int) < L.length := by omega
          have HF : Hid (q2.wrong = Q9) := by show _ = _; rw [← HQ.out, if_pos hq]
          clear HQ
          go_wp2_with (first
            | (go_at_call 60; (with_reducible refine Calls.mono IS1 ?_); rintro e v2 ⟨rfl, d2⟩)
            | (go_at_call 58; (with_reducible refine Calls.mono (WO _ _ _ _ (HR.out.1.more d2)) ?_); rintro e v3 ⟨rfl, T3, K3⟩)
            | (go_at_call 59; (with_reducible refine Calls.mono (N3 _ _ _ _ T3) ?_); rintro e v4 ⟨oa, oc, rfl, O4, T4, K4⟩; obtain ⟨s2, s3, s4, f2, f3, f4⟩ := T4.cells3; have T5 := T4.outs (.slice oa outs.length oc)))
          obtain ⟨x0, x1, x6, y1, y6⟩ := T5.1.fields
          have KB := (Keep.of TX d2).trans (K3.trans (K4.trans T5.2))
          have KW := HR.out.2.1.trans KB
          have OI5 := ownsRow_keep HR.out.2.2.1 KB tx_str
          have OL5 := ownsRow_keep HR.out.2.2.2 KB tx_let
          have OO5 := ownsRow_base (ownsRow_keep O4 T5.2 tx_str) ((HR.out.2.1.more d2).trans K3).1
          have T5' := T5.1
          generalize v4.setCell ⟨R, 4, none⟩ (.slice oa outs.length oc) = V5 at *
          clear T3 T4 T5 K3 K4 d2 O4 s2 s3 s4 f2 f3 f4 IS1 WO N3
          go_quiet (fail)
          have dq : Below V5.heap.size V5 (V5.drewN nq) := below_drewN (Below.refl _ V5) nq
          have T6 := T5'.more dq
          have K6 := KW.more dq
          have OI6 := ownsRow_below OI5 dq
          have OL6 := ownsRow_below OL5 dq
          have OO6 := ownsRow_below OO5 dq
          generalize V5.drewN nq = F at *
          clear x0 x1 x6 y1 y6 OI5 OL5 OO5 T5' KB KW dq
          obtain ⟨x0, x1, x6, y1, y6⟩ := T6.fields
          go_wp2
          go_end0
          obtain ⟨T7, K7⟩ := T6.bad
          rw [HF.out] at T7
          exact ⟨rfl, ia, ic, ta, tc, oa, oc, T7, ownsRow_keep OI6 K7 tx_str, ownsRow_keep OL6 K7 tx_let, ownsRow_keep OO6 K7 tx_str, K6.trans K7⟩
        · have k1 : ¬ (q2.pos : Int) < L.length := by omega
          have HF : Hid (q2 = Q9) := by show _ = _; rw [← HQ.out, if_neg hq]
          clear HQ
          go_wp2_with (first
            | (go_at_call 60; (with_reducible refine Calls.mono IS1 ?_); rintro e v2 ⟨rfl, d2⟩)
            | (go_at_call 58; (with_reducible refine Calls.mono (WO _ _ _ _ (HR.out.1.more d2)) ?_); rintro e v3 ⟨rfl, T3, K3⟩)
            | (go_at_call 59; (with_reducible refine Calls.mono (N3 _ _ _ _ T3) ?_); rintro e v4 ⟨oa, oc, rfl, O4, T4, K4⟩; obtain ⟨s2, s3, s4, f2, f3, f4⟩ := T4.cells3; have T5 := T4.outs (.slice oa outs.length oc)))
          obtain ⟨x0, x1, x6, y1, y6⟩ := T5.1.fields
          have KB := (Keep.of TX d2).trans (K3.trans (K4.trans T5.2))
          have KW := HR.out.2.1.trans KB
          have OI5 := ownsRow_keep HR.out.2.2.1 KB tx_str
          have OL5 := ownsRow_keep HR.out.2.2.2 KB tx_let
          have OO5 := ownsRow_base (ownsRow_keep O4 T5.2 tx_str) ((HR.out.2.1.more d2).trans K3).1
          have T5' := T5.1
          generalize v4.setCell ⟨R, 4, none⟩ (.slice oa outs.length oc) = V5 at *
          clear T3 T4 T5 K3 K4 d2 O4 s2 s3 s4 f2 f3 f4 IS1 WO N3
          go_quiet (fail)
          have dq : Below V5.heap.size V5 (V5.drewN nq) := below_drewN (Below.refl _ V5) nq
          have T6 := T5'.more dq
          have K6 := KW.more dq
          have OI6 := ownsRow_below OI5 dq
          have OL6 := ownsRow_below OL5 dq
          have OO6 := ownsRow_below OO5 dq
          generalize V5.drewN nq = F at *
          clear x0 x1 x6 y1 y6 OI5 OL5 OO5 T5' KB KW dq
          obtain ⟨x0, x1, x6, y1, y6⟩ := T6.fields
          go_wp2
          go_end0
          rw [HF.out] at T6
          exact ⟨rfl, ia, ic, ta, tc, oa, oc, T6, OI6, OL6, OO6, K6⟩
end
end Go.Proofs.YtbcfplaalepnbaaGreatDoor
namespace Go.Proofs.YtbcfplaalepnbaaGreatDoor
open Go.RowKit Go.Lib
set_option maxHeartbeats 16000000 in
theorem ref_ttall {w : World} {a : Option Addr} {n c : Nat} {ms : List Mn} (h : IsN w a n ms) (hn : n ≤ 100000) (hB : Behind (ms.map fun m => m.1.nd)) (hV : ∀ m ∈ ms, (∃ x y z, m.2.1 = .slice x y z) ∧ ∃ x y z, m.2.2 = .slice x y z) :
    ∀ (i : Nat), i < n → ∀ v, Below w.heap.size w v → Calls Tryz.prog 41 #[.slice a n c, .int .i64 i] v fun e w' => e = .returned (.int .i64 (tallI (ms.map fun m => m.1.nd) i)) ∧ Below v.heap.size v w' := by
  intro i
  induction i using Nat.strongRecOn with
  | ind i ih =>
    intro hin v hb
    have hl := h.1
    obtain ⟨m, hm⟩ : ∃ m, ms[i]? = some m := ⟨_, List.getElem?_eq_getElem (by omega)⟩
    have hmd : (ms.map fun m => m.1.nd)[i]? = some m.1.nd := by rw [List.getElem?_map, hm]; rfl
    obtain ⟨⟨ua, un, uc, hu⟩, ⟨va, vn, vc, hv⟩⟩ := hV m (List.mem_of_getElem? hm)
    obtain ⟨g, o, rfl, c0, c1, c2, c3, c4, c5, c6, c7⟩ := (h.below hb).node hm
    rw [hu] at c6
    rw [hv] at c7
    rw [tall_step hB hmd]
    have k1 : (i : Int) < n := by omega
    by_cases hk1 : m.1.kind ≤ 1
    · rw [if_pos (show m.1.nd.kind ≤ 1 from hk1)]
      clear ih h hB hV hmd hm hu hv hl
      go_enter Tryz.func41, Tryz.ntmps41
      go_wp2
      go_ret
      exact ⟨rfl, (Below.refl _ _).alloc (Nat.le_refl _) _⟩
    rw [if_neg (show ¬ m.1.nd.kind ≤ 1 from hk1)]
    obtain ⟨a0, a1, b0⟩ := hB i m.1.nd hmd (by show 2 ≤ m.1.kind; omega)
    have a0 : 0 ≤ m.1.a := a0
    have a1 : m.1.a < (i : Int) := a1
    obtain ⟨A, hA⟩ : ∃ A : Nat, m.1.a = (A : Int) := ⟨m.1.a.toNat, by omega⟩
    have CA := ih A (by omega) (by omega)
    have tA := tall_range hB A A (Nat.le_refl _) (by rw [List.length_map]; omega)
    rw [show m.1.nd.a = (A : Int) from hA, Int.toNat_natCast]
    rw [hA] at c1
    by_cases hk5 : m.1.kind ≤ 5
    · rw [if_pos (show m.1.nd.kind ≤ 5 from hk5)]
      have b0 := b0 hk5
      have b1 : 0 ≤ m.1.b := b0.1
      have b2 : m.1.b < (i : Int) := b0.2
      obtain ⟨C, hC⟩ : ∃ C : Nat, m.1.b = (C : Int) := ⟨m.1.b.toNat, by omega⟩
      have CC := ih C (by omega) (by omega)
      have tC := tall_range hB C C (Nat.le_refl _) (by rw [List.length_map]; omega)
      rw [show m.1.nd.b = (C : Int) from hC, Int.toNat_natCast]
      rw [hC] at c2
      generalize tallI (ms.map fun m => m.1.nd) A = X at *
      generalize tallI (ms.map fun m => m.1.nd) C = Y at *
      have NB := BoxC.new v #[.int .i64 m.1.kind, .int .i64 (A : Int), .int .i64 (C : Int), .int .i64 m.1.exp, .string m.1.name, .bool m.1.neg, .slice ua un uc, .slice va vn vc] 44
      have z1 := (NB.cell 1).1
      have z2 := (NB.cell 2).1
      have b0V : Below v.heap.size v (v.alloc (.cells #[.int .i64 m.1.kind, .int .i64 (A : Int), .int .i64 (C : Int), .int .i64 m.1.exp, .string m.1.name, .bool m.1.neg, .slice ua un uc, .slice va vn vc] 44)).drew := ((Below.refl _ v).alloc (Nat.le_refl _) _).drew
      have bV : Below w.heap.size w (v.alloc (.cells #[.int .i64 m.1.kind, .int .i64 (A : Int), .int .i64 (C : Int), .int .i64 m.1.exp, .string m.1.name, .bool m.1.neg, .slice ua un uc, .slice va vn vc] 44)).drew := below_more hb b0V
      have v1 : IntKind.i64.wrap (1 + X) = 1 + X := by rw [IntKind.wrap_i64]; omega
      have v2 : IntKind.i64.wrap (1 + Y) = 1 + Y := by rw [IntKind.wrap_i64]; omega
      have bs := (Below.refl (v.alloc (.cells #[.int .i64 m.1.kind, .int .i64 (A : Int), .int .i64 (C : Int), .int .i64 m.1.exp, .string m.1.name, .bool m.1.neg, .slice ua un uc, .slice va vn vc] 44)).heap.size (v.alloc (.cells #[.int .i64 m.1.kind, .int .i64 (A : Int), .int .i64 (C : Int), .int .i64 m.1.exp, .string m.1.name, .bool m.1.neg, .slice ua un uc, .slice va vn vc] 44))).drew
      have SO : ∀ u, Below (v.alloc (.cells #[.int .i64 m.1.kind, .int .i64 (A : Int), .int .i64 (C : Int), .int .i64 m.1.exp, .string m.1.name, .bool m.1.neg, .slice ua un uc, .slice va vn vc] 44)).heap.size (v.alloc (.cells #[.int .i64 m.1.kind, .int .i64 (A : Int), .int .i64 (C : Int), .int .i64 m.1.exp, .string m.1.name, .bool m.1.neg, .slice ua un uc, .slice va vn vc] 44)) u → (u.cell? ⟨v.heap.size, 1, none⟩ = some (.int .i64 (A : Int)) ∧ u.cell? ⟨v.heap.size, 2, none⟩ = some (.int .i64 (C : Int))) := fun u hu => ⟨((NB.more hu).cell 1).1, ((NB.more hu).cell 2).1⟩
      rcases Int.le_total X Y with hXY | hXY
      · rw [Int.max_eq_right hXY]
        clear ih h hB hV hmd hm hu hv hl tA tC a0 b0 hA hC
        go_enter Tryz.func41, Tryz.ntmps41
        go_wp2
        go_region_held3 (fun u => u.cell? ⟨v.heap.size, 1, none⟩ = some (.int .i64 (A : Int)) ∧ u.cell? ⟨v.heap.size, 2, none⟩ = some (.int .i64 (C : Int))) (exact SO _ bs) (first
          | (go_at_call 41; (with_reducible refine Calls.mono (CC _ bA) ?_); rintro e w2 ⟨rfl, d2⟩; replace bs := below_more bs d2; have bZ := below_more dA d2)
          | (go_at_call 41; (with_reducible refine Calls.mono (CA _ bC) ?_); rintro e w2 ⟨rfl, d2⟩; replace bs := below_more bs d2; have bZ := below_more dC d2)
          | (go_at_call 41; (with_reducible refine Calls.mono (CA _ bV) ?_); rintro e w1 ⟨rfl, dA⟩; have bA := below_more bV dA; replace bs := below_more bs dA)
          | (go_at_call 41; (with_reducible refine Calls.mono (CC _ bV) ?_); rintro e w1 ⟨rfl, dC⟩; have bC := below_more bV dC; replace bs := below_more bs dC))
        all_goals go_wp2
        all_goals
          first
            | (go_ret; exact ⟨rfl, below_more b0V bZ⟩)
            | (obtain rfl : X = Y := by omega
               go_ret; exact ⟨rfl, below_more b0V bZ⟩)
      · rw [Int.max_eq_left hXY]
        clear ih h hB hV hmd hm hu hv hl tA tC a0 b0 hA hC
        go_enter Tryz.func41, Tryz.ntmps41
        go_wp2
        go_region_held3 (fun u => u.cell? ⟨v.heap.size, 1, none⟩ = some (.int .i64 (A : Int)) ∧ u.cell? ⟨v.heap.size, 2, none⟩ = some (.int .i64 (C : Int))) (exact SO _ bs) (first
          | (go_at_call 41; (with_reducible refine Calls.mono (CC _ bA) ?_); rintro e w2 ⟨rfl, d2⟩; replace bs := below_more bs d2; have bZ := below_more dA d2)
          | (go_at_call 41; (with_reducible refine Calls.mono (CA _ bC) ?_); rintro e w2 ⟨rfl, d2⟩; replace bs := below_more bs d2; have bZ := below_more dC d2)
          | (go_at_call 41; (with_reducible refine Calls.mono (CA _ bV) ?_); rintro e w1 ⟨rfl, dA⟩; have bA := below_more bV dA; replace bs := below_more bs dA)
          | (go_at_call 41; (with_reducible refine Calls.mono (CC _ bV) ?_); rintro e w1 ⟨rfl, dC⟩; have bC := below_more bV dC; replace bs := below_more bs dC))
        all_goals go_wp2
        all_goals
          first
            | (go_ret; exact ⟨rfl, below_more b0V bZ⟩)
            | (obtain rfl : X = Y := by omega
               go_ret; exact ⟨rfl, below_more b0V bZ⟩)
    · rw [if_neg (show ¬ m.1.nd.kind ≤ 5 from hk5)]
      generalize tallI (ms.map fun m => m.1.nd) A = X at *
      have NB := BoxC.new v #[.int .i64 m.1.kind, .int .i64 (A : Int), .int .i64 m.1.b, .int .i64 m.1.exp, .string m.1.name, .bool m.1.neg, .slice ua un uc, .slice va vn vc] 44
      have z1 := (NB.cell 1).1
      have b0V : Below v.heap.size v (v.alloc (.cells #[.int .i64 m.1.kind, .int .i64 (A : Int), .int .i64 m.1.b, .int .i64 m.1.exp, .string m.1.name, .bool m.1.neg, .slice ua un uc, .slice va vn vc] 44)) := ((Below.refl _ v).alloc (Nat.le_refl _) _)
      have bV := below_more hb b0V
      have v1 : wrap64 (1 + X) = 1 + X := wrap_smalls (by omega) (by omega)
      clear ih h hB hV hmd hm hu hv hl tA a0 b0 hA
      go_enter Tryz.func41, Tryz.ntmps41
      go_wp2_with (go_at_call 41; (with_reducible refine Calls.mono (CA _ bV) ?_); rintro e w1 ⟨rfl, dA⟩)
      go_ret
      exact ⟨by simp only [v1]; rfl, below_more b0V dA⟩
end Go.Proofs.YtbcfplaalepnbaaGreatDoor
namespace Go.Proofs.YtbcfplaalepnbaaGreatDoor
open Go.RowKit Go.Lib
def encI (x : Int) : List Value := [.int .i64 x]
theorem encI_length (x : Int) : (encI x).length = 1 := rfl
theorem hts_succ (l : List Nd) (n : Nat) : hts l (n + 1) = hts l n ++ [tallI l n] := by unfold hts; rw [List.range_succ, List.map_append]; rfl
theorem OwnC.ints {T : TypeId} {W w : World} {a : Option Addr} {n c : Nat} {l : List Int} (h : OwnC T 1 W w (.slice a n c) n (flat encI l)) : l.length = n ∧ (n = 0 ∨ ∃ g, a = some ⟨g, 0, none⟩ ∧ ∀ i x, l[i]? = some x → w.cell? ⟨g, i, none⟩ = some (.int .i64 x)) := by
  have hl : l.length = n := by
    have := h.1.1
    rw [flat_length encI_length] at this
    omega
  refine ⟨hl, ?_⟩
  rcases h.1.2 with ⟨-, h0⟩ | ⟨g, cap, cur, e, -, hg, -, -, -, ht⟩
  · exact .inl h0
  · right
    simp only [Value.slice.injEq] at e
    refine ⟨g, e.1, fun i x hx => ?_⟩
    have hi : i < l.length := (List.getElem?_eq_some_iff.1 hx).1
    have hf := flat_get encI_length l i x hx 0 (by omega)
    rw [Nat.mul_one, Nat.add_zero] at hf
    have hlt : i < n * 1 := by omega
    rw [← ht, List.getElem?_take, if_pos hlt] at hf
    simp only [World.cell?, hg]
    have hf' : cur.toList[i]? = some (.int .i64 x) := hf
    rw [← hf']
    simp
set_option maxHeartbeats 16000000 in
theorem ref_theights {w : World} {i l o : Value} {a : Option Addr} {n c : Nat} {ms : List Mn} (h : IsN w a n ms) (hn : n ≤ 100000) (hB : Behind (ms.map fun m => m.1.nd)) (hV : ∀ m ∈ ms, (∃ x y z, m.2.1 = .slice x y z) ∧ ∃ x y z, m.2.2 = .slice x y z) (il ic tl tc ol oc : Nat) (ia ta oa : Option Addr) (hi : i = .slice ia il ic) (hl : l = .slice ta tl tc) (ho : o = .slice oa ol oc) :
    Calls Tryz.prog 15 #[.agg #[i, l, o, .slice a n c]] w fun e w' => ∃ ha hc, e = .returned (.slice ha n hc) ∧ OwnC 3 1 w w' (.slice ha n hc) n (flat encI (hts (ms.map fun m => m.1.nd) n)) := by
  subst hi hl ho
  have TA := fun k (hk : k < n) v hb => ref_ttall (c := c) h hn hB hV k hk v hb
  generalize (ms.map fun m => m.1.nd) = L at *
  have HN : Hid (n ≤ 100000) := hn
  obtain ⟨B1, bV, hs⟩ := boxes1 w #[.slice ia il ic, .slice ta tl tc, .slice oa ol oc, .slice a n c] 27
  have HB1 : Hid (BoxC (w.alloc (.cells #[.slice ia il ic, .slice ta tl tc, .slice oa ol oc, .slice a n c] 27)) w.heap.size #[.slice ia il ic, .slice ta tl tc, .slice oa ol oc, .slice a n c] 27 ∧ Below w.heap.size w (w.alloc (.cells #[.slice ia il ic, .slice ta tl tc, .slice oa ol oc, .slice a n c] 27))) := ⟨B1, bV⟩
  clear h hn hB hV B1 bV hs
  go_enter Tryz.func15, Tryz.ntmps15
  go_wp2
  go_loopg [3, 4] n (fun g s3 s4 v => ∃ (t : Nat) (ha : Option Addr) (hc : Nat), s3 = .slice ha t hc ∧ s4 = .int .i64 t ∧ t + g = n ∧ OwnC 3 1 w v (.slice ha t hc) t (flat encI (hts L t)) ∧ BoxC v w.heap.size #[.slice ia il ic, .slice ta tl tc, .slice oa ol oc, .slice a n c] 27)
  case atStart => exact ⟨0, none, 0, rfl, rfl, by omega, OwnC.nil HB1.out.2, HB1.out.1⟩
  case round =>
    obtain ⟨t, ha, hc, rfl, rfl, hg, O, B⟩ := hrel
    have hN := HN.out
    have z3 := (B.cell 3).1
    rcases Nat.lt_or_ge t n with ht | ht
    · have k1 : (t : Int) < n := by omega
      have w1 : wrap64 ((t : Int) + 1) = (t : Int) + 1 := wrap_smalls (by omega) (by omega)
      have T1 := TA t ht wr O.below
      have HR : Hid (OwnC 3 1 w wr (.slice ha t hc) t (flat encI (hts L t)) ∧ BoxC wr w.heap.size #[.slice ia il ic, .slice ta tl tc, .slice oa ol oc, .slice a n c] 27 ∧ t + gk = n ∧ t < n ∧ (Value.slice ha t hc).ownBlock ≠ some w.heap.size) := ⟨O, B, hg, ht, O.apart B (by decide)⟩
      have m1 : t + 1 ≤ maxLen := by unfold maxLen; omega
      have m2 : (t + 1) * 8 ≤ 140737488355328 := by omega
      have hs := hts_succ L t
      generalize tallI L t = X at *
      clear O B hg ht TA hN HB1
      go_wp2_with (first
        | (go_at_call 41; (with_reducible refine Calls.mono T1 ?_); rintro e w2 ⟨rfl, d2⟩; have O2 := fun ob => (HR.out.1.more d2).alloc ob)
        | (at_builtin; refine wpl_append_c (t := 37) (e := 3) Tryz.underlying37 infoInt rfl (by decide) (.tmp 12) (.tmp 17) rfl rfl w _ _ t (flat encI (hts L t)) (some ⟨w2.heap.size, 0, none⟩) 1 1 (encI X) rfl rfl (O2 _) (BoxC.new w2 #[.int .i64 X] 3).isc (by simp [encI, Value.oneCell']) (fun e => absurd e (by simp)) m1 m2 ?_; intro a6 c6 w6 _ o6 g6; have B6 := ((HR.out.2.1.more d2).alloc (.cells #[.int .i64 X] 3)).grownC g6 HR.out.2.2.2.2; have z3' := (B6.cell 3).1))
      obtain ⟨j1, j2, j3, j4, j5⟩ := HR.out
      go_roundg (n - (t + 1))
      case measure => omega
      case rel => exact ⟨t + 1, a6, c6, rfl, by first | rfl | (rw [w1]; rfl), by omega, by rw [hs, flat_append, flat_one]; exact o6, B6⟩
    · have k1 : ¬ (t : Int) < n := by omega
      obtain rfl : t = n := by omega
      clear hg ht TA hN HB1 B
      go_wp2
      go_ret
      exact ⟨ha, hc, rfl, O⟩
end Go.Proofs.YtbcfplaalepnbaaGreatDoor
namespace Go.Proofs.YtbcfplaalepnbaaGreatDoor
open Go.RowKit Go.Lib
set_option maxHeartbeats 16000000 in
theorem ref_tlong {w : World} {a : Option Addr} {n c : Nat} {ms : List Mn} (h : IsN w a n ms) (hn : n ≤ 100000) (hB : Behind (ms.map fun m => m.1.nd)) (hV : ∀ m ∈ ms, (∃ x y z, m.2.1 = .slice x y z) ∧ ∃ x y z, m.2.2 = .slice x y z) (il ic tl tc ol oc : Nat) (ia ta oa : Option Addr) (r : Bool) (hr : lngB (ms.map fun m => m.1.nd) il tl ol = r) :
    Calls Tryz.prog 33 #[.agg #[.slice ia il ic, .slice ta tl tc, .slice oa ol oc, .slice a n c]] w fun e w' => e = .returned (.bool r) ∧ Below w.heap.size w w' := by
  obtain ⟨B1, bV, hs⟩ := boxes1 w #[.slice ia il ic, .slice ta tl tc, .slice oa ol oc, .slice a n c] 27
  have HT := ref_theights (c := c) (h.below bV) hn hB hV il ic tl tc ol oc ia ta oa rfl rfl rfl
  have z0 := (B1.cell 0).1
  have z1 := (B1.cell 1).1
  have z2 := (B1.cell 2).1
  have z3 := (B1.cell 3).1
  have hlen : (ms.map fun m => m.1.nd).length = n := by rw [List.length_map]; exact h.1
  unfold lngB at hr
  rw [hlen] at hr
  generalize (ms.map fun m => m.1.nd) = L at *
  clear h hB hV B1 hs hlen
  by_cases h1 : 400 < n
  · have k1 : 400 < (n : Int) := by omega
    obtain rfl : r = true := by rw [← hr, decide_eq_true h1]; simp
    clear hr hn h1 HT
    go_enter Tryz.func33, Tryz.ntmps33
    go_wp2
    go_ret
    exact ⟨rfl, bV⟩
  have k1 : ¬ 400 < (n : Int) := by omega
  rw [decide_eq_false h1, Bool.false_or] at hr
  by_cases h2 : 40 < il
  · have k2 : 40 < (il : Int) := by omega
    obtain rfl : r = true := by rw [← hr, decide_eq_true h2]; simp
    clear hr hn h1 h2 HT
    go_enter Tryz.func33, Tryz.ntmps33
    go_wp2
    go_ret
    exact ⟨rfl, bV⟩
  have k2 : ¬ 40 < (il : Int) := by omega
  rw [decide_eq_false h2, Bool.false_or] at hr
  by_cases h3 : 40 < tl
  · have k3 : 40 < (tl : Int) := by omega
    obtain rfl : r = true := by rw [← hr, decide_eq_true h3]; simp
    clear hr hn h1 h2 h3 HT
    go_enter Tryz.func33, Tryz.ntmps33
    go_wp2
    go_ret
    exact ⟨rfl, bV⟩
  have k3 : ¬ 40 < (tl : Int) := by omega
  rw [decide_eq_false h3, Bool.false_or] at hr
  by_cases h4 : 40 < ol
  · have k4 : 40 < (ol : Int) := by omega
    obtain rfl : r = true := by rw [← hr, decide_eq_true h4]; simp
    clear hr hn h1 h2 h3 h4 HT
    go_enter Tryz.func33, Tryz.ntmps33
    go_wp2
    go_ret
    exact ⟨rfl, bV⟩
  have k4 : ¬ 40 < (ol : Int) := by omega
  rw [decide_eq_false h4, Bool.false_or] at hr
  have HR : Hid (((List.range n).any fun k => decide (60 < tallI L k)) = r ∧ n ≤ 100000) := ⟨hr, hn⟩
  clear hr hn h1 h2 h3 h4
  go_enter Tryz.func33, Tryz.ntmps33
  go_wp2_with (go_at_call 15; (with_reducible refine Calls.mono HT ?_); rintro e w2 ⟨ha, hc, rfl, O⟩)
  obtain ⟨-, hI⟩ := O.ints
  have b2 := below_more bV O.below
  clear HT z0 z1 z2 z3
  go_loopg [4] n (fun g s4 v => ∃ t : Nat, s4 = .int .i64 t ∧ t + g = n ∧ (∀ j, j < t → ¬ 60 < tallI L j) ∧ w2 = v)
  case atStart => exact ⟨0, rfl, by omega, fun j hj => absurd hj (by omega), rfl⟩
  case round =>
    obtain ⟨t, rfl, hg, hN, rfl⟩ := hrel
    have hn := HR.out.2
    rcases Nat.lt_or_ge t n with ht | ht
    · have p1 : (t : Int) < n := by omega
      obtain ⟨gb, rfl, hc2⟩ := hI.resolve_left (by omega)
      have cX := hc2 t _ (hts_get L ht)
      have hX : tallI L t = tallI L t := rfl
      by_cases h6 : 60 < tallI L t
      · have hr : r = true := by
          rw [← HR.out.1, List.any_eq_true]
          exact ⟨t, List.mem_range.2 ht, by rw [decide_eq_true_eq]; exact h6⟩
        subst hr
        generalize tallI L t = X at *
        clear hg hN hn HR hI hc2 O hX
        go_wp2
        go_ret
        exact ⟨rfl, b2⟩
      · have w1 : wrap64 ((t : Int) + 1) = (t : Int) + 1 := wrap_smalls (by omega) (by omega)
        have HN : Hid ((∀ j, j < t + 1 → ¬ 60 < tallI L j) ∧ t + gk = n ∧ t < n) := ⟨fun j hj => by
          rcases Nat.lt_or_ge j t with q | q
          · exact hN j q
          · obtain rfl : j = t := by omega
            exact h6, hg, ht⟩
        generalize tallI L t = X at *
        clear hg hN hn hI hc2 O hX
        go_wp2
        obtain ⟨j1, j2, j3⟩ := HN.out
        go_roundg (n - (t + 1))
        case measure => omega
        case rel => exact ⟨t + 1, by first | rfl | (rw [w1]; rfl), by omega, j1, rfl⟩
    · have p1 : ¬ (t : Int) < n := by omega
      obtain rfl : t = n := by omega
      have hr : r = false := by
        rw [← HR.out.1, List.any_eq_false]
        intro k hk
        rw [decide_eq_true_eq]
        exact hN k (List.mem_range.1 hk)
      subst hr
      clear hg hN hn HR hI O
      go_wp2
      go_ret
      exact ⟨rfl, b2⟩
end Go.Proofs.YtbcfplaalepnbaaGreatDoor
namespace Go.Proofs.YtbcfplaalepnbaaGreatDoor
open Go.RowKit Go.Lib
theorem tr_start {w w1 : World} {la : Option Addr} {lc : Nat} {L : List Tok} {x y : Int} (hb : Below w.heap.size w (w1.alloc (.cells #[.int .i64 x, .int .i64 y] 29)))
    (hT : OwnT w ((w1.alloc (.cells #[.int .i64 x, .int .i64 y] 29)).alloc (.cells #[.slice la L.length lc, .int .i64 0, .slice none 0 0, .slice none 0 0, .slice none 0 0, .slice none 0 0, .bool false] 64)) (.slice la L.length lc) L.length L) :
    Tr w ((w1.alloc (.cells #[.int .i64 x, .int .i64 y] 29)).alloc (.cells #[.slice la L.length lc, .int .i64 0, .slice none 0 0, .slice none 0 0, .slice none 0 0, .slice none 0 0, .bool false] 64)) (w1.heap.size + 1) la lc (.slice none 0 0) (.slice none 0 0) (.slice none 0 0) L startR := by
  have hz : (w1.alloc (.cells #[.int .i64 x, .int .i64 y] 29)).heap.size = w1.heap.size + 1 := by simp
  have B := BoxC.new (w1.alloc (.cells #[.int .i64 x, .int .i64 y] 29)) #[.slice la L.length lc, .int .i64 0, .slice none 0 0, .slice none 0 0, .slice none 0 0, .slice none 0 0, .bool false] 64
  rw [hz] at B
  exact ⟨none, 0, [], by rw [← hz]; exact hb.size, B, OwnC.nil (hb.alloc hb.size _), rfl, fun m hm => absurd hm (by simp), hT⟩
theorem lexF_sizes (s : ByteArray) : ∀ f i out, (∀ t ∈ out, t.2.1.size ≤ s.size) → ∀ t ∈ (lexF s f i out).1, t.2.1.size ≤ s.size := by
  intro f
  induction f with
  | zero => intro i out h; exact h
  | succ f ih =>
    intro i out h
    unfold lexF
    split
    · split
      · exact ih _ _ h
      · split
        · intro t ht; exact absurd ht (by simp)
        · split
          · intro t ht; exact absurd ht (by simp)
          · rename_i h5
            refine ih _ _ (fun t ht => ?_)
            rcases List.mem_append.1 ht with q | q
            · exact h t q
            · obtain rfl := List.mem_singleton.1 q
              obtain ⟨-, e⟩ := tokenI_ok (Decidable.not_not.1 h5)
              show (tokenI s i).2.1.size ≤ s.size
              rw [e, ByteArray.size_extract]; omega
    · exact h
theorem lexI_sizes (s : ByteArray) : ∀ t ∈ (lexI s).1, t.2.1.size ≤ s.size := by
  unfold lexI
  split
  · intro t ht; exact absurd ht (by simp)
  · exact lexF_sizes s _ _ _ (fun t ht => absurd ht (by simp))
end Go.Proofs.YtbcfplaalepnbaaGreatDoor
