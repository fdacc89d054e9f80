/-
  Contract of package nat's function Add, for all two lists of words: the list of the sum; memory that was there stays, and what is answered is the call's own.
-/
import Derived.Test.YtlokidddbkdclaaDoorNatB
import Derived.Deep.RegionWith
import Derived.Deep.DrawnRows
namespace Go.Proofs.YtlokidddbkdclaaDoor
open Go.RowKit
attribute [local go_sem ↓] Go.wp_at_zero Go.wp_at_succ

/-- The sum's last carry is 0. -/
theorem add_last {ps qs ss : List Int} {k cy : Nat} (hp : Wd ps) (hq : Wd qs) (hl : qs.length ≤ ps.length) (hi : val ss + cy * 4294967296 ^ k = val ps + val (qs.take k)) (hk : k = ps.length + 1 ∨ qs.length ≤ k ∧ cy = 0) : val ss = val ps + val qs := by
  have e : qs.take k = qs := List.take_of_length_le (by omega)
  rw [e] at hi
  rcases hk with rfl | ⟨-, rfl⟩
  · have h1 := val_lt ps hp
    have h2 : val qs < 4294967296 ^ ps.length := Nat.lt_of_lt_of_le (val_lt qs hq) (Nat.pow_le_pow_right (by omega) hl)
    rw [Nat.pow_succ, ← Nat.mul_assoc] at hi
    rcases Nat.eq_zero_or_pos cy with rfl | hc
    · omega
    · have h3 : 1 * 4294967296 ^ ps.length ≤ cy * 4294967296 ^ ps.length := Nat.mul_le_mul_right _ hc
      generalize cy * 4294967296 ^ ps.length = r at hi h3
      generalize 4294967296 ^ ps.length = p at h1 h2 h3
      omega
  · omega

set_option maxHeartbeats 4000000 in
theorem nat_add (a : Option Addr) (n c : Nat) (zs : List Int) (b : Option Addr) (m d : Nat) (ys : List Int) (w : World) (h : IsWords w (.slice a n c) zs) (hz : Wd zs) (g : IsWords w (.slice b m d) ys) (gz : Wd ys)
    (hn : n ≤ 1000000000000) (hm : m ≤ 1000000000000) :
    Calls Tryd.prog 20 #[.slice a n c, .slice b m d] w (Ans w (val zs + val ys)) := by
  have R1 := nat_right' a n c zs w h hz
  have R2 := nat_right' b m d ys w g gz
  have S1 := h.right hz
  have S2 := g.right gz
  have w1 := wd_natOf (val zs)
  have w2 := wd_natOf (val ys)
  have b1 := (h.low hz).2.2
  have b2 := (g.low gz).2.2
  have l1 : Hid ((natOf (val zs)).length = nl (val zs)) := rfl
  have l2 : Hid ((natOf (val ys)).length = nl (val ys)) := rfl
  clear h g hz gz
  by_cases hlt : nl (val zs) < nl (val ys)
  case' pos =>
    have HV : Hid (val (natOf (val ys)) + val (natOf (val zs)) = val zs + val ys) := by
      show _ = _
      rw [val_natOf, val_natOf]; omega
    generalize val zs + val ys = S at HV ⊢
    have P := S2
    have Q := S1
    have wP := w2
    have wQ := w1
    have lP := l2
    have lQ := l1
    clear S1 S2 w1 w2 l1 l2
    generalize nl (val zs) = LQ at R1 Q b1 hlt lQ
    generalize nl (val ys) = LP at R2 P b2 hlt lP
    generalize natOf (val zs) = qs at Q wQ lQ HV
    generalize natOf (val ys) = ps at P wP lP HV
    have hle : LQ ≤ LP := by omega
  case' neg =>
    have HV : Hid (val (natOf (val zs)) + val (natOf (val ys)) = val zs + val ys) := by
      show _ = _
      rw [val_natOf, val_natOf]
    generalize val zs + val ys = S at HV ⊢
    have P := S1
    have Q := S2
    have wP := w1
    have wQ := w2
    have lP := l1
    have lQ := l2
    clear S1 S2 w1 w2 l1 l2
    generalize nl (val zs) = LP at R1 P b1 hlt lP
    generalize nl (val ys) = LQ at R2 Q b2 hlt lQ
    generalize natOf (val zs) = ps at P wP lP HV
    generalize natOf (val ys) = qs at Q wQ lQ HV
    have hle : LQ ≤ LP := by omega
  all_goals
    obtain ⟨M, hM1, hM2⟩ : ∃ M, M ≤ LP + 1 ∧ LP + 1 ≤ M := ⟨_, Nat.le_refl _, Nat.le_refl _⟩
    have hLP : LP ≤ 1000000000000 := by omega
    go_enter Tryd.func20, Tryd.ntmps20
    go_wp2_with (first
      | (go_at_call 32; with_reducible refine Calls.mono R1 ?_; rintro e w1 ⟨rfl, rfl⟩)
      | (go_at_call 32; with_reducible refine Calls.mono R2 ?_; rintro e w1 ⟨rfl, rfl⟩)
      | (at_make; refine wpl_make_words (.tmp 21) rfl rfl w w M _ rfl (by omega) (by omega) (Below.refl _ _) ?_; intro g w1 hg o1)
      | (with_reducible show wpList _ _ _ (Oper.mk _ (Op.call { callee := Callee.builtin Builtin.copy, args := _, argTypes := _ }) _ _ _ _ :: _) _ _; refine wpl_copy_words (.tmp 23) (.tmp 24) rfl rfl w w1 g M M LP _ (List.replicate M 0) ps o1 (P.below o1.below) rfl rfl lP.out (by omega) ?_; intro w2 o2))
    clear R1 R2
    go_loopw [6, 28] (fun cr i v => ∃ (k cy : Nat) (ss : List Int), k ≤ M ∧ i = .int .i64 k ∧ cr = .int .u32 cy ∧ cy ≤ 1 ∧ Own w v (.slice (some ⟨g, 0, none⟩) M M) M ss ∧ Wd ss ∧ val ss + cy * 4294967296 ^ k = val ps + val (qs.take k)) (fun _ i _ => M - (intOf i).toNat)
    case atStart =>
      refine ⟨0, 0, _, by omega, rfl, rfl, by omega, o2, ?_, ?_⟩
      · rw [List.drop_replicate]; exact wd_append wP (wd_zeros _)
      · rw [List.drop_replicate, val_append_zeros]; simp [val]
    case round =>
      obtain ⟨k, cy, ss, hk, rfl, rfl, hcy, o, wS, hI⟩ := hrel
      have HI : Hid (val ss + cy * 4294967296 ^ k = val ps + val (qs.take k)) := hI
      clear hI o1 o2
      by_cases hdone : k = M ∨ LQ ≤ k ∧ cy = 0
      · have HS : val ss = S := by
          have e1 := lP.out
          have e2 := lQ.out
          rw [add_last wP wQ (by omega) HI.out (by omega), HV.out]
        have R3 := nat_right' _ _ _ ss wr o.words wS
        have OR := o.right wS
        rw [HS] at R3 OR
        clear HS HI P Q wP wQ lP lQ o wS HV
        by_cases hkM : k < M
        · have h1 : LQ ≤ k := by omega
          have h2 : cy = 0 := by omega
          subst h2
          clear hdone
          go_wp2_with (first
            | (go_at_call 32; with_reducible refine Calls.mono R3 ?_; rintro e w1 ⟨rfl, rfl⟩))
          go_ret
          exact ⟨_, _, rfl, OR⟩
        · clear hdone
          go_wp2_with (first
            | (go_at_call 32; with_reducible refine Calls.mono R3 ?_; rintro e w1 ⟨rfl, rfl⟩))
          go_ret
          exact ⟨_, _, rfl, OR⟩
      · have EQ : Hid (val (qs.take (k + 1)) = val (qs.take k) + (qs.getD k 0).toNat * 4294967296 ^ k) := val_take_succ qs k
        have W1 := fun v hb z hz => nat_word _ _ _ _ v (Q.below hb) k (by omega) z hz
        obtain ⟨z0, z1⟩ := wd_getD wQ k
        have hkM : k < M := by omega
        obtain ⟨hc, hf, hg1, hg2⟩ := o.cell k hkM
        have hss := o.length
        have ES := fun y => val_set ss k y (by omega)
        obtain ⟨x0, x1⟩ := wd_getD wS k
        generalize hqz : qs.getD k 0 = z at EQ z0 z1
        have HZ : Hid (qs.getD k 0 = z) := hqz
        clear hqz
        generalize ss.getD k 0 = x at hc ES x0 x1
        have od := o.drew
        have WC := W1 wr.drew od.below z HZ.out
        have AC := limb_add x z cy wr.drew x0 x1 z0 z1 (by omega) (by omega)
        have HY : Hid (((x + z + cy) % 4294967296).toNat + 4294967296 * ((x + z + cy) / 4294967296).toNat = x.toNat + z.toNat + cy ∧ 0 ≤ (x + z + cy) / 4294967296 ∧ (x + z + cy) / 4294967296 ≤ 1 ∧ 0 ≤ (x + z + cy) % 4294967296 ∧ (x + z + cy) % 4294967296 < 4294967296) := ⟨by omega, by omega, by omega, by omega, by omega⟩
        generalize (x + z + cy) % 4294967296 = y at AC HY
        generalize (x + z + cy) / 4294967296 = cq at AC HY
        have HN : Hid (val (ss.set k y) + cq.toNat * 4294967296 ^ (k + 1) = val ps + val (qs.take (k + 1))) := by
          show _ = _
          rw [EQ.out, Nat.pow_succ]
          exact add_step (ES y) HI.out HY.out.1
        have WN : Wd (ss.set k y) := wd_set wS k HY.out.2.2.2.1 HY.out.2.2.2.2
        clear W1 hss EQ HI HZ ES P Q wP wQ lP lQ wS HV
        by_cases h1 : LQ ≤ k
        case' pos => have h2 : ((cy : Int) == 0) = false := by simp; omega
        all_goals
          clear hdone
          go_wp2
          go_region_with (first
            | (go_at_call 42; with_reducible refine Calls.mono WC ?_; rintro e w3 ⟨rfl, rfl⟩)
            | (go_at_call 41; with_reducible refine Calls.mono AC ?_; rintro e w3 ⟨rfl, b3⟩; have o3 := od.more b3; obtain ⟨hc3, hf3, -, -⟩ := o3.cell k hkM))
          all_goals
            clear WC AC
            go_wp2
            go_roundw
            case rel => exact ⟨k + 1, cq.toNat, ss.set k y, by omega, by go_num, val_int (by have := HY.out.2.1; omega), by have := HY.out.2.2.1; omega, o3.set k y, WN, HN.out⟩
            case measure => simp [intOf]; omega
end Go.Proofs.YtlokidddbkdclaaDoor
