/-
  Contract of package nat's function Sub, for all two lists of words: the list of the difference, or that there is none; memory that was there stays, and what is answered is the call's own.
-/
import Derived.Test.YtglidhiabdnfeaaNatCmp
import Derived.Deep.RegionWith
import Derived.Deep.DrawnRows
namespace Go.Proofs.Ytglidhiabdnfeaa
open Go.RowKit
attribute [local go_sem ↓] Go.wp_at_zero Go.wp_at_succ

/-- The difference's last borrow is 0. -/
theorem sub_last {ps qs ss : List Int} {k r : Nat} (hs : Wd ss) (hls : ss.length = ps.length) (hle : val qs ≤ val ps) (hl : qs.length ≤ ps.length) (hi : val ss + val (qs.take k) = val ps + r * 4294967296 ^ k) (hk : k = ps.length ∨ qs.length ≤ k ∧ r = 0) : val ss = val ps - val qs := by
  have e : qs.take k = qs := List.take_of_length_le (by omega)
  rw [e] at hi
  rcases hk with rfl | ⟨-, rfl⟩
  · have h1 := val_lt ss hs
    rw [hls] at h1
    rcases Nat.eq_zero_or_pos r with rfl | hc
    · omega
    · have h3 : 1 * 4294967296 ^ ps.length ≤ r * 4294967296 ^ ps.length := Nat.mul_le_mul_right _ hc
      omega
  · omega

/-- What Sub answers where there is a difference: a slice of the call's own, the list of the number N, and true. -/
def AnsOk (W : World) (N : Nat) (e : Ending) (w' : World) : Prop := ∃ a c, e = .returned (.tuple #[.slice a (nl N) c, .bool true]) ∧ Own W w' (.slice a (nl N) c) (nl N) (natOf N)

set_option maxHeartbeats 1000000 in
theorem nat_sub_no (a : Option Addr) (n c : Nat) (zs : List Int) (b : Option Addr) (m d : Nat) (ys : List Int) (w : World) (h : IsWords w (.slice a n c) zs) (hz : Wd zs) (g : IsWords w (.slice b m d) ys) (gz : Wd ys)
    (hlt : val zs < val ys) :
    Calls Try.prog 23 #[.slice a n c, .slice b m d] w fun e w' => e = .returned (.tuple #[.slice none 0 0, .bool false]) ∧ Below w.heap.size w w' := by
  have R1 := nat_right' a n c zs w h hz
  have R2 := nat_right' b m d ys w g gz
  have C := nat_cmp _ _ _ _ _ _ _ _ w (h.right hz) (wd_natOf _) (g.right gz) (wd_natOf _)
  rw [val_natOf, val_natOf, sgn_lt (by omega)] at C
  clear h g hz gz hlt
  go_enter Try.func23, Try.ntmps23
  go_wp2_with (first
    | (go_at_call 36; with_reducible refine Calls.mono R1 ?_; rintro e w1 ⟨rfl, rfl⟩)
    | (go_at_call 36; with_reducible refine Calls.mono R2 ?_; rintro e w1 ⟨rfl, rfl⟩)
    | (go_at_call 39; with_reducible refine Calls.mono C ?_; rintro e w1 ⟨rfl, bC⟩))
  go_ret2
  exact ⟨rfl, bC⟩

set_option maxHeartbeats 4000000 in
theorem nat_sub (a : Option Addr) (n c : Nat) (zs : List Int) (b : Option Addr) (m d : Nat) (ys : List Int) (w : World) (h : IsWords w (.slice a n c) zs) (hz : Wd zs) (g : IsWords w (.slice b m d) ys) (gz : Wd ys)
    (hn : n ≤ 1000000000000) (hge : val ys ≤ val zs) :
    Calls Try.prog 23 #[.slice a n c, .slice b m d] w (AnsOk w (val zs - val ys)) := by
  have R1 := nat_right' a n c zs w h hz
  have R2 := nat_right' b m d ys w g gz
  have P := h.right hz
  have Q := g.right gz
  have wP := wd_natOf (val zs)
  have wQ := wd_natOf (val ys)
  have b1 := (h.low hz).2.2
  have C := nat_cmp _ _ _ _ _ _ _ _ w P wP Q wQ
  rw [val_natOf, val_natOf] at C
  have hs : 0 ≤ sgn (val zs) (val ys) := by
    rcases Nat.lt_or_ge (val ys) (val zs) with h | h
    · rw [sgn_gt (by omega)]; omega
    · rw [sgn_eq (by omega)]; omega
  have lP : Hid ((natOf (val zs)).length = nl (val zs)) := rfl
  have lQ : Hid ((natOf (val ys)).length = nl (val ys)) := rfl
  have hle := nl_mono hge
  have HG : Hid (val (natOf (val ys)) ≤ val (natOf (val zs))) := by show _ ≤ _; rw [val_natOf, val_natOf]; exact hge
  have HV : Hid (val (natOf (val zs)) - val (natOf (val ys)) = val zs - val ys) := by show _ = _; rw [val_natOf, val_natOf]
  clear h g hz gz hge
  generalize val zs - val ys = S at HV ⊢
  generalize sgn (val zs) (val ys) = sg at C hs
  generalize nl (val zs) = LP at R1 P b1 lP C hle
  generalize nl (val ys) = LQ at R2 Q lQ C hle
  generalize natOf (val zs) = ps at P wP lP HV HG
  generalize natOf (val ys) = qs at Q wQ lQ HV HG
  have hLP : LP ≤ 1000000000000 := by omega
  go_enter Try.func23, Try.ntmps23
  go_wp2_with (first
    | (go_at_call 36; with_reducible refine Calls.mono R1 ?_; rintro e w1 ⟨rfl, rfl⟩)
    | (go_at_call 36; with_reducible refine Calls.mono R2 ?_; rintro e w1 ⟨rfl, rfl⟩)
    | (go_at_call 39; with_reducible refine Calls.mono C ?_; rintro e wC ⟨rfl, bC⟩)
    | (at_make; refine wpl_make_words (.tmp 18) rfl rfl w wC LP _ rfl rfl (by omega) bC ?_; intro g w1 hg o1)
    | (with_reducible show wpList _ _ _ (Oper.mk _ (Op.call { callee := Callee.builtin Builtin.copy, args := _, argTypes := _ }) _ _ _ _ :: _) _ _; refine wpl_copy_words (.tmp 20) (.tmp 21) rfl rfl w w1 g LP LP LP _ (List.replicate LP 0) ps o1 (P.below o1.below) rfl rfl lP.out (by omega) ?_; intro w2 o2))
  clear R1 R2 C bC
  go_loopw [7, 25] (fun cr i v => ∃ (k cy : Nat) (ss : List Int), k ≤ LP ∧ i = .int .i64 k ∧ cr = .int .u32 cy ∧ cy ≤ 1 ∧ Own w v (.slice (some ⟨g, 0, none⟩) LP LP) LP ss ∧ Wd ss ∧ val ss + val (qs.take k) = val ps + cy * 4294967296 ^ k) (fun _ i _ => LP - (intOf i).toNat)
  case atStart =>
    refine ⟨0, 0, _, by omega, rfl, rfl, by omega, o2, ?_, ?_⟩
    · rw [List.drop_replicate]; exact wd_append wP (wd_zeros _)
    · rw [List.drop_replicate, val_append_zeros]; simp [val]
  case round =>
    obtain ⟨k, cy, ss, hk, rfl, rfl, hcy, o, wS, hI⟩ := hrel
    have HI : Hid (val ss + val (qs.take k) = val ps + cy * 4294967296 ^ k) := hI
    clear hI o1 o2
    by_cases hdone : k = LP ∨ LQ ≤ k ∧ cy = 0
    · have HS : val ss = S := by
        have e1 := lP.out
        have e2 := lQ.out
        have e3 := o.length
        rw [sub_last wS (by omega) HG.out (by omega) HI.out (by omega), HV.out]
      have R3 := nat_right' _ _ _ ss wr o.words wS
      have OR := o.right wS
      rw [HS] at R3 OR
      clear HS HI P Q wP wQ lP lQ o wS HV HG
      by_cases hkM : k < LP
      · have h1 : LQ ≤ k := by omega
        have h2 : cy = 0 := by omega
        subst h2
        clear hdone
        go_wp2_with (first
          | (go_at_call 36; with_reducible refine Calls.mono R3 ?_; rintro e w1 ⟨rfl, rfl⟩))
        go_ret2
        exact ⟨_, _, rfl, OR⟩
      · clear hdone
        go_wp2_with (first
          | (go_at_call 36; with_reducible refine Calls.mono R3 ?_; rintro e w1 ⟨rfl, rfl⟩))
        go_ret2
        exact ⟨_, _, rfl, OR⟩
    · have EQ : Hid (val (qs.take (k + 1)) = val (qs.take k) + (qs.getD k 0).toNat * 4294967296 ^ k) := val_take_succ qs k
      have W1 := fun v hb z hz => nat_word _ _ _ _ v (Q.below hb) k (by omega) z hz
      obtain ⟨z0, z1⟩ := wd_getD wQ k
      have hkM : k < LP := by omega
      obtain ⟨hc, hf, hg1, hg2⟩ := o.cell k hkM
      have hss := o.length
      have ES := fun y => val_set ss k y (by omega)
      obtain ⟨x0, x1⟩ := wd_getD wS k
      generalize hqz : qs.getD k 0 = z at EQ z0 z1
      have HZ : Hid (qs.getD k 0 = z) := hqz
      clear hqz
      generalize ss.getD k 0 = x at hc ES x0 x1
      have od := o.drew
      have WC := W1 wr.drew od.below z HZ.out
      have AC := limb_sub x z cy wr.drew x0 x1 z0 z1 (by omega) (by omega)
      have HY : Hid (((x - z - cy) % 4294967296).toNat + z.toNat + cy = x.toNat + 4294967296 * (-((x - z - cy) / 4294967296)).toNat ∧ 0 ≤ -((x - z - cy) / 4294967296) ∧ -((x - z - cy) / 4294967296) ≤ 1 ∧ 0 ≤ (x - z - cy) % 4294967296 ∧ (x - z - cy) % 4294967296 < 4294967296) := ⟨by omega, by omega, by omega, by omega, by omega⟩
      generalize (x - z - cy) % 4294967296 = y at AC HY
      generalize -((x - z - cy) / 4294967296) = cq at AC HY
      have HN : Hid (val (ss.set k y) + val (qs.take (k + 1)) = val ps + cq.toNat * 4294967296 ^ (k + 1)) := by
        show _ = _
        rw [EQ.out, Nat.pow_succ]
        exact sub_step (ES y) HI.out HY.out.1
      have WN : Wd (ss.set k y) := wd_set wS k HY.out.2.2.2.1 HY.out.2.2.2.2
      clear W1 hss EQ HI HZ ES P Q wP wQ lP lQ wS HV HG
      by_cases h1 : LQ ≤ k
      case' pos => have h2 : ((cy : Int) == 0) = false := by simp; omega
      all_goals
        clear hdone
        go_wp2
        go_region_with (first
          | (go_at_call 38; with_reducible refine Calls.mono WC ?_; rintro e w3 ⟨rfl, rfl⟩)
          | (go_at_call 40; with_reducible refine Calls.mono AC ?_; rintro e w3 ⟨rfl, b3⟩; have o3 := od.more b3; obtain ⟨hc3, hf3, -, -⟩ := o3.cell k hkM))
        all_goals
          clear WC AC
          go_wp2
          go_roundw
          case rel => exact ⟨k + 1, cq.toNat, ss.set k y, by omega, by go_num, val_int (by have := HY.out.2.1; omega), by have := HY.out.2.2.1; omega, o3.set k y, WN, HN.out⟩
          case measure => simp [intOf]; omega
end Go.Proofs.Ytglidhiabdnfeaa
