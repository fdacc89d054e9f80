/-
  Texts of mine in build order. No conditions of their own.
-/
import Derived.Lib.AtoiAll
import Derived.Lib.OthersKept
import Derived.Test.YtaeladkcmpdkhaaGreatDoorPack12
set_option maxHeartbeats 8000000
namespace Go.Proofs.YtaeladkcmpdkhaaGreatDoor
section
open Go.Lib
theorem right_kind {k : Int} {x : ByteArray} (h : RightT k x) : (k = 0 ∧ kindAt x 0 = 1) ∨ (k = 1 ∧ kindAt x 0 = 2 ∧ numB x = true) ∨ (k = 2 ∧ kindAt x 0 = 4 ∧ stepAt x 0 = x.size) := by
 obtain ⟨h0, h⟩ := h
 have h1 := congrArg (fun q => q.1) h
 have h2 := congrArg (fun q => q.2.1) h
 have h3 := congrArg (fun q => q.2.2.1) h
 have h4 := congrArg (fun q => q.2.2.2) h
 unfold tokenI at h1 h2 h3 h4
 by_cases k1 : kindAt x 0 = 1
 ·simp only [if_pos k1] at h1 h2 h3 h4
  by_cases c1 : 0 + 40 < wordEnd x 0
  ·simp only [if_pos c1] at h4
   omega
  ·simp only [if_neg c1] at h1
   exact .inl ⟨h1.symm, k1⟩
 ·simp only [if_neg k1] at h1 h2 h3 h4
  by_cases k2 : kindAt x 0 = 2
  ·simp only [if_pos k2] at h1 h2 h3 h4
   split at h4
   ·exact absurd (show (4 : Int) = 0 from h4) (by decide)
   ·rename_i c1
    simp only [if_neg c1] at h1 h2 h3
    split at h4
    ·rename_i c2
     simp only [if_pos c2] at h1 h2 h3
     rw [h2] at c2
     exact .inr (.inl ⟨h1.symm, k2, c2⟩)
    ·exact absurd (show (5 : Int) = 0 from h4) (by decide)
  ·simp only [if_neg k2] at h1 h2 h3 h4
   split at h4
   ·rename_i k4
    simp only [if_pos k4] at h1 h3
    exact .inr (.inr ⟨h1.symm, k4, by omega⟩)
   ·exact absurd (show (5 : Int) = 0 from h4) (by decide)
theorem kind_low {x : ByteArray} {i : Nat} (hi : i < x.size) (h : bt x i < 128) : kindAt x i = kindI (bt x i) := by
 unfold kindAt
 rw [if_pos hi, (next_byte h).1]
theorem mark_kind {k : Int} {x : ByteArray} {c : UInt8} (h : RightT k x) (hx : x.toList = [c]) (hc : kindI c.toNat = 4) : k = 2 := by
 have e : x = ⟨#[c]⟩ := by
  rw [ByteArray.toList_eq] at hx
  cases x with
  | mk d => congr 1; exact Array.toList_inj.1 (by simpa using hx)
 subst e
 have hb : bt ⟨#[c]⟩ 0 = c.toNat := rfl
 have hl : c.toNat < 128 := by
  by_cases q : c.toNat < 128
  ·exact q
  ·exfalso
   unfold kindI at hc
   repeat' split at hc
   all_goals omega
 have hk : kindAt ⟨#[c]⟩ 0 = 4 := by rw [kind_low (by show 0 < 1; omega) (by rw [hb]; exact hl), hb, hc]
 rcases right_kind h with ⟨-, q⟩ | ⟨-, q, -⟩ | ⟨q, -⟩
 ·omega
 ·omega
 ·exact q
theorem word_kind {k : Int} {x : ByteArray} (h : RightT k x) (hk : kindAt x 0 = 1) : k = 0 := by
 rcases right_kind h with ⟨q, -⟩ | ⟨-, q, -⟩ | ⟨-, q, -⟩
 ·exact q
 ·omega
 ·omega
theorem low_kind {k : Int} {x : ByteArray} {c : UInt8} {r : List UInt8} (h : RightT k x) (hx : x.toList = c :: r) (hc : c.toNat < 128 ∧ kindI c.toNat = 1) : k = 0 := by
 have e : x.data.toList = c :: r := by rw [← ByteArray.toList_eq]; exact hx
 have hs : 0 < x.size := by show 0 < x.data.size; rw [← Array.length_toList, e]; simp
 have hb : bt x 0 = c.toNat := by
  rw [bt_get hs]
  have : x.data.toList[0]? = some c := by rw [e]; rfl
  obtain ⟨hl, he⟩ := List.getElem?_eq_some_iff.1 this
  exact congrArg UInt8.toNat he
 exact word_kind h (by rw [kind_low hs (by omega), hb]; exact hc.2)
theorem name_kind {k : Int} {x : ByteArray} (h : RightT k x) (hn : nameB x = true) : k = 0 := by
 refine word_kind h ?_
 have hs := h.1
 unfold nameB at hn
 simp only [Bool.and_eq_true] at hn
 have := hn.2
 unfold nameF at this
 rw [if_pos hs] at this
 split at this
 ·exact absurd this (by simp)
 ·rename_i q
  unfold kindAt
  rw [if_pos hs]
  omega
def expA (x : ByteArray) : Option Int := match atoiAll x.data.toList with
 | .ok n => if n ≤ 20 then some n else none
 | _ => none
theorem pu_digits : ∀ (l : List UInt8) (acc u : Nat), parseUint10 acc l = .ok u → (∀ c ∈ l, 48 ≤ c.toNat ∧ c.toNat ≤ 57) ∧ acc * 10 ^ l.length ≤ u := by
 intro l
 induction l with
 | nil =>
  intro acc u h
  simp only [parseUint10] at h
  cases h
  exact ⟨fun c hc => by simp at hc, by simp⟩
 | cons c r ih =>
  intro acc u h
  unfold parseUint10 at h
  split at h
  ·rename_i hc
   split at h
   ·cases h
   ·split at h
    ·cases h
    ·obtain ⟨h1, h2⟩ := ih _ _ h
     refine ⟨fun d hd => ?_, ?_⟩
     ·rcases List.mem_cons.1 hd with rfl | q
      ·exact hc
      ·exact h1 d q
     ·rw [List.length_cons, Nat.pow_succ]
      refine Nat.le_trans ?_ h2
      rw [Nat.mul_comm (10 ^ r.length) 10, ← Nat.mul_assoc]
      exact Nat.mul_le_mul_right _ (Nat.le_add_right _ _)
  ·cases h
theorem atoi_open {c : UInt8} {r : List UInt8} (hc : 48 ≤ c.toNat ∧ c.toNat ≤ 57) : (if c.toNat = 43 ∨ c.toNat = 45 then r else c :: r) = c :: r ∧ parseMag (c :: r) = parseUint10 0 (c :: r) :=
 ⟨if_neg (by omega), by unfold parseMag; rw [if_neg (by simp)]⟩
theorem atoi_dig {c : UInt8} {r : List UInt8} (hc : 48 ≤ c.toNat ∧ c.toNat ≤ 57) {u : Nat} (hp : parseUint10 0 (c :: r) = .ok u) : atoiAll (c :: r) = if 9223372036854775808 ≤ u then .range else .ok (u : Int) := by
 have h2 : ¬ c.toNat = 45 := by omega
 unfold atoiAll
 dsimp only
 rw [(atoi_open hc).1, (atoi_open (r := r) hc).2, hp]
 dsimp only
 by_cases q : 9223372036854775808 ≤ u
 ·rw [if_pos ⟨h2, q⟩, if_pos q]
 ·rw [if_neg (fun t => q t.2), if_neg (fun t => h2 t.1), if_neg h2, if_neg q]
theorem atoi_digit {c : UInt8} {r : List UInt8} (hc : 48 ≤ c.toNat ∧ c.toNat ≤ 57) {n : Int} (h : atoiAll (c :: r) = .ok n) : ∃ u : Nat, n = u ∧ parseUint10 0 (c :: r) = .ok u := by
 cases hp : parseUint10 0 (c :: r)
 case ok u =>
  rw [atoi_dig hc hp] at h
  split at h
  ·cases h
  ·injection h with h
   exact ⟨u, h.symm, rfl⟩
 all_goals
  exfalso
  unfold atoiAll at h
  dsimp only at h
  rw [(atoi_open hc).1, (atoi_open (r := r) hc).2, hp] at h
  cases h
theorem expA_nil {x : ByteArray} (hx : x.data.toList = []) : expA x = none := by unfold expA; rw [hx]; rfl
theorem atoi_other {c : UInt8} {r : List UInt8} (hc : ¬ (48 ≤ c.toNat ∧ c.toNat ≤ 57)) (h : (c.toNat ≠ 43 ∧ c.toNat ≠ 45) ∨ r = []) (n : Int) : atoiAll (c :: r) ≠ .ok n := by
 unfold atoiAll
 by_cases hs : c.toNat = 43 ∨ c.toNat = 45
 ·obtain rfl := h.resolve_left (by omega)
  simp only [if_pos hs]
  unfold parseMag
  simp
 ·simp only [if_neg hs]
  unfold parseMag
  rw [if_neg (by simp)]
  unfold parseUint10
  rw [if_neg hc]
  simp
theorem expA_none {x : ByteArray} (h : ∀ n, atoiAll x.data.toList ≠ .ok n) : expA x = none := by
 unfold expA
 cases hp : atoiAll x.data.toList
 case ok n => exact absurd hp (h n)
 all_goals rfl
theorem bt_head {x : ByteArray} {c : UInt8} {r : List UInt8} (e : x.data.toList = c :: r) : bt x 0 = c.toNat ∧ x.size = r.length + 1 := by
 have hs : x.size = r.length + 1 := by show x.data.size = _; rw [← Array.length_toList, e]; simp
 refine ⟨?_, hs⟩
 rw [bt_get (by omega)]
 have : x.data.toList[0]? = some c := by rw [e]; rfl
 obtain ⟨hl, he⟩ := List.getElem?_eq_some_iff.1 this
 exact congrArg UInt8.toNat he
theorem bt_list {x : ByteArray} {j : Nat} (hj : j < x.size) : ∃ c, x.data.toList[j]? = some c ∧ c ∈ x.data.toList ∧ bt x j = c.toNat := by
 have hl : j < x.data.toList.length := by rw [Array.length_toList]; exact hj
 exact ⟨x.data.toList[j], List.getElem?_eq_getElem hl, List.getElem_mem hl, by rw [bt_get hj]; rfl⟩
theorem expA_word {k : Int} {x : ByteArray} (h : RightT k x) (hk : k ≠ 1) : expA x = none := by
  have h0 := h.1
  refine expA_none fun n => ?_
  cases e : x.data.toList with
  | nil => have : x.size = 0 := by show x.data.size = 0; rw [← Array.length_toList, e]; rfl
           omega
  | cons c r =>
    obtain ⟨hb, hs⟩ := bt_head e
    rcases right_kind h with ⟨-, q⟩ | ⟨q, -⟩ | ⟨-, q, hst⟩
    · have hd : ¬ (48 ≤ c.toNat ∧ c.toNat ≤ 57) := by
        intro hd
        have := (kindAt_digit (s := x) (i := 0)).2 ⟨h0, by omega, by omega⟩
        omega
      refine atoi_other hd (.inl ⟨fun hc => ?_, fun hc => ?_⟩) n
      · rw [kind_low h0 (by omega), hb, hc] at q; exact absurd q (by decide)
      · rw [kind_low h0 (by omega), hb, hc] at q; exact absurd q (by decide)
    · exact absurd q hk
    · have hd : ¬ (48 ≤ c.toNat ∧ c.toNat ≤ 57) := by
        intro hd
        have := (kindAt_digit (s := x) (i := 0)).2 ⟨h0, by omega, by omega⟩
        omega
      refine atoi_other hd ?_ n
      by_cases hr : r = []
      · exact .inr hr
      · left
        have hr1 : 0 < r.length := List.length_pos_iff.2 hr
        have hst1 : ∀ v : Nat, c.toNat = v → v < 128 → stepAt x 0 = 1 := by
          intro v hv hlt
          unfold stepAt
          rw [if_pos h0, (next_byte (by omega)).2]
        exact ⟨fun hc => by have := hst1 43 hc (by omega); omega, fun hc => by have := hst1 45 hc (by omega); omega⟩
theorem expA_number {x : ByteArray} (h : RightT 1 x) : expA x = if 0 ≤ expI x then some (expI x) else none := by
  have h0 := h.1
  obtain ⟨hk, hn⟩ : kindAt x 0 = 2 ∧ numB x = true := by
    rcases right_kind h with ⟨q, -⟩ | ⟨-, q⟩ | ⟨q, -⟩
    · exact absurd q (by decide)
    · exact q
    · exact absurd q (by decide)
  have hd0 := kindAt_digit.1 hk
  cases e : x.data.toList with
  | nil => have : x.size = 0 := by show x.data.size = 0; rw [← Array.length_toList, e]; rfl
           omega
  | cons c r =>
    obtain ⟨hb, hs⟩ := bt_head e
    have hc : 48 ≤ c.toNat ∧ c.toNat ≤ 57 := by omega
    by_cases s1 : x.size = 1
    · obtain rfl : r = [] := List.length_eq_zero_iff.1 (by omega)
      have hE : expI x = (c.toNat : Int) - 48 := by unfold expI; rw [if_pos s1, hb]
      rw [hE]
      have ea : atoiAll [c] = .ok ((c.toNat : Int) - 48) := by
        have ep : parseUint10 0 [c] = .ok (c.toNat - 48) := by
          unfold parseUint10
          rw [if_pos hc, if_neg (by omega), if_neg (by omega)]
          unfold parseUint10
          congr 1; omega
        rw [atoi_dig hc ep, if_neg (by omega)]
        congr 1
        omega
      unfold expA
      rw [e, ea, if_pos (by omega)]
      simp only
      rw [if_pos (by omega)]
    · cases r with
      | nil => simp at hs; omega
      | cons d r =>
        have hb1 : bt x 1 = d.toNat := by
          obtain ⟨c', hc1, -, hc3⟩ := bt_list (x := x) (j := 1) (by simp at hs; omega)
          rw [e] at hc1
          simp at hc1
          rw [hc3, hc1]
        by_cases s2 : x.size = 2 ∧ bt x 1 ≠ 124
        · obtain rfl : r = [] := List.length_eq_zero_iff.1 (by simp at hs; omega)
          have hcut : cutI x = x.size := by
            refine cutI_at (Nat.le_refl _) (fun j hj => ?_) (.inl rfl)
            rcases (show j = 0 ∨ j = 1 by omega) with rfl | rfl
            · omega
            · exact s2.2
          have hp : partB x = true := by unfold numB at hn; rw [if_pos hcut] at hn; exact hn
          unfold partB at hp
          simp only [Bool.and_eq_true, decide_eq_true_eq] at hp
          have hd1 := kindAt_digit.1 (digEnd_all x x.size 0 (by omega) 1 (by omega) (by omega))
          have hdd : 48 ≤ d.toNat ∧ d.toNat ≤ 57 := by omega
          have ea : atoiAll [c, d] = .ok (10 * ((c.toNat : Int) - 48) + (d.toNat - 48)) := by
            have ep : parseUint10 0 [c, d] = .ok (10 * (c.toNat - 48) + (d.toNat - 48)) := by
              unfold parseUint10
              rw [if_pos hc, if_neg (by omega), if_neg (by omega)]
              unfold parseUint10
              rw [if_pos hdd, if_neg (by omega), if_neg (by omega)]
              unfold parseUint10
              congr 1; omega
            rw [atoi_dig hc ep, if_neg (by omega)]
            congr 1
            omega
          unfold expA
          rw [e, ea]
          dsimp only
          by_cases h20 : 10 * ((c.toNat : Int) - 48) + d.toNat - 48 ≤ 20
          · have hE : expI x = 10 * ((c.toNat : Int) - 48) + d.toNat - 48 := by unfold expI; rw [if_neg s1, hb, hb1, if_pos ⟨s2.1, by omega, h20⟩]
            rw [hE, if_pos (by omega), if_pos (by omega)]
            congr 1
            omega
          · have hE : expI x = -1 := by unfold expI; rw [if_neg s1, hb, hb1, if_neg (fun q => h20 q.2.2)]
            rw [hE, if_neg (by omega), if_neg (by omega)]
        · have hE : expI x = -1 := by unfold expI; rw [if_neg s1, if_neg (fun q => s2 ⟨q.1, q.2.1⟩)]
          rw [hE, if_neg (by omega)]
          unfold expA
          cases ea : atoiAll x.data.toList
          case ok n =>
            simp only
            rw [if_neg]
            rw [e] at ea
            obtain ⟨u, rfl, hu⟩ := atoi_digit hc ea
            obtain ⟨hall, -⟩ := pu_digits _ _ _ hu
            have hnb : ∀ j, j < x.size → 48 ≤ bt x j ∧ bt x j ≤ 57 := by
              intro j hj
              obtain ⟨c', -, hm', hc3⟩ := bt_list hj
              rw [e] at hm'
              have := hall c' hm'
              omega
            have hs3 : 3 ≤ x.size := by
              rcases (show x.size = 2 ∨ 3 ≤ x.size by simp at hs; omega) with q | q
              · have := hnb 1 (by omega)
                exact absurd ⟨q, by omega⟩ s2
              · exact q
            have hcut : cutI x = x.size := by
              have t1 := cutI_told x
              have t2 := cutI_le x
              rcases Nat.lt_or_ge (cutI x) x.size with q | q
              · have := hnb _ q
                have := t1.2 q
                omega
              · omega
            have hp : partB x = true := by unfold numB at hn; rw [if_pos hcut] at hn; exact hn
            unfold partB at hp
            simp only [Bool.and_eq_true, Bool.or_eq_true, decide_eq_true_eq] at hp
            have hne : bt x 0 ≠ 48 := hp.2.resolve_left (by omega)
            unfold parseUint10 at hu
            rw [if_pos hc, if_neg (by omega), if_neg (by omega)] at hu
            obtain ⟨-, hge⟩ := pu_digits _ _ _ hu
            have hl : 2 ≤ (d :: r).length := by simp at hs ⊢; omega
            have h100 : 10 ^ 2 ≤ 10 ^ (d :: r).length := Nat.pow_le_pow_right (by omega) hl
            have h1c : 1 ≤ 0 * 10 + (c.toNat - 48) := by omega
            have := Nat.mul_le_mul h1c h100
            omega
          all_goals rfl
end
section
open Go.RowKit Go.Lib
def letterP (r : Int) : Prop := 97 ≤ r ∧ r ≤ 122 ∨ 65 ≤ r ∧ r ≤ 90 ∨ r = 95 ∨ 128 ≤ r ∧ r ≤ 1114111 ∧ r ≠ 65533
theorem sign_letter_yes (r : Int) (h : letterP r) (w : World) : Calls Tryz.prog 122 #[.int .i32 r] w fun e w' => e = .returned (.bool true) ∧ w = w' := by
 rcases h with ⟨g1, g2⟩ | ⟨g1, g2⟩ | rfl | ⟨g1, g2, g3⟩
 ·have g3 : ¬ 128 ≤ r := by omega
  go_enter Tryz.func122, Tryz.ntmps122
  go_wp2
  go_ret
  exact ⟨rfl, rfl⟩
 ·have g3 : ¬ 128 ≤ r := by omega
  have g4 : ¬ 97 ≤ r := by omega
  go_enter Tryz.func122, Tryz.ntmps122
  go_wp2
  go_ret
  exact ⟨rfl, rfl⟩
 ·go_enter Tryz.func122, Tryz.ntmps122
  go_wp2
  go_ret
  exact ⟨rfl, rfl⟩
 ·have g4 : (r != 65533) = true := by rw [bne_iff_ne]; exact g3
  clear g3
  go_enter Tryz.func122, Tryz.ntmps122
  go_wp2
  go_ret
  exact ⟨rfl, rfl⟩
theorem sign_letter_no (r : Int) (h : ¬ letterP r) (w : World) : Calls Tryz.prog 122 #[.int .i32 r] w fun e w' => e = .returned (.bool false) ∧ w = w' := by
 unfold letterP at h
 rcases (by omega : r < 65 ∨ (90 < r ∧ r < 97 ∧ r ≠ 95) ∨ (122 < r ∧ r < 128) ∨ r = 65533 ∨ 1114111 < r) with g | ⟨g1, g2, g3⟩ | ⟨g1, g2⟩ | rfl | g
 ·have g1 : ¬ 128 ≤ r := by omega
  have g2 : ¬ 97 ≤ r := by omega
  have g3 : ¬ 65 ≤ r := by omega
  have g4 : (r == 95) = false := by rw [beq_eq_false_iff_ne]; omega
  clear h
  go_enter Tryz.func122, Tryz.ntmps122
  go_wp2
  go_ret
  exact ⟨rfl, rfl⟩
 ·have k1 : ¬ 128 ≤ r := by omega
  have k2 : ¬ 97 ≤ r := by omega
  have k3 : ¬ r ≤ 90 := by omega
  have k5 : 65 ≤ r := by omega
  have k4 : (r == 95) = false := by rw [beq_eq_false_iff_ne]; omega
  clear h
  go_enter Tryz.func122, Tryz.ntmps122
  go_wp2
  go_ret
  exact ⟨rfl, rfl⟩
 ·have k1 : ¬ 128 ≤ r := by omega
  have k2 : 97 ≤ r := by omega
  have k3 : ¬ r ≤ 122 := by omega
  have k5 : 65 ≤ r := by omega
  have k6 : ¬ r ≤ 90 := by omega
  have k4 : (r == 95) = false := by rw [beq_eq_false_iff_ne]; omega
  clear h
  go_enter Tryz.func122, Tryz.ntmps122
  go_wp2
  go_ret
  exact ⟨rfl, rfl⟩
 ·clear h
  go_enter Tryz.func122, Tryz.ntmps122
  go_wp2
  go_ret
  exact ⟨rfl, rfl⟩
 ·have k1 : 128 ≤ r := by omega
  have k2 : ¬ r ≤ 1114111 := by omega
  clear h
  go_enter Tryz.func122, Tryz.ntmps122
  go_wp2
  go_ret
  exact ⟨rfl, rfl⟩
theorem kindI_letter {r : Int} (h : letterP r) : kindI r = 1 := if_pos h
theorem kindI_rest {r : Int} (h : ¬ letterP r) : kindI r = if 48 ≤ r ∧ r ≤ 57 then 2 else if r = 9 ∨ r = 10 ∨ r = 13 ∨ r = 32 then 3 else if r = 43 ∨ r = 45 ∨ r = 42 ∨ r = 47 ∨ r = 94 ∨ r = 40 ∨ r = 41 ∨ r = 61 ∨ r = 59 ∨ r = 44 then 4 else 0 := if_neg h
theorem sign_kind (r : Int) (k : Int) (hk : kindI r = k) (w : World) : Calls Tryz.prog 90 #[.int .i32 r] w fun e w' => e = .returned (.int .i64 k) ∧ w = w' := by
 by_cases hl : letterP r
 ·have L := fun v => sign_letter_yes r hl v
  obtain rfl : k = 1 := by rw [← hk]; exact kindI_letter hl
  clear hl hk
  go_enter Tryz.func90, Tryz.ntmps90
  go_wp2_with (go_at_call 122; (with_reducible refine Calls.mono (L _) ?_); rintro e v1 ⟨rfl, rfl⟩)
  go_ret
  exact ⟨rfl, rfl⟩
 have L := fun v => sign_letter_no r hl v
 have HK : Hid (kindI r = k) := hk
 rcases (by omega : (48 ≤ r ∧ r ≤ 57) ∨ r = 9 ∨ r = 10 ∨ r = 13 ∨ r = 32 ∨ r = 43 ∨ r = 45 ∨ r = 42 ∨ r = 47 ∨ r = 94 ∨ r = 40 ∨ r = 41 ∨ r = 61 ∨ r = 59 ∨ r = 44 ∨ (¬ (48 ≤ r ∧ r ≤ 57) ∧ r ≠ 9 ∧ r ≠ 10 ∧ r ≠ 13 ∧ r ≠ 32 ∧ r ≠ 43 ∧ r ≠ 45 ∧ r ≠ 42 ∧ r ≠ 47 ∧ r ≠ 94 ∧ r ≠ 40 ∧ r ≠ 41 ∧ r ≠ 61 ∧ r ≠ 59 ∧ r ≠ 44)) with ⟨g1, g2⟩ | rfl | rfl | rfl | rfl | rfl | rfl | rfl | rfl | rfl | rfl | rfl | rfl | rfl | rfl | ⟨g, n9, n10, n13, n32, n43, n45, n42, n47, n94, n40, n41, n61, n59, n44⟩
 ·obtain rfl : k = 2 := by
   rw [← HK.out, kindI_rest hl, if_pos ⟨g1, g2⟩]
  clear hl hk HK
  go_enter Tryz.func90, Tryz.ntmps90
  go_wp2_with (go_at_call 122; (with_reducible refine Calls.mono (L _) ?_); rintro e v1 ⟨rfl, rfl⟩)
  go_ret
  exact ⟨rfl, rfl⟩
 ·obtain rfl : k = 3 := by rw [← HK.out]; decide
  clear hl hk HK
  go_enter Tryz.func90, Tryz.ntmps90
  go_wp2_with (go_at_call 122; (with_reducible refine Calls.mono (L _) ?_); rintro e v1 ⟨rfl, rfl⟩)
  go_ret
  exact ⟨rfl, rfl⟩
 ·obtain rfl : k = 3 := by rw [← HK.out]; decide
  clear hl hk HK
  go_enter Tryz.func90, Tryz.ntmps90
  go_wp2_with (go_at_call 122; (with_reducible refine Calls.mono (L _) ?_); rintro e v1 ⟨rfl, rfl⟩)
  go_ret
  exact ⟨rfl, rfl⟩
 ·obtain rfl : k = 3 := by rw [← HK.out]; decide
  clear hl hk HK
  go_enter Tryz.func90, Tryz.ntmps90
  go_wp2_with (go_at_call 122; (with_reducible refine Calls.mono (L _) ?_); rintro e v1 ⟨rfl, rfl⟩)
  go_ret
  exact ⟨rfl, rfl⟩
 ·obtain rfl : k = 3 := by rw [← HK.out]; decide
  clear hl hk HK
  go_enter Tryz.func90, Tryz.ntmps90
  go_wp2_with (go_at_call 122; (with_reducible refine Calls.mono (L _) ?_); rintro e v1 ⟨rfl, rfl⟩)
  go_ret
  exact ⟨rfl, rfl⟩
 ·obtain rfl : k = 4 := by rw [← HK.out]; decide
  clear hl hk HK
  go_enter Tryz.func90, Tryz.ntmps90
  go_wp2_with (go_at_call 122; (with_reducible refine Calls.mono (L _) ?_); rintro e v1 ⟨rfl, rfl⟩)
  go_ret
  exact ⟨rfl, rfl⟩
 ·obtain rfl : k = 4 := by rw [← HK.out]; decide
  clear hl hk HK
  go_enter Tryz.func90, Tryz.ntmps90
  go_wp2_with (go_at_call 122; (with_reducible refine Calls.mono (L _) ?_); rintro e v1 ⟨rfl, rfl⟩)
  go_ret
  exact ⟨rfl, rfl⟩
 ·obtain rfl : k = 4 := by rw [← HK.out]; decide
  clear hl hk HK
  go_enter Tryz.func90, Tryz.ntmps90
  go_wp2_with (go_at_call 122; (with_reducible refine Calls.mono (L _) ?_); rintro e v1 ⟨rfl, rfl⟩)
  go_ret
  exact ⟨rfl, rfl⟩
 ·obtain rfl : k = 4 := by rw [← HK.out]; decide
  clear hl hk HK
  go_enter Tryz.func90, Tryz.ntmps90
  go_wp2_with (go_at_call 122; (with_reducible refine Calls.mono (L _) ?_); rintro e v1 ⟨rfl, rfl⟩)
  go_ret
  exact ⟨rfl, rfl⟩
 ·obtain rfl : k = 4 := by rw [← HK.out]; decide
  clear hl hk HK
  go_enter Tryz.func90, Tryz.ntmps90
  go_wp2_with (go_at_call 122; (with_reducible refine Calls.mono (L _) ?_); rintro e v1 ⟨rfl, rfl⟩)
  go_ret
  exact ⟨rfl, rfl⟩
 ·obtain rfl : k = 4 := by rw [← HK.out]; decide
  clear hl hk HK
  go_enter Tryz.func90, Tryz.ntmps90
  go_wp2_with (go_at_call 122; (with_reducible refine Calls.mono (L _) ?_); rintro e v1 ⟨rfl, rfl⟩)
  go_ret
  exact ⟨rfl, rfl⟩
 ·obtain rfl : k = 4 := by rw [← HK.out]; decide
  clear hl hk HK
  go_enter Tryz.func90, Tryz.ntmps90
  go_wp2_with (go_at_call 122; (with_reducible refine Calls.mono (L _) ?_); rintro e v1 ⟨rfl, rfl⟩)
  go_ret
  exact ⟨rfl, rfl⟩
 ·obtain rfl : k = 4 := by rw [← HK.out]; decide
  clear hl hk HK
  go_enter Tryz.func90, Tryz.ntmps90
  go_wp2_with (go_at_call 122; (with_reducible refine Calls.mono (L _) ?_); rintro e v1 ⟨rfl, rfl⟩)
  go_ret
  exact ⟨rfl, rfl⟩
 ·obtain rfl : k = 4 := by rw [← HK.out]; decide
  clear hl hk HK
  go_enter Tryz.func90, Tryz.ntmps90
  go_wp2_with (go_at_call 122; (with_reducible refine Calls.mono (L _) ?_); rintro e v1 ⟨rfl, rfl⟩)
  go_ret
  exact ⟨rfl, rfl⟩
 ·obtain rfl : k = 4 := by rw [← HK.out]; decide
  clear hl hk HK
  go_enter Tryz.func90, Tryz.ntmps90
  go_wp2_with (go_at_call 122; (with_reducible refine Calls.mono (L _) ?_); rintro e v1 ⟨rfl, rfl⟩)
  go_ret
  exact ⟨rfl, rfl⟩
 ·obtain rfl : k = 0 := by
   rw [← HK.out, kindI_rest hl, if_neg g, if_neg (by omega), if_neg (by omega)]
  have e9 : (r == 9) = false := by rw [beq_eq_false_iff_ne]; exact n9
  have e10 : (r == 10) = false := by rw [beq_eq_false_iff_ne]; exact n10
  have e13 : (r == 13) = false := by rw [beq_eq_false_iff_ne]; exact n13
  have e32 : (r == 32) = false := by rw [beq_eq_false_iff_ne]; exact n32
  have e43 : (r == 43) = false := by rw [beq_eq_false_iff_ne]; exact n43
  have e45 : (r == 45) = false := by rw [beq_eq_false_iff_ne]; exact n45
  have e42 : (r == 42) = false := by rw [beq_eq_false_iff_ne]; exact n42
  have e47 : (r == 47) = false := by rw [beq_eq_false_iff_ne]; exact n47
  have e94 : (r == 94) = false := by rw [beq_eq_false_iff_ne]; exact n94
  have e40 : (r == 40) = false := by rw [beq_eq_false_iff_ne]; exact n40
  have e41 : (r == 41) = false := by rw [beq_eq_false_iff_ne]; exact n41
  have e61 : (r == 61) = false := by rw [beq_eq_false_iff_ne]; exact n61
  have e59 : (r == 59) = false := by rw [beq_eq_false_iff_ne]; exact n59
  have e44 : (r == 44) = false := by rw [beq_eq_false_iff_ne]; exact n44
  clear hl hk HK
  rcases (by omega : r < 48 ∨ 57 < r) with q | q
  ·have q1 : ¬ 48 ≤ r := by omega
   clear g q n9 n10 n13 n32 n43 n45 n42 n47 n94 n40 n41 n61 n59 n44
   go_enter Tryz.func90, Tryz.ntmps90
   go_wp2_with (go_at_call 122; (with_reducible refine Calls.mono (L _) ?_); rintro e v1 ⟨rfl, rfl⟩)
   go_ret
   exact ⟨rfl, rfl⟩
  ·have q1 : 48 ≤ r := by omega
   have q2 : ¬ r ≤ 57 := by omega
   clear g q n9 n10 n13 n32 n43 n45 n42 n47 n94 n40 n41 n61 n59 n44
   go_enter Tryz.func90, Tryz.ntmps90
   go_wp2_with (go_at_call 122; (with_reducible refine Calls.mono (L _) ?_); rintro e v1 ⟨rfl, rfl⟩)
   go_ret
   exact ⟨rfl, rfl⟩
theorem sign_key (s : ByteArray) (r : Bool) (hr : keyB s = r) (w : World) : Calls Tryz.prog 89 #[.string s] w fun e w' => e = .returned (.bool r) ∧ w = w' := by
 unfold keyB at hr
 generalize h1 : (s.toList == [105, 110]) = b1 at hr
 generalize h2 : (s.toList == [108, 101, 116]) = b2 at hr
 generalize h3 : (s.toList == [111, 117, 116]) = b3 at hr
 subst hr
 cases b1 <;> cases b2 <;> cases b3
 all_goals
  go_enter Tryz.func89, Tryz.ntmps89
  go_wp2
  go_ret
  exact ⟨rfl, rfl⟩
theorem sign_behind (l c R : Int) (hl0 : 0 ≤ l) (hl : l < 10000000) (hc0 : 0 ≤ c) (hc : c < 10000000) (w : World) :
  Calls Tryz.prog 105 #[.agg #[.int .i64 l, .int .i64 c], .int .i32 R] w (AnsL w (if R = 10 then l + 1 else l, if R = 10 then 1 else c + 1)) := by
 have wl : wrap64 (l + 1) = l + 1 := by unfold wrap64; omega
 have wc : wrap64 (c + 1) = c + 1 := by unfold wrap64; omega
 clear hl0 hl hc0 hc
 by_cases h10 : R = 10
 ·have e10 : (R == 10) = true := by rw [beq_iff_eq]; exact h10
  rw [if_pos h10, if_pos h10]
  obtain ⟨B2, B4, bV, hb⟩ := boxes2 w #[.int .i64 l, .int .i64 c] #[.int .i64 (l + 1), .int .i64 1] 34 34
  obtain ⟨x0, x1, x2, x3⟩ := B2.cells2
  obtain ⟨y0, y1, y2, y3⟩ := B4.cells2
  clear h10 B2 B4
  go_enter Tryz.func105, Tryz.ntmps105
  go_wp2
  exact bodyPost_ret (v := .agg #[.int .i64 (l + 1), .int .i64 1]) (by simp [results, Tryz.results105, go_sem, y0, y1]) rfl ⟨rfl, bV⟩
 ·have e10 : (R == 10) = false := by rw [beq_eq_false_iff_ne]; exact h10
  rw [if_neg h10, if_neg h10]
  obtain ⟨B2, B4, bV, hb⟩ := boxes2 w #[.int .i64 l, .int .i64 c] #[.int .i64 l, .int .i64 (c + 1)] 34 34
  obtain ⟨x0, x1, x2, x3⟩ := B2.cells2
  obtain ⟨y0, y1, y2, y3⟩ := B4.cells2
  clear h10 B2 B4
  go_enter Tryz.func105, Tryz.ntmps105
  go_wp2
  exact bodyPost_ret (v := .agg #[.int .i64 l, .int .i64 (c + 1)]) (by simp [results, Tryz.results105, go_sem, y0, y1]) rfl ⟨rfl, bV⟩
end
section
open Go.RowKit Go.Lib
theorem Own.iterAt {W w : World} {v : Value} {n : Nat} {xs : List Int} (h : Own W w v n xs) {k : Nat} {s : ByteArray} {pos : Nat} (hk : w.heap[k]? = some (.stringIter s pos)) (hW : W.heap.size ≤ k) (pos' : Nat) :
  Own W (w.iterAt k s pos') v n xs := by
 refine ⟨⟨h.1.1, ?_⟩, below_iterAt h.2 hW s pos'⟩
 rcases h.1.2 with h0 | ⟨g, cap, cur, e, h1, hg, h2⟩
 ·exact .inl h0
 ·have hkg : g ≠ k := by
   intro e1
   rw [e1, hk] at hg
   cases hg
  exact .inr ⟨g, cap, cur, e, h1, (iterAt_other w k g s pos' hkg).trans hg, h2⟩
theorem iter_more {w w' : World} {k : Nat} {s : ByteArray} {pos : Nat} (hk : w.heap[k]? = some (.stringIter s pos)) (hb : Below w.heap.size w w') : w'.heap[k]? = some (.stringIter s pos) :=
 (hb.block k (Array.getElem?_eq_some_iff.1 hk).1).trans hk
theorem iter_new (w : World) (s : ByteArray) : (w.iter s 0).heap[w.heap.size]? = some (.stringIter s 0) := World.iter_heap w s 0
theorem below_iter (w : World) (s : ByteArray) (pos : Nat) : Below w.heap.size w (w.iter s pos) := (Below.refl _ w).alloc (Nat.le_refl _) _
theorem decode_not {s : ByteArray} {pos : Nat} (h : pos < s.size) {a b : Nat} (hb : b < 128) (hc : ¬ (a ≤ (s[pos]'h).toNat ∧ (s[pos]'h).toNat ≤ b)) : (Utf8.decode s pos).1 < a ∨ b < (Utf8.decode s pos).1 := by
 by_cases ha : (s[pos]'h).toNat < 128
 ·rw [decode_ascii s pos h ha]; dsimp only; omega
 ·have := (decode_high s pos h (by omega)).1; omega
end
section
open Go.RowKit Go.Lib
theorem ext_bt (s : ByteArray) (i : Nat) (hi : i ≤ s.size) (j : Nat) : bt (s.extract i s.size) j = bt s (i + j) := by
 have hz : (s.extract i s.size).size = s.size - i := by rw [ByteArray.size_extract]; omega
 by_cases h : i + j < s.size
 ·rw [bt_get (by omega), bt_get h, ByteArray.getElem_extract]
 ·unfold bt
  have e : s.size = s.data.size := rfl
  have e2 : (s.extract i s.size).size = (s.extract i s.size).data.size := rfl
  rw [bt_data, bt_data, getElem!_neg _ _ (by omega), getElem!_neg _ _ (by omega)]
theorem ext_next (s : ByteArray) (i : Nat) (hi : i ≤ s.size) (j : Nat) : nextR (s.extract i s.size) j = nextR s (i + j) ∧ nextN (s.extract i s.size) j = nextN s (i + j) := by
 have hz : (s.extract i s.size).size = s.size - i := by rw [ByteArray.size_extract]; omega
 have e : Utf8.decode (s.extract i s.size) j = Utf8.decode s (i + j) := by
  rw [decode_bt, decode_bt, ext_bt s i hi, ext_bt s i hi, ext_bt s i hi, ext_bt s i hi, hz, Nat.sub_sub]
  rfl
 unfold nextR nextN
 rw [e]; exact ⟨rfl, rfl⟩
theorem text_full {s : ByteArray} (h : 1 ≤ s.size) : (s.toList == []) = false := by
 rw [beq_eq_false_iff_ne, ByteArray.toList_eq]
 intro e
 have : s.data.toList.length = s.size := by simp
 rw [e] at this
 exact absurd this (by simp only [List.length_nil]; omega)
theorem sign_next (s : ByteArray) (i : Nat) (w : World) (hs : s.size ≤ 1000000) (hi : i < s.size) : Calls Tryz.prog 96 #[.string s, .int .i64 i] w fun e w' => e = .returned (.tuple #[.int .i32 (nextR s i), .int .i64 (nextN s i)]) ∧ Below w.heap.size w w' := by
 have k0 : ¬ (i : Int) < 0 := by omega
 have k1 : ¬ (s.size : Int) ≤ i := by omega
 have k2 : (i : Int) ≤ s.size := by omega
 have hz := next_size hi
 have hT : (s.extract i s.size).size = s.size - i := by rw [ByteArray.size_extract]; omega
 obtain ⟨hR, hN⟩ := ext_next s i (Nat.le_of_lt hi) 0
 rw [Nat.add_zero] at hR hN
 have HH : Hid (nextR (s.extract i s.size) 0 = nextR s i ∧ nextN (s.extract i s.size) 0 = nextN s i ∧ 1 ≤ nextN s i ∧ nextN s i ≤ (s.extract i s.size).size ∧ (s.extract i s.size).size ≤ 1000000) := ⟨hR, hN, hz.1, by omega, by omega⟩
 clear hR hN hz hT hs hi
 generalize nextR s i = R at *
 generalize nextN s i = M at *
 go_enter Tryz.func96, Tryz.ntmps96
 go_wp2
 generalize s.extract i s.size = u at *
 go_loopg [4] u.size (fun g s4 v => ∃ (pos : Nat) (x : Int), s4 = .int .i32 x ∧ pos + g = u.size ∧ v.heap[w.heap.size]? = some (.stringIter u pos) ∧ Below w.heap.size w v ∧ (pos = 0 ∨ pos = M ∧ x = R))
 case atStart => exact ⟨0, 0, rfl, by omega, iter_new w u, below_iter w u 0, .inl rfl⟩
 case round =>
  obtain ⟨pos, x, rfl, hg, hit, bw, hp⟩ := hrel
  obtain ⟨h1, h2, h3, h4, h5⟩ := HH.out
  rcases hp with rfl | ⟨rfl, rfl⟩
  ·have hnx : ∀ ty, (Instr.next (.pointer (some ⟨w.heap.size, 0, none⟩)) true ty).run Tryz.prog wr = .ok (.tuple #[.bool true, .int .i64 (0 : Nat), .int .i32 (nextR u 0)]) (wr.iterAt w.heap.size u (0 + nextN u 0)) := fun ty => run_next_any_at wr w.heap.size u 0 ty hit (by omega)
   have hi2 := iterAt_heap wr w.heap.size u 0 (0 + nextN u 0) hit
   have bw2 := below_iterAt bw (Nat.le_refl _) u (0 + nextN u 0)
   rw [h1, h2, Nat.zero_add] at hnx
   rw [h2, Nat.zero_add] at hi2 bw2
   generalize wr.iterAt w.heap.size u M = wi at *
   have HG : Hid (0 + gk = u.size) := hg
   clear hit bw h1 h2 h3 h4 h5 hg
   go_wp2
   have hg := HG.out
   obtain ⟨h1, h2, h3, h4, h5⟩ := HH.out
   go_roundg (u.size - M)
   case measure => omega
   case rel => exact ⟨M, R, rfl, by omega, hi2, bw2, .inr ⟨rfl, rfl⟩⟩
  ·rcases Nat.lt_or_ge pos u.size with hp | hp
   ·have hnx : ∀ ty, (Instr.next (.pointer (some ⟨w.heap.size, 0, none⟩)) true ty).run Tryz.prog wr = .ok (.tuple #[.bool true, .int .i64 pos, .int .i32 (nextR u pos)]) (wr.iterAt w.heap.size u (pos + nextN u pos)) := fun ty => run_next_any_at wr w.heap.size u pos ty hit hp
    have bw2 := below_iterAt bw (Nat.le_refl _) u (pos + nextN u pos)
    have k3 : 0 < (pos : Int) := by omega
    generalize wr.iterAt w.heap.size u (pos + nextN u pos) = wi at *
    clear hit bw h1 h2 h3 h4 h5 hg hp
    go_wp2
    go_ret2
    exact ⟨rfl, bw2⟩
   ·obtain rfl : pos = u.size := by omega
    have hnx : ∀ ty, (Instr.next (.pointer (some ⟨w.heap.size, 0, none⟩)) true ty).run Tryz.prog wr = .ok (.tuple #[.bool false]) wr := fun ty => run_next_end_at wr w.heap.size u u.size ty hit (Nat.lt_irrefl _)
    clear hit h1 h2 h3 h4 h5 hg hp
    go_wp2
    go_ret2
    exact ⟨rfl, bw⟩
theorem sign_name (s : ByteArray) (w : World) (hs : s.size ≤ 1000000) (r : Bool) (hr : nameB s = r) : Calls Tryz.prog 62 #[.string s] w fun e w' => e = .returned (.bool r) ∧ Below w.heap.size w w' := by
 have KY := fun v => sign_key s _ rfl v
 unfold nameB at hr
 rcases (by by_cases h1 : s.size < 1 <;> by_cases h2 : 40 < s.size <;> by_cases h3 : keyB s = true <;> simp [h1, h2, h3] : s.size < 1 ∨ (¬ s.size < 1 ∧ 40 < s.size) ∨ (¬ s.size < 1 ∧ ¬ 40 < s.size ∧ keyB s = true) ∨ (¬ s.size < 1 ∧ ¬ 40 < s.size ∧ keyB s = false)) with h | ⟨h, h2⟩ | ⟨h, h2, h3⟩ | ⟨h, h2, h3⟩
 ·have e0 : (s.toList == []) = true := by
   have : s.data.toList = [] := List.eq_nil_of_length_eq_zero ((show s.data.toList.length = s.size by simp).trans (by omega))
   rw [ByteArray.toList_eq, this]; rfl
  obtain rfl : r = false := by rw [← hr, decide_eq_false (by omega)]; rfl
  clear hr hs KY
  go_enter Tryz.func62, Tryz.ntmps62
  go_wp2
  go_ret
  exact ⟨rfl, Below.refl _ _⟩
 ·have e0 : (s.toList == []) = false := text_full (by omega)
  obtain rfl : r = false := by rw [← hr, decide_eq_false (by omega)]; rfl
  have k2 : 40 < (s.size : Int) := by omega
  clear hr hs KY
  go_enter Tryz.func62, Tryz.ntmps62
  go_wp2
  go_ret
  exact ⟨rfl, Below.refl _ _⟩
 ·have e0 : (s.toList == []) = false := text_full (by omega)
  obtain rfl : r = false := by rw [← hr, h3]; simp
  have k2 : ¬ 40 < (s.size : Int) := by omega
  rw [h3] at KY
  clear hr hs h3
  go_enter Tryz.func62, Tryz.ntmps62
  go_wp2_with (go_at_call 89; (with_reducible refine Calls.mono (KY _) ?_); rintro e v1 ⟨rfl, rfl⟩)
  go_ret
  exact ⟨rfl, Below.refl _ _⟩
 ·have e0 : (s.toList == []) = false := text_full (by omega)
  have k2 : ¬ 40 < (s.size : Int) := by omega
  have hF : nameF s (s.size + 1) 0 = r := by rw [← hr, h3, decide_eq_true (by omega : 1 ≤ s.size ∧ s.size ≤ 40)]; rfl
  have HF : Hid (nameF s (s.size + 1) 0 = r) := hF
  rw [h3] at KY
  clear hr h3 hF hs h h2
  go_enter Tryz.func62, Tryz.ntmps62
  go_wp2_with (go_at_call 89; (with_reducible refine Calls.mono (KY _) ?_); rintro e v1 ⟨rfl, rfl⟩)
  go_loopg [2] s.size (fun g s2 v => ∃ i : Nat, s2 = .bool false ∧ i + g = s.size ∧ v.heap[w.heap.size]? = some (.stringIter s i) ∧ Below w.heap.size w v ∧ nameF s (s.size + 1) i = r)
  case atStart => exact ⟨0, rfl, by omega, iter_new w s, below_iter w s 0, HF.out⟩
  case round =>
   obtain ⟨i, rfl, hg, hit, bw, hF⟩ := hrel
   clear HF KY
   have HF : Hid (nameF s (s.size + 1) i = r) := hF
   clear hF
   rcases Nat.lt_or_ge i s.size with hi | hi
   ·have hnx : ∀ ty, (Instr.next (.pointer (some ⟨w.heap.size, 0, none⟩)) true ty).run Tryz.prog wr = .ok (.tuple #[.bool true, .int .i64 i, .int .i32 (nextR s i)]) (wr.iterAt w.heap.size s (i + nextN s i)) := fun ty => run_next_any_at wr w.heap.size s i ty hit hi
    have hi2 := iterAt_heap wr w.heap.size s i (i + nextN s i) hit
    have bw2 := below_iterAt bw (Nat.le_refl _) s (i + nextN s i)
    have hz := next_size hi
    have HS : Hid (nameF s (s.size + 1) i = if (kindI (nextR s i) ≠ 1 ∧ kindI (nextR s i) ≠ 2) ∨ (kindI (nextR s i) = 2 ∧ i = 0) then false else nameF s (s.size + 1) (i + nextN s i)) := nameF_step hi
    have K1 := fun v => sign_kind (nextR s i) _ rfl v
    have hk := kindI_range (nextR s i)
    have HZ : Hid (1 ≤ nextN s i ∧ i + nextN s i ≤ s.size) := ⟨hz.1, hz.2.2⟩
    generalize wr.iterAt w.heap.size s (i + nextN s i) = wi at *
    generalize kindI (nextR s i) = k at *
    generalize nextR s i = R at *
    generalize nextN s i = M at *
    clear hz hit bw hi
    rcases (by omega : ((k = 0 ∨ k = 3 ∨ k = 4) ∨ (k = 2 ∧ i = 0)) ∨ (k = 1 ∨ (k = 2 ∧ i ≠ 0))) with hA | hB
    ·obtain rfl : r = false := by rw [← HF.out, HS.out, if_pos (by omega)]
     clear hk HS HF
     rcases hA with (rfl | rfl | rfl) | ⟨rfl, h0⟩
     all_goals
      (try (have e0 : ((i : Int) == 0) = true := by (rw [beq_iff_eq]; omega)); clear h0)
      go_wp2_with (go_at_call 90; (with_reducible refine Calls.mono (K1 _) ?_); rintro e v2 ⟨rfl, rfl⟩)
      go_ret
      exact ⟨rfl, bw2⟩
    ·have HR : Hid (nameF s (s.size + 1) (i + M) = r) := by show _ = _; rw [← HF.out, HS.out, if_neg (by omega)]
     clear hk HS HF
     rcases hB with rfl | ⟨rfl, h0⟩
     all_goals
      (try (have e0 : ((i : Int) == 0) = false := by (rw [beq_eq_false_iff_ne]; omega)); clear h0)
      go_wp2_with (go_at_call 90; (with_reducible refine Calls.mono (K1 _) ?_); rintro e v2 ⟨rfl, rfl⟩)
      have hZ := HZ.out
      go_roundg (s.size - (i + M))
      case measure => omega
      case rel => exact ⟨i + M, rfl, by omega, hi2, bw2, HR.out⟩
   ·have hnx : ∀ ty, (Instr.next (.pointer (some ⟨w.heap.size, 0, none⟩)) true ty).run Tryz.prog wr = .ok (.tuple #[.bool false]) wr := fun ty => run_next_end_at wr w.heap.size s i ty hit (by omega)
    obtain rfl : r = true := by rw [← HF.out, nameF_end (by omega)]
    clear HF hit
    go_wp2
    go_ret
    exact ⟨rfl, bw⟩
end
section
open Go.RowKit
theorem sign_nl (s : Bool) (m : Nat) : (s && decide (0 < nl m)) = decide (iv s m < 0) := by
 rw [iv_neg]
 congr 1
 rw [Bool.eq_iff_iff]; simp only [decide_eq_true_eq]
 constructor
 ·intro h; rcases Nat.eq_zero_or_pos m with e | e
  ·rw [e, nl_zero] at h; omega
  ·exact e
 ·exact nl_pos
theorem whole_signed (s : Bool) (a : Option Addr) (n c : Nat) (w : World) (r : Bool) (hr : (s && decide (0 < n)) = r) :
  Calls Tryz.prog 140 #[.bool s, .slice a n c] w fun e w' => e = .returned (.agg #[.bool r, .slice a n c]) ∧ Below w.heap.size w w' := by
 cases s
 case' false => obtain ⟨r', HR⟩ : ∃ r' : Bool, Hid (r = false) := ⟨false, by rw [← hr]; exact (rfl : false = false)⟩
 case' true => obtain ⟨r', HR⟩ : ∃ r' : Bool, Hid (r = decide (0 < n)) := ⟨false, by rw [← hr]; exact (rfl : decide (0 < n) = decide (0 < n))⟩
 all_goals
  clear hr
  have q := fun o => (Below.refl _ w).alloc (Nat.le_refl _) o
  go_enter Tryz.func140, Tryz.ntmps140
  go_wp2
  exact bodyPost_ret (v := .agg #[.bool r, .slice a n c]) (by simp [results, Tryz.results140, go_sem, HR.out]) rfl ⟨by rw [HR.out], q _⟩
theorem whole_fix {s : Bool} {a : Option Addr} {n c : Nat} {x : Int} {w : World} (h : RI w s a n c x) :
  Calls Tryz.prog 113 #[.agg #[.bool s, .slice a n c]] w (AnsI w x) := by
 obtain ⟨zs, h, hz, hn, rfl⟩ := h
 skip
 have T := fun v (hb : Below w.heap.size w v) => nat_trim' (h.below hb) hz (by omega) _ rfl
 unfold Ans at T
 have G := fun v a1 c1 => whole_signed (s) a1 (nl (val zs)) c1 v _ (sign_nl (s) (val zs))
 unfold AnsI
 rw [iv_abs]
 generalize decide (iv (s) (val zs) < 0) = r at G ⊢
 generalize val zs = N at T G ⊢
 clear h hz hn
 obtain ⟨b1, b2, bV, hs⟩ := boxes2 w #[.bool s, .slice a n c] #[.bool false, .slice none 0 0] 83 83
 go_enter Tryz.func113, Tryz.ntmps113
 go_wp2
 generalize (w.alloc (.cells #[.bool s, .slice a n c] 83)).alloc (.cells #[.bool false, .slice none 0 0] 83) = V at *
 have SO : ∀ v, Below V.heap.size V v → v.cell? ⟨w.heap.size, 0, none⟩ = some (.bool s) ∧ v.cell? ⟨w.heap.size, 1, none⟩ = some (.slice a n c) := fun v hb => ⟨(b1.more hb).cells2.1, (b1.more hb).cells2.2.1⟩
 have SR : ∀ v x y, Below V.heap.size V v → ((v.setCell ⟨w.heap.size + 1, 0, none⟩ x).setCell ⟨w.heap.size + 1, 1, none⟩ y).cell? ⟨w.heap.size, 0, none⟩ = some (.bool s) ∧ ((v.setCell ⟨w.heap.size + 1, 0, none⟩ x).setCell ⟨w.heap.size + 1, 1, none⟩ y).cell? ⟨w.heap.size, 1, none⟩ = some (.slice a n c) := fun v x y hb => ⟨(((b1.more hb).other (g := w.heap.size + 1) (i := 0) (by omega) x).other (g := w.heap.size + 1) (i := 1) (by omega) y).cells2.1, (((b1.more hb).other (g := w.heap.size + 1) (i := 0) (by omega) x).other (g := w.heap.size + 1) (i := 1) (by omega) y).cells2.2.1⟩
 have bs : Below V.heap.size V V.drew := (Below.refl _ _).drew
 go_region_held3 (fun v => v.cell? ⟨w.heap.size, 0, none⟩ = some (.bool s) ∧ v.cell? ⟨w.heap.size, 1, none⟩ = some (.slice a n c))
  (first | exact SO _ bs | exact SR _ _ _ bs)
  (first
  | (go_at_call 141; (with_reducible refine Calls.mono (T _ bV.drew) ?_); rintro e w1 ⟨a1, c1, rfl, o1⟩; replace bs := below_more bs o1.below)
  | (go_at_call 140; (with_reducible refine Calls.mono (G _ _ _) ?_); rintro e w2 ⟨rfl, d2⟩; replace bs := below_more bs d2; obtain ⟨y0, y1, f0, f1⟩ := (b2.more bs).cells2))
 have q := fun x y => ((o1.more d2).above bV.drew).set (k := w.heap.size + 1) (by omega) hs 0 x |>.set (k := w.heap.size + 1) (by omega) hs 1 y
 go_wp2
 exact bodyPost_ret (v := .agg #[.bool r, .slice a1 (nl N) c1]) (by simp [results, Tryz.results113, go_sem, y0, y1]) rfl ⟨a1, c1, rfl, (q _ _).own bV.size⟩
theorem whole_of (n : Int) (w : World) (h0 : -9223372036854775808 ≤ n) (h1 : n < 9223372036854775808) :
  Calls Tryz.prog 204 #[.int .i64 n] w (AnsI w n) := by
 obtain ⟨b1, bV, hs⟩ := boxes1 w #[.bool false, .slice none 0 0] 83
 have e0 := iv_self n
 have G := fun v a1 c1 => whole_signed (decide (n < 0)) a1 (nl n.natAbs) c1 v _ (by rw [sign_nl (decide (n < 0)) n.natAbs, e0])
 clear e0
 rcases Int.lt_or_le n 0 with h | h
 case' inl =>
  have O := fun v => nat_of (-n) v (by omega) (by omega)
  have e1 : IntKind.u64.wrap n = n + 18446744073709551616 := by simp [IntKind.wrap, IntKind.bits, IntKind.signed]; omega
  have e2 : IntKind.u64.wrap (0 - (n + 18446744073709551616)) = -n := by simp [IntKind.wrap, IntKind.bits, IntKind.signed]; omega
  have e3 : IntKind.u64.wrap (-(n + 18446744073709551616)) = -n := by simp [IntKind.wrap, IntKind.bits, IntKind.signed]; omega
  rw [show (-n).toNat = n.natAbs by omega] at O
  unfold AnsI
  rw [decide_eq_true h] at G ⊢
  obtain ⟨r, hr⟩ : ∃ r : Bool, r = true := ⟨_, rfl⟩
 case' inr =>
  have O := fun v => nat_of n v (by omega) (by omega)
  have e1 : IntKind.u64.wrap n = n := by simp [IntKind.wrap, IntKind.bits, IntKind.signed]; omega
  rw [show n.toNat = n.natAbs by omega] at O
  unfold AnsI
  rw [decide_eq_false (by omega : ¬ n < 0)] at G ⊢
  obtain ⟨r, hr⟩ : ∃ r : Bool, r = false := ⟨_, rfl⟩
 all_goals
  unfold Ans at O
  generalize n.natAbs = N at O G ⊢
  go_enter Tryz.func204, Tryz.ntmps204
  go_wp2_with (first
   | (go_at_call 86; (with_reducible refine Calls.mono (O _) ?_); rintro e w1 ⟨a1, c1, rfl, o1⟩)
   | (go_at_call 140; (with_reducible refine Calls.mono (G _ _ _) ?_); rintro e w2 ⟨rfl, d2⟩; obtain ⟨y0, y1, g0, g1⟩ := ((b1.more o1.below).more d2).cells2))
  have q := fun x y => (((o1.more d2).above bV).set (k := w.heap.size) (by omega) hs 0 x).set (k := w.heap.size) (by omega) hs 1 y
  exact bodyPost_ret (v := .agg #[.bool r, .slice a1 (nl N) c1]) (by simp [results, Tryz.results204, go_sem, y0, y1, hr]) rfl ⟨a1, c1, by rw [hr], (q _ _).own (by omega)⟩
end
section
open Go.RowKit
def ParseOk : Prop := ∀ (s : ByteArray) (w : World), s.size ≤ maxLen → Calls Tryz.prog 205 #[.string s] w (AnsP w (pnum s.data.toList) (perr s.data.toList))
def PrintOk : Prop := ∀ {a : Option Addr} {n c : Nat} {zs : List Int} {w : World}, IsWords w (.slice a n c) zs → Wd zs → n ≤ 1000000 → ∀ N : Nat, val zs = N →
    Calls Tryz.prog 87 #[.slice a n c] w fun e w' => e = .returned (.string ⟨(decOf N).toArray⟩) ∧ Below w.heap.size w w'
def DigitsOk : Prop := ∀ {a : Option Addr} {n c : Nat} {zs : List Int} {w : World}, IsWords w (.slice a n c) zs → Wd zs → n ≤ 1000000 → ∀ N : Nat, val zs = N →
    Calls Tryz.prog 182 #[.slice a n c] w fun e w' => e = .returned (.int .i64 ((decOf N).length : Nat)) ∧ Below w.heap.size w w'
end
end Go.Proofs.YtaeladkcmpdkhaaGreatDoor
