/-
  The walk of the statement SignLines, for whatever package sign keeps its contracts: it returns true; memory that was there stays.
-/
import Derived.Test.YtnmohojmoienbaaSignWalksA
namespace Go.Proofs.Ytnmohojmoienbaa
open Go.RowKit Go.Lib

theorem placeF_range (s : ByteArray) (at_ : Int) : ∀ f i l c, l ≤ (placeF s at_ f i l c).1 ∧ (placeF s at_ f i l c).1 ≤ l + f := by
  intro f
  induction f with
  | zero => intro i l c; exact ⟨Int.le_refl _, by show l ≤ l + ((0 : Nat) : Int); omega⟩
  | succ f ih =>
    intro i l c
    unfold placeF
    split
    · split
      · exact ⟨Int.le_refl _, by show l ≤ _; omega⟩
      · have := ih (i + nextN s i) (if nextR s i = 10 then l + 1 else l) (if nextR s i = 10 then 1 else c + 1)
        generalize placeF s at_ f (i + nextN s i) (if nextR s i = 10 then l + 1 else l) (if nextR s i = 10 then 1 else c + 1) = P at *
        split at this <;> omega
    · exact ⟨Int.le_refl _, by show l ≤ _; omega⟩
theorem wrap_small {x : Int} (h0 : 0 ≤ x) (h1 : x < 1000000) : wrap64 x = x := by unfold wrap64; omega
theorem wrap_two (L : Nat) (h : L ≤ 200) : wrap64 (1 + (L : Int) + 1) = 1 + (L : Int) + 1 := by unfold wrap64; omega
theorem wf_s16 {a : Int} (h : (Lit.int .u16 a).wf = true) : 0 ≤ a ∧ a < 65536 := by
  simp [Lit.wf, IntKind.min, IntKind.max, IntKind.signed, IntKind.bits] at h; omega

set_option maxHeartbeats 8000000 in
theorem walk_SignLines (K : SignOk) (s t : ByteArray) (a : Int) (w : World) (_hs : s.size ≤ maxLen) (_ht : t.size ≤ maxLen) (h0 : (Lit.int .u16 a).wf = true) :
    Calls Try.prog 8 #[.string s, .string t, .int .u16 a] w fun e w' => e = .returned (.bool true) ∧ Below w.heap.size w w' := by
  obtain ⟨a0, a1⟩ := wf_s16 h0
  have AW := fun v => sign_awake K v
  rcases (by omega : 200 < s.size ∨ (¬ 200 < s.size ∧ 200 < t.size) ∨ (¬ 200 < s.size ∧ ¬ 200 < t.size)) with h | ⟨h, h2⟩ | ⟨h, h2⟩
  · have k2 : 200 < (s.size : Int) := by omega
    clear _hs _ht h0 K
    go_enter Try.func8, Try.ntmps8
    go_wp2_with (go_at_call 10; (with_reducible refine Calls.mono (AW _) ?_); rintro e w1 ⟨rfl, b1⟩)
    go_ret
    exact ⟨rfl, b1⟩
  · have k2 : ¬ 200 < (s.size : Int) := by omega
    have k3 : 200 < (t.size : Int) := by omega
    clear _hs _ht h0 K
    go_enter Try.func8, Try.ntmps8
    go_wp2_with (go_at_call 10; (with_reducible refine Calls.mono (AW _) ?_); rintro e w1 ⟨rfl, b1⟩)
    go_ret
    exact ⟨rfl, b1⟩
  have k2 : ¬ 200 < (s.size : Int) := by omega
  have k3 : ¬ 200 < (t.size : Int) := by omega
  have hz : (s ++ ⟨#[10]⟩ ++ t).size = s.size + 1 + t.size := by rw [ByteArray.size_append, ByteArray.size_append]; rfl
  have c1 := fun v => K.place t a v (by omega) (by omega) (by omega)
  have c2 := fun v => K.place (s ++ ⟨#[10]⟩ ++ t) ((s.size : Int) + 1 + a) v (by omega) (by omega) (by omega)
  have hp := place_behind s t a a0
  rw [← ByteArray.append_assoc] at hp
  rw [hp] at c2
  have hr : 1 ≤ (placeI t a).1 ∧ (placeI t a).1 ≤ 1 + ((t.size + 1 : Nat) : Int) := placeF_range t a (t.size + 1) 0 1 1
  have hn := lines_le s s.size
  generalize hLL : lines s s.size = LL at *
  unfold AnsL at c1 c2
  generalize placeI t a = P at *
  obtain ⟨l, c⟩ := P
  dsimp only at c1 c2 hr
  have w1 : wrap64 a = a := wrap_small (by omega) (by omega)
  have w2 : wrap64 ((s.size : Int) + 1) = (s.size : Int) + 1 := wrap_small (by omega) (by omega)
  have w3 : wrap64 ((s.size : Int) + 1 + a) = (s.size : Int) + 1 + a := wrap_small (by omega) (by omega)
  have w4 : wrap64 (l + (1 + (LL : Int))) = l + (1 + (LL : Int)) := wrap_small (by omega) (by omega)
  clear _hs _ht h0 K hz hp hr hn a0 a1 h2
  have HH : Hid (¬ 200 < s.size) := h
  clear h
  go_enter Try.func8, Try.ntmps8
  go_wp2_with (go_at_call 10; (with_reducible refine Calls.mono (AW _) ?_); rintro e V ⟨rfl, b1⟩)
  go_loopg [8, 9] s.size (fun g s8 s9 v => ∃ i L : Nat, s8 = .int .i64 (1 + (L : Int)) ∧ s9 = .int .i64 i ∧ i + g = s.size ∧ L ≤ i ∧ lines s i = L ∧ V = v)
  case atStart => exact ⟨0, 0, rfl, rfl, by omega, Nat.le_refl _, rfl, rfl⟩
  case round =>
    obtain ⟨i, L, rfl, rfl, hg, hL, hE, rfl⟩ := hrel
    have HE : Hid (lines s i = L) := hE
    clear hE
    rcases Nat.lt_or_ge i s.size with hi | hi
    · have hi' : (i : Int) < s.size := by omega
      have hH := HH.out
      have v1 : wrap64 ((i : Int) + 1) = (i : Int) + 1 := wrap_small (by omega) (by omega)
      have v2 : wrap64 (1 + (L : Int) + 1) = 1 + (L : Int) + 1 := wrap_two L (Nat.le_trans hL (Nat.le_trans (Nat.le_of_lt hi) (Nat.not_lt.1 HH.out)))
      have hS : lines s (i + 1) = lines s i + (if bt s i = 10 then 1 else 0) := rfl
      rw [bt_get hi, HE.out] at hS
      clear hH c1 c2 AW w1 w2 w3 w4
      by_cases h10 : s[i].toNat = 10
      · have e10 : ((s[i].toNat : Int) == 10) = true := by rw [beq_iff_eq]; omega
        rw [if_pos h10] at hS
        have HS : Hid (lines s (i + 1) = L + 1) := hS
        clear hS h10 HE
        go_wp2
        go_roundg (s.size - (i + 1))
        case measure => omega
        case rel => exact ⟨i + 1, L + 1, by congr 1, by go_num, by omega, by omega, HS.out, rfl⟩
      · have e10 : ((s[i].toNat : Int) == 10) = false := by rw [beq_eq_false_iff_ne]; omega
        rw [if_neg h10] at hS
        have HS : Hid (lines s (i + 1) = L + 0) := hS
        clear hS h10 HE
        go_wp2
        go_roundg (s.size - (i + 1))
        case measure => omega
        case rel => exact ⟨i + 1, L, rfl, by go_num, by omega, by omega, HS.out, rfl⟩
    · have hi' : ¬ (i : Int) < s.size := by omega
      obtain rfl : i = s.size := by omega
      obtain rfl : LL = L := hLL.symm.trans HE.out
      clear hg hi HE hL
      go_wp2_with (first
        | (go_at_call 15; (with_reducible refine Calls.mono (c1 _) ?_); rintro e w2 ⟨rfl, b2⟩; have b3 := fun o => (below_more b1 b2).alloc (below_more b1 b2).size o; have BP := BoxC.new w2 #[.int .i64 l, .int .i64 c] 32)
        | (go_at_call 15; (with_reducible refine Calls.mono (c2 _) ?_); rintro e w3 ⟨rfl, b4⟩; have BQ := (BP.more b4); have x0 := fun o => (BQ.alloc o).cells2.1; have x1 := fun o => (BQ.alloc o).cells2.2.1; have b5 := fun o => (below_more (b3 _) b4).alloc (below_more (b3 _) b4).size o))
      go_ret
      exact ⟨by simp, b5 _⟩
end Go.Proofs.Ytnmohojmoienbaa
