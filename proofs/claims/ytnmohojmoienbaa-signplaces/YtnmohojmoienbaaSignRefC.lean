/-
  Contracts of the document's own answers of layer 9 (package talwegref09: Name, Place), at every text of up to a million bytes: memory that was there stays.
-/
import Derived.Test.YtnmohojmoienbaaSignRefB
import Derived.Test.YtnmohojmoienbaaSignKind
import Derived.Test.YtnmohojmoienbaaBoxes
import Derived.Deep.LoopGhost
namespace Go.Proofs.Ytnmohojmoienbaa
open Go.RowKit Go.Lib

theorem nameF_step {s : ByteArray} {i : Nat} (h : i < s.size) : nameF s (s.size + 1) i = if (kindI (nextR s i) ≠ 1 ∧ kindI (nextR s i) ≠ 2) ∨ (kindI (nextR s i) = 2 ∧ i = 0) then false else nameF s (s.size + 1) (i + nextN s i) := by
  have hn := next_size h
  show (if i < s.size then _ else _) = _
  rw [if_pos h, nameF_more s s.size (i + nextN s i) (by omega) (s.size + 1) (by omega)]
theorem nameF_end {s : ByteArray} {i : Nat} (h : ¬ i < s.size) : nameF s (s.size + 1) i = true := by
  show (if i < s.size then _ else _) = _
  rw [if_neg h]

set_option maxHeartbeats 4000000 in
theorem ref_sname {s : ByteArray} (hs : s.size ≤ 1000000) (r : Bool) (hr : nameB s = r) (w : World) :
    Calls Try.prog 18 #[.string s] w fun e w' => e = .returned (.bool r) ∧ w = w' := by
  have KY := fun v => ref_skey s _ rfl v
  have NX := fun i (h : i < s.size) v => ref_snext hs i h v
  unfold nameB at hr
  rcases (by by_cases h1 : s.size < 1 <;> by_cases h2 : 40 < s.size <;> by_cases h3 : keyB s = true <;> simp [h1, h2, h3] : s.size < 1 ∨ (¬ s.size < 1 ∧ 40 < s.size) ∨ (¬ s.size < 1 ∧ ¬ 40 < s.size ∧ keyB s = true) ∨ (¬ s.size < 1 ∧ ¬ 40 < s.size ∧ keyB s = false)) with h | ⟨h, h2⟩ | ⟨h, h2, h3⟩ | ⟨h, h2, h3⟩
  · obtain rfl : r = false := by rw [← hr, decide_eq_false (by omega)]; rfl
    have k1 : (s.size : Int) < 1 := by omega
    clear hr hs NX
    go_enter Try.func18, Try.ntmps18
    go_wp2
    go_ret
    exact ⟨rfl, rfl⟩
  · obtain rfl : r = false := by rw [← hr, decide_eq_false (by omega)]; rfl
    have k1 : ¬ (s.size : Int) < 1 := by omega
    have k2 : 40 < (s.size : Int) := by omega
    clear hr hs NX
    go_enter Try.func18, Try.ntmps18
    go_wp2
    go_ret
    exact ⟨rfl, rfl⟩
  · obtain rfl : r = false := by rw [← hr, h3]; simp
    have k1 : ¬ (s.size : Int) < 1 := by omega
    have k2 : ¬ 40 < (s.size : Int) := by omega
    rw [h3] at KY
    clear hr hs NX h3
    go_enter Try.func18, Try.ntmps18
    go_wp2_with (go_at_call 20; (with_reducible refine Calls.mono (KY _) ?_); rintro e v1 ⟨rfl, rfl⟩)
    go_ret
    exact ⟨rfl, rfl⟩
  · have k1 : ¬ (s.size : Int) < 1 := by omega
    have k2 : ¬ 40 < (s.size : Int) := by omega
    have hF : nameF s (s.size + 1) 0 = r := by rw [← hr, h3, decide_eq_true (by omega : 1 ≤ s.size ∧ s.size ≤ 40)]; rfl
    have HF : Hid (nameF s (s.size + 1) 0 = r) := hF
    rw [h3] at KY
    clear hr h3 hF hs h h2
    go_enter Try.func18, Try.ntmps18
    go_wp2_with (go_at_call 20; (with_reducible refine Calls.mono (KY _) ?_); rintro e v1 ⟨rfl, rfl⟩)
    go_loopg [3] s.size (fun g s3 v => ∃ i : Nat, s3 = .int .i64 i ∧ i + g = s.size ∧ nameF s (s.size + 1) i = r ∧ w = v)
    case atStart => exact ⟨0, rfl, by omega, HF.out, rfl⟩
    case round =>
      obtain ⟨i, rfl, hg, hF, rfl⟩ := hrel
      clear HF KY
      have HF : Hid (nameF s (s.size + 1) i = r) := hF
      clear hF
      rcases Nat.lt_or_ge i s.size with hi | hi
      · have hi' : (i : Int) < s.size := by omega
        have N1 := fun v => NX i hi v
        have hz := next_size hi
        have HS : Hid (nameF s (s.size + 1) i = if (kindI (nextR s i) ≠ 1 ∧ kindI (nextR s i) ≠ 2) ∨ (kindI (nextR s i) = 2 ∧ i = 0) then false else nameF s (s.size + 1) (i + nextN s i)) := nameF_step hi
        have K1 := fun v => ref_skind (nextR s i) _ rfl v
        have hk := kindI_range (nextR s i)
        have hw : wrap64 ((i : Int) + nextN s i) = (i : Int) + nextN s i := by unfold wrap64; omega
        have HZ : Hid (1 ≤ nextN s i ∧ i + nextN s i ≤ s.size) := ⟨hz.1, hz.2.2⟩
        generalize kindI (nextR s i) = k at *
        generalize nextR s i = R at *
        generalize nextN s i = M at *
        clear hz NX
        rcases (by omega : ((k = 0 ∨ k = 3 ∨ k = 4) ∨ (k = 2 ∧ i = 0)) ∨ (k = 1 ∨ (k = 2 ∧ i ≠ 0))) with hA | hB
        · obtain rfl : r = false := by rw [← HF.out, HS.out, if_pos (by omega)]
          clear hk HS HF
          rcases hA with (rfl | rfl | rfl) | ⟨rfl, h0⟩
          all_goals
            (try (have e0 : ((i : Int) == 0) = true := by (rw [beq_iff_eq]; omega)); clear h0)
            go_wp2_with (first
              | (go_at_call 14; (with_reducible refine Calls.mono (N1 _) ?_); rintro e v1 ⟨rfl, rfl⟩)
              | (go_at_call 12; (with_reducible refine Calls.mono (K1 _) ?_); rintro e v2 ⟨rfl, rfl⟩))
            go_ret
            exact ⟨rfl, rfl⟩
        · have HR : Hid (nameF s (s.size + 1) (i + M) = r) := by show _ = _; rw [← HF.out, HS.out, if_neg (by omega)]
          clear hk HS HF
          rcases hB with rfl | ⟨rfl, h0⟩
          all_goals
            (try (have e0 : ((i : Int) == 0) = false := by (rw [beq_eq_false_iff_ne]; omega)); clear h0)
            go_wp2_with (first
              | (go_at_call 14; (with_reducible refine Calls.mono (N1 _) ?_); rintro e v1 ⟨rfl, rfl⟩)
              | (go_at_call 12; (with_reducible refine Calls.mono (K1 _) ?_); rintro e v2 ⟨rfl, rfl⟩))
            have hZ := HZ.out
            go_roundg (s.size - (i + M))
            case measure => omega
            case rel => exact ⟨i + M, by go_num, by omega, HR.out, rfl⟩
      · have hi' : ¬ (i : Int) < s.size := by omega
        obtain rfl : r = true := by rw [← HF.out, nameF_end (by omega)]
        clear NX HF
        go_wp2
        go_ret
        exact ⟨rfl, rfl⟩
end Go.Proofs.Ytnmohojmoienbaa
