/-
  Texts of mine in build order. No conditions of their own.
-/
import Derived.Test.YtaeladkcmpdkhaaGreatDoorPack3
set_option maxHeartbeats 8000000
namespace Go.Proofs.YtaeladkcmpdkhaaGreatDoor
section
open Go.Lib
set_option maxRecDepth 100000 in
theorem decodeN_two {n b0 b1 b2 b3 : Nat} (h : 194 ≤ b0 ∧ b0 ≤ 223) (h1 : 1 < n ∧ 128 ≤ b1 ∧ b1 ≤ 191) : decodeN n b0 b1 b2 b3 = ((b0 - 192) * 64 + b1 % 64, 2) := by
 unfold decodeN; repeat' split
 all_goals first | (exfalso; omega) | (apply Prod.ext <;> simp only <;> omega)
set_option maxRecDepth 100000 in
theorem decodeN_three {n b0 b1 b2 b3 : Nat} (h : 224 ≤ b0 ∧ b0 ≤ 239) (h1 : 1 < n ∧ (if b0 = 224 then 160 else 128) ≤ b1 ∧ b1 ≤ (if b0 = 237 then 159 else 191)) (h2 : 2 < n ∧ 128 ≤ b2 ∧ b2 ≤ 191) :
  decodeN n b0 b1 b2 b3 = ((b0 - 224) * 4096 + b1 % 64 * 64 + b2 % 64, 3) := by
 unfold decodeN; repeat' split
 all_goals first | (exfalso; split at h1 <;> split at h1 <;> omega) | (apply Prod.ext <;> simp only <;> split at h1 <;> split at h1 <;> omega)
set_option maxRecDepth 100000 in
theorem decodeN_four {n b0 b1 b2 b3 : Nat} (h : 240 ≤ b0 ∧ b0 ≤ 244) (h1 : 1 < n ∧ (if b0 = 240 then 144 else 128) ≤ b1 ∧ b1 ≤ (if b0 = 244 then 143 else 191)) (h2 : 2 < n ∧ 128 ≤ b2 ∧ b2 ≤ 191) (h3 : 3 < n ∧ 128 ≤ b3 ∧ b3 ≤ 191) :
  decodeN n b0 b1 b2 b3 = ((b0 - 240) * 262144 + b1 % 64 * 4096 + b2 % 64 * 64 + b3 % 64, 4) := by
 unfold decodeN; repeat' split
 all_goals first | (exfalso; split at h1 <;> split at h1 <;> omega) | (apply Prod.ext <;> simp only <;> split at h1 <;> split at h1 <;> omega)
set_option maxRecDepth 100000 in
theorem decodeN_none {n b0 b1 b2 b3 : Nat} (hb : b0 < 256) (h0 : ¬ b0 < 128) (h2 : ¬ ((194 ≤ b0 ∧ b0 ≤ 223) ∧ (1 < n ∧ 128 ≤ b1 ∧ b1 ≤ 191)))
  (h3 : ¬ ((224 ≤ b0 ∧ b0 ≤ 239) ∧ (1 < n ∧ (if b0 = 224 then 160 else 128) ≤ b1 ∧ b1 ≤ (if b0 = 237 then 159 else 191)) ∧ (2 < n ∧ 128 ≤ b2 ∧ b2 ≤ 191)))
  (h4 : ¬ ((240 ≤ b0 ∧ b0 ≤ 244) ∧ (1 < n ∧ (if b0 = 240 then 144 else 128) ≤ b1 ∧ b1 ≤ (if b0 = 244 then 143 else 191)) ∧ (2 < n ∧ 128 ≤ b2 ∧ b2 ≤ 191) ∧ (3 < n ∧ 128 ≤ b3 ∧ b3 ≤ 191))) :
  decodeN n b0 b1 b2 b3 = (65533, 1) := by
 have e3 : ¬ (b0 = 224) ∨ b0 = 224 := by omega
 unfold decodeN
 split
 ·omega
 split
 ·split
  ·exfalso; omega
  ·rfl
 split
 ·split
  ·exfalso
   apply h3
   refine ⟨by omega, ⟨by omega, ?_, ?_⟩, by omega⟩
   ·split <;> omega
   ·split <;> omega
  ·rfl
 split
 ·split
  ·exfalso
   apply h4
   refine ⟨by omega, ⟨by omega, ?_, ?_⟩, by omega, by omega⟩
   ·split <;> omega
   ·split <;> omega
  ·rfl
 ·rfl
end
section
open Go.Lib
theorem bt_lt (s : ByteArray) (i : Nat) : bt s i < 256 := UInt8.toNat_lt _
end
section
open Go.Lib
theorem shifted (s t : ByteArray) : Shifted (s ++ (⟨#[10]⟩ ++ t)) t (s.size + 1) := by
 refine ⟨?_, fun j => ?_⟩
 ·rw [ByteArray.size_append, ByteArray.size_append]
  show s.size + (1 + t.size) = _
  omega
 ·rw [Nat.add_assoc, bt_append_right]
  have := bt_append_right ⟨#[10]⟩ t j
  rwa [show (⟨#[10]⟩ : ByteArray).size = 1 from rfl] at this
end
section
open Go.Lib
def beginF (l : List Nd) (s : Int) : Nat → Int → Int
 | 0, _ => s - 1
 | f + 1, i => if i < s then s - 1 else match l[i.toNat]? with
  | none => s - 1
  | some n => if n.kind = 0 ∨ n.kind = 1 then i
   else if n.kind = 6 ∨ n.kind = 7 then (if n.a ≠ i - 1 then s - 1 else beginF l s f n.a)
   else if n.b ≠ i - 1 then s - 1
   else if beginF l s f n.b < s ∨ n.a ≠ beginF l s f n.b - 1 then s - 1 else beginF l s f n.a
theorem begin_seg {l : List Nd} {b i : Nat} (h : Seg l b i) : ∀ (s : Nat), s ≤ b → ∀ f, i + 1 ≤ f → beginF l s f i = b := by
 refine (h (fun b i => Seg l b i ∧ ∀ (s : Nat), s ≤ b → ∀ f, i + 1 ≤ f → beginF l s f i = b) ?_ ?_ ?_).2
 ·intro i n hn hk
  refine ⟨Seg.leaf hn hk, fun s hs f hf => ?_⟩
  cases f with
  | zero => omega
  | succ f =>
   unfold beginF
   rw [if_neg (by omega), Int.toNat_natCast, hn]
   exact if_pos hk
 ·intro b i n ⟨hs, ih⟩ hn hk ha
  refine ⟨hs.one hn hk ha, fun s hsb f hf => ?_⟩
  have hle := hs.le
  cases f with
  | zero => omega
  | succ f =>
   unfold beginF
   rw [if_neg (by omega), Int.toNat_natCast, hn]
   show (if n.kind = 0 ∨ n.kind = 1 then _ else _) = _
   rw [if_neg (by omega), if_pos hk, if_neg (by rw [ha]; omega), ha]
   exact ih s hsb f (by omega)
 ·intro b j i n ⟨hs, ih⟩ ⟨ht, ih2⟩ hn h2 h5 ha hb
  refine ⟨hs.two ht hn h2 h5 ha hb, fun s hsb f hf => ?_⟩
  have hle := hs.le
  have hle2 := ht.le
  cases f with
  | zero => omega
  | succ f =>
   unfold beginF
   rw [if_neg (by omega), Int.toNat_natCast, hn]
   show (if n.kind = 0 ∨ n.kind = 1 then _ else _) = _
   rw [if_neg (by omega), if_neg (by omega), if_neg (by rw [hb]; omega), hb, ih2 s (by omega) f (by omega), if_neg (by rw [ha]; omega), ha]
   exact ih s hsb f (by omega)
theorem seg_begin {l : List Nd} (hk : ∀ n ∈ l, 0 ≤ n.kind ∧ n.kind ≤ 7) {s : Nat} : ∀ (f i b : Nat), beginF l s f i = b → s ≤ b → Seg l b i := by
 intro f
 induction f with
 | zero => intro i b h hb; unfold beginF at h; omega
 | succ f ih =>
  intro i b h hb
  unfold beginF at h
  split at h
  ·omega
  ·rename_i his
   rw [Int.toNat_natCast] at h
   cases hn : l[i]? with
   | none => rw [hn] at h; dsimp only at h; omega
   | some n =>
    rw [hn] at h
    dsimp only at h
    have hkn := hk n (List.mem_of_getElem? hn)
    by_cases k0 : n.kind = 0 ∨ n.kind = 1
    ·rw [if_pos k0] at h
     obtain rfl : i = b := by omega
     exact Seg.leaf hn k0
    rw [if_neg k0] at h
    by_cases k6 : n.kind = 6 ∨ n.kind = 7
    ·rw [if_pos k6] at h
     by_cases ha : n.a ≠ (i : Int) - 1
     ·rw [if_pos ha] at h; omega
     rw [if_neg ha] at h
     have ha' : n.a = (i : Int) - 1 := Decidable.not_not.1 ha
     cases i with
     | zero =>
      exfalso
      rw [ha'] at h
      cases f with
      | zero => unfold beginF at h; omega
      | succ f => unfold beginF at h; rw [if_pos (by omega)] at h; omega
     | succ i =>
      have ha2 : n.a = (i : Int) := by rw [ha']; omega
      rw [ha2] at h
      exact (ih i b h hb).one hn k6 ha2
    rw [if_neg k6] at h
    by_cases hbb : n.b ≠ (i : Int) - 1
    ·rw [if_pos hbb] at h; omega
    rw [if_neg hbb] at h
    have hb' : n.b = (i : Int) - 1 := Decidable.not_not.1 hbb
    by_cases hc : beginF l s f n.b < s ∨ n.a ≠ beginF l s f n.b - 1
    ·rw [if_pos hc] at h; omega
    rw [if_neg hc] at h
    have hge : ¬ beginF l s f n.b < s := fun e => hc (.inl e)
    have hea : n.a = beginF l s f n.b - 1 := Decidable.not_not.1 (fun e => hc (.inr e))
    cases i with
    | zero =>
     exfalso
     rw [hb'] at hge
     cases f with
     | zero => unfold beginF at hge; omega
     | succ f => unfold beginF at hge; rw [if_pos (by omega)] at hge; omega
    | succ i =>
     have hb2 : n.b = (i : Int) := by rw [hb']; omega
     rw [hb2] at hge hea
     obtain ⟨m, hm⟩ : ∃ m : Nat, beginF l s f (i : Int) = (m : Int) := ⟨(beginF l s f i).toNat, by omega⟩
     have ht := ih i m hm (by omega)
     rw [hm] at hea
     cases m with
     | zero =>
      exfalso
      rw [hea] at h
      cases f with
      | zero => unfold beginF at h; omega
      | succ f => unfold beginF at h; rw [if_pos (by omega)] at h; omega
     | succ j =>
      have ha2 : n.a = (j : Int) := by rw [hea]; omega
      rw [ha2] at h
      exact (ih j b h hb).two ht hn (by omega) (by omega) ha2 hb2
end
section
open Go.RowKit
theorem BoxC.grownC {w w' : World} {g : Nat} {cs : Array Value} {T : TypeId} {row : Option Nat} (h : BoxC w g cs T) (hg : w.grownBy w' row) (hne : row ≠ some g) : BoxC w' g cs T := by
 have := hg.block g h.lt (Ne.symm hne)
 unfold BoxC at h ⊢
 rw [this]; exact h
end
section
open Go.RowKit Go.Lib
theorem wrap_byte (b : UInt8) : wrap64 (b.toNat : Int) = b.toNat := by
 have := b.toNat_lt
 unfold wrap64; omega
theorem ref_sin {s : ByteArray} (i : Nat) (j : Int) (hj : (i : Int) = j) (lo hi : Int) (r : Bool) (hr : decide (i < s.size ∧ lo ≤ (bt s i : Int) ∧ (bt s i : Int) ≤ hi) = r) (w : World) :
  Calls Tryz.prog 73 #[.string s, .int .i64 j, .int .i64 lo, .int .i64 hi] w fun e w' => e = .returned (.bool r) ∧ w = w' := by
 subst hj
 rcases (by by_cases h : i < s.size <;> by_cases h2 : lo ≤ (bt s i : Int) <;> simp [h, h2] : (i < s.size ∧ lo ≤ (bt s i : Int)) ∨ (i < s.size ∧ ¬ lo ≤ (bt s i : Int)) ∨ ¬ i < s.size) with ⟨h, h2⟩ | ⟨h, h2⟩ | h
 case' inl =>
  rw [bt_get h] at hr h2
  have h1 : (i : Int) < s.size := by omega
  have hd : decide ((s[i].toNat : Int) ≤ hi) = r := by rw [← hr]; simp [h, h2]
 case' inr.inl =>
  rw [bt_get h] at hr h2
  have h1 : (i : Int) < s.size := by omega
  obtain rfl : r = false := by rw [← hr]; simp [h2]
 case' inr.inr =>
  have h1 : ¬ (i : Int) < s.size := by omega
  obtain rfl : r = false := by rw [← hr]; simp [h]
 all_goals
  clear hr
  (try have hw := wrap_byte s[i])
  go_enter Tryz.func73, Tryz.ntmps73
  go_wp2
  go_ret
  exact ⟨rfl, rfl⟩
theorem ref_slow {s : ByteArray} (i : Nat) (h : i < s.size) (j : Int) (hj : (i : Int) = j) (w : World) :
  Calls Tryz.prog 74 #[.string s, .int .i64 j] w fun e w' => e = .returned (.int .i64 ((bt s i % 64 : Nat) : Int)) ∧ w = w' := by
 subst hj
 have h1 : (i : Int) < s.size := by omega
 rw [bt_get h]
 have HM : Hid ((s[i].toNat : Int).tmod 64 = ((s[i].toNat % 64 : Nat) : Int)) := by
  show _ = _
  rw [Int.tmod_eq_emod_of_nonneg (by omega)]; omega
 have hw := wrap_byte s[i]
 go_enter Tryz.func74, Tryz.ntmps74
 go_wp2
 go_ret
 exact ⟨by first | rfl | rw [← HM.out], rfl⟩
def threeI (n b0 b1 b2 : Nat) : Int := if (224 ≤ b0 ∧ b0 ≤ 239) ∧ (1 < n ∧ (if b0 = 224 then 160 else 128) ≤ b1 ∧ b1 ≤ (if b0 = 237 then 159 else 191)) ∧ (2 < n ∧ 128 ≤ b2 ∧ b2 ≤ 191) then (((b0 - 224) * 4096 + b1 % 64 * 64 + b2 % 64 : Nat) : Int) else -1
theorem ref_three {s : ByteArray} (hs : s.size ≤ 1000000) (i : Nat) (h : i < s.size) (z : Int) (hz : threeI (s.size - i) (bt s i) (bt s (i + 1)) (bt s (i + 2)) = z) (w : World) :
    Calls Tryz.prog 75 #[.string s, .int .i64 i] w fun e w' => e = .returned (.int .i64 z) ∧ w = w' := by
  unfold threeI at hz
  have h1 : (i : Int) < s.size := by omega
  have hw := wrap_byte s[i]
  have hb := s[i].toNat_lt
  have w1 : wrap64 ((i : Int) + 1) = (i : Int) + 1 := by unfold wrap64; omega
  have w2 : wrap64 ((i : Int) + 2) = (i : Int) + 2 := by unfold wrap64; omega
  obtain ⟨r2, hr2⟩ : ∃ r, decide (i + 2 < s.size ∧ (128 : Int) ≤ (bt s (i + 2) : Int) ∧ (bt s (i + 2) : Int) ≤ 191) = r := ⟨_, rfl⟩
  have I2 := fun v => ref_sin (i + 2) ((i : Int) + 2) (by omega) 128 191 r2 hr2 v
  rw [bt_get h] at hz
  rcases (by omega : (s[i].toNat : Int) < 224 ∨ 239 < (s[i].toNat : Int) ∨ s[i].toNat = 224 ∨ s[i].toNat = 237 ∨ (224 ≤ s[i].toNat ∧ s[i].toNat ≤ 239 ∧ s[i].toNat ≠ 224 ∧ s[i].toNat ≠ 237)) with h3 | h3 | h3 | h3 | h3
  case' inl =>
    have e1 : ((s[i].toNat : Int) == 224) = false := by rw [beq_eq_false_iff_ne]; omega
    have e2 : ((s[i].toNat : Int) == 237) = false := by rw [beq_eq_false_iff_ne]; omega
    skip
    obtain rfl : z = -1 := by rw [← hz, if_neg (by omega)]
    clear hz hs hb
  case' inr.inl =>
    have e1 : ((s[i].toNat : Int) == 224) = false := by rw [beq_eq_false_iff_ne]; omega
    have e2 : ((s[i].toNat : Int) == 237) = false := by rw [beq_eq_false_iff_ne]; omega
    have h4 : ¬ (s[i].toNat : Int) < 224 := by omega
    obtain rfl : z = -1 := by rw [← hz, if_neg (by omega)]
    clear hz hs hb
  case' inr.inr.inl =>
    have h4 : ¬ (s[i].toNat : Int) < 224 := by omega
    have h5 : ¬ 239 < (s[i].toNat : Int) := by omega
    have e1 : ((s[i].toNat : Int) == 224) = true := by rw [beq_iff_eq]; omega
    have e2 : ((s[i].toNat : Int) == 237) = false := by rw [beq_eq_false_iff_ne]; omega
    obtain ⟨r1, hr1⟩ : ∃ r, decide (i + 1 < s.size ∧ (160 : Int) ≤ (bt s (i + 1) : Int) ∧ (bt s (i + 1) : Int) ≤ 191) = r := ⟨_, rfl⟩
    have I1 := fun v => ref_sin (i + 1) ((i : Int) + 1) (by omega) 160 191 r1 hr1 v
    have HZ : Hid (((r1 = true ∧ r2 = true) → z = ((((s[i].toNat - 224) * 4096 + bt s (i + 1) % 64 * 64 + bt s (i + 2) % 64 : Nat)) : Int)) ∧ (¬ (r1 = true ∧ r2 = true) → z = -1)) := by
      rw [← hr1, ← hr2]
      simp only [decide_eq_true_eq]
      simp only [h3, if_true, if_false, show ((224 : Nat) = 237) = False from eq_false (by decide)] at hz ⊢
      refine ⟨fun q => ?_, fun q => ?_⟩
      · rw [← hz, if_pos (by omega)]
      · rw [← hz, if_neg (by omega)]
    have HL1 : Hid (r1 = true → i + 1 < s.size) := fun e => (of_decide_eq_true (hr1.trans e)).1
    have HL2 : Hid (r2 = true → i + 2 < s.size) := fun e => (of_decide_eq_true (hr2.trans e)).1
    have HB : Hid (224 ≤ s[i].toNat ∧ s[i].toNat < 256) := ⟨by omega, by omega⟩
    clear hz hs hb h3 hr1 hr2
  case' inr.inr.inr.inl =>
    have h4 : ¬ (s[i].toNat : Int) < 224 := by omega
    have h5 : ¬ 239 < (s[i].toNat : Int) := by omega
    have e1 : ((s[i].toNat : Int) == 224) = false := by rw [beq_eq_false_iff_ne]; omega
    have e2 : ((s[i].toNat : Int) == 237) = true := by rw [beq_iff_eq]; omega
    obtain ⟨r1, hr1⟩ : ∃ r, decide (i + 1 < s.size ∧ (128 : Int) ≤ (bt s (i + 1) : Int) ∧ (bt s (i + 1) : Int) ≤ 159) = r := ⟨_, rfl⟩
    have I1 := fun v => ref_sin (i + 1) ((i : Int) + 1) (by omega) 128 159 r1 hr1 v
    have HZ : Hid (((r1 = true ∧ r2 = true) → z = ((((s[i].toNat - 224) * 4096 + bt s (i + 1) % 64 * 64 + bt s (i + 2) % 64 : Nat)) : Int)) ∧ (¬ (r1 = true ∧ r2 = true) → z = -1)) := by
      rw [← hr1, ← hr2]
      simp only [decide_eq_true_eq]
      simp only [h3, if_true, if_false, show ((237 : Nat) = 224) = False from eq_false (by decide)] at hz ⊢
      refine ⟨fun q => ?_, fun q => ?_⟩
      · rw [← hz, if_pos (by omega)]
      · rw [← hz, if_neg (by omega)]
    have HL1 : Hid (r1 = true → i + 1 < s.size) := fun e => (of_decide_eq_true (hr1.trans e)).1
    have HL2 : Hid (r2 = true → i + 2 < s.size) := fun e => (of_decide_eq_true (hr2.trans e)).1
    have HB : Hid (224 ≤ s[i].toNat ∧ s[i].toNat < 256) := ⟨by omega, by omega⟩
    clear hz hs hb h3 hr1 hr2
  case' inr.inr.inr.inr =>
    have h4 : ¬ (s[i].toNat : Int) < 224 := by omega
    have h5 : ¬ 239 < (s[i].toNat : Int) := by omega
    have e1 : ((s[i].toNat : Int) == 224) = false := by rw [beq_eq_false_iff_ne]; omega
    have e2 : ((s[i].toNat : Int) == 237) = false := by rw [beq_eq_false_iff_ne]; omega
    obtain ⟨r1, hr1⟩ : ∃ r, decide (i + 1 < s.size ∧ (128 : Int) ≤ (bt s (i + 1) : Int) ∧ (bt s (i + 1) : Int) ≤ 191) = r := ⟨_, rfl⟩
    have I1 := fun v => ref_sin (i + 1) ((i : Int) + 1) (by omega) 128 191 r1 hr1 v
    have HZ : Hid (((r1 = true ∧ r2 = true) → z = ((((s[i].toNat - 224) * 4096 + bt s (i + 1) % 64 * 64 + bt s (i + 2) % 64 : Nat)) : Int)) ∧ (¬ (r1 = true ∧ r2 = true) → z = -1)) := by
      rw [← hr1, ← hr2]
      simp only [decide_eq_true_eq]
      simp only [h3.2.2.1, h3.2.2.2, if_false] at hz
      refine ⟨fun q => ?_, fun q => ?_⟩
      · rw [← hz, if_pos (by omega)]
      · rw [← hz, if_neg (by omega)]
    have HL1 : Hid (r1 = true → i + 1 < s.size) := fun e => (of_decide_eq_true (hr1.trans e)).1
    have HL2 : Hid (r2 = true → i + 2 < s.size) := fun e => (of_decide_eq_true (hr2.trans e)).1
    have HB : Hid (224 ≤ s[i].toNat ∧ s[i].toNat < 256) := ⟨by omega, by omega⟩
    clear hz hs hb h3 hr1 hr2
  case' inl | inr.inl =>
    go_enter Tryz.func75, Tryz.ntmps75
    go_wp2
    go_ret
    exact ⟨rfl, rfl⟩
  all_goals
    cases r1
    case' false => obtain rfl := HZ.out.2 (by simp)
    case' true => cases r2
    case' true.false => obtain rfl := HZ.out.2 (by simp)
    case' true.true =>
      obtain rfl := HZ.out.1 (by simp)
      have L1 := fun v => ref_slow (i + 1) (HL1.out rfl) ((i : Int) + 1) (by omega) v
      have L2 := fun v => ref_slow (i + 2) (HL2.out rfl) ((i : Int) + 2) (by omega) v
    all_goals
      go_enter Tryz.func75, Tryz.ntmps75
      go_wp2_with (first
        | (go_at_call 73; (with_reducible refine Calls.mono (I1 _) ?_); rintro e v1 ⟨rfl, rfl⟩)
        | (go_at_call 73; (with_reducible refine Calls.mono (I2 _) ?_); rintro e v2 ⟨rfl, rfl⟩)
        | (go_at_call 74; (with_reducible refine Calls.mono (L1 _) ?_); rintro e u1 ⟨rfl, rfl⟩)
        | (go_at_call 74; (with_reducible refine Calls.mono (L2 _) ?_); rintro e u2 ⟨rfl, rfl⟩))
      go_ret
      first
        | exact ⟨rfl, rfl⟩
        | (refine ⟨?_, rfl⟩
           have hB := HB.out
           have l1 : bt s (i + 1) % 64 < 64 := Nat.mod_lt _ (by omega)
           have l2 : bt s (i + 2) % 64 < 64 := Nat.mod_lt _ (by omega)
           show Ending.returned (.int .i64 _) = .returned (.int .i64 _)
           congr 2
           (try unfold wrap64)
           omega)
def fourI (n b0 b1 b2 b3 : Nat) : Int := if (240 ≤ b0 ∧ b0 ≤ 244) ∧ (1 < n ∧ (if b0 = 240 then 144 else 128) ≤ b1 ∧ b1 ≤ (if b0 = 244 then 143 else 191)) ∧ (2 < n ∧ 128 ≤ b2 ∧ b2 ≤ 191) ∧ (3 < n ∧ 128 ≤ b3 ∧ b3 ≤ 191) then (((b0 - 240) * 262144 + b1 % 64 * 4096 + b2 % 64 * 64 + b3 % 64 : Nat) : Int) else -1
theorem ref_four {s : ByteArray} (hs : s.size ≤ 1000000) (i : Nat) (h : i < s.size) (z : Int) (hz : fourI (s.size - i) (bt s i) (bt s (i + 1)) (bt s (i + 2)) (bt s (i + 3)) = z) (w : World) :
    Calls Tryz.prog 76 #[.string s, .int .i64 i] w fun e w' => e = .returned (.int .i64 z) ∧ w = w' := by
  unfold fourI at hz
  have h1 : (i : Int) < s.size := by omega
  have hw := wrap_byte s[i]
  have hb := s[i].toNat_lt
  have w1 : wrap64 ((i : Int) + 1) = (i : Int) + 1 := by unfold wrap64; omega
  have w2 : wrap64 ((i : Int) + 2) = (i : Int) + 2 := by unfold wrap64; omega
  have w3 : wrap64 ((i : Int) + 3) = (i : Int) + 3 := by unfold wrap64; omega
  obtain ⟨r2, hr2⟩ : ∃ r, decide (i + 2 < s.size ∧ (128 : Int) ≤ (bt s (i + 2) : Int) ∧ (bt s (i + 2) : Int) ≤ 191) = r := ⟨_, rfl⟩
  have I2 := fun v => ref_sin (i + 2) ((i : Int) + 2) (by omega) 128 191 r2 hr2 v
  obtain ⟨r3, hr3⟩ : ∃ r, decide (i + 3 < s.size ∧ (128 : Int) ≤ (bt s (i + 3) : Int) ∧ (bt s (i + 3) : Int) ≤ 191) = r := ⟨_, rfl⟩
  have I3 := fun v => ref_sin (i + 3) ((i : Int) + 3) (by omega) 128 191 r3 hr3 v
  rw [bt_get h] at hz
  rcases (by omega : (s[i].toNat : Int) < 240 ∨ 244 < (s[i].toNat : Int) ∨ s[i].toNat = 240 ∨ s[i].toNat = 244 ∨ (240 ≤ s[i].toNat ∧ s[i].toNat ≤ 244 ∧ s[i].toNat ≠ 240 ∧ s[i].toNat ≠ 244)) with h3 | h3 | h3 | h3 | h3
  case' inl =>
    have e1 : ((s[i].toNat : Int) == 240) = false := by rw [beq_eq_false_iff_ne]; omega
    have e2 : ((s[i].toNat : Int) == 244) = false := by rw [beq_eq_false_iff_ne]; omega
    skip
    obtain rfl : z = -1 := by rw [← hz, if_neg (by omega)]
    clear hz hs hb
  case' inr.inl =>
    have e1 : ((s[i].toNat : Int) == 240) = false := by rw [beq_eq_false_iff_ne]; omega
    have e2 : ((s[i].toNat : Int) == 244) = false := by rw [beq_eq_false_iff_ne]; omega
    have h4 : ¬ (s[i].toNat : Int) < 240 := by omega
    obtain rfl : z = -1 := by rw [← hz, if_neg (by omega)]
    clear hz hs hb
  case' inr.inr.inl =>
    have h4 : ¬ (s[i].toNat : Int) < 240 := by omega
    have h5 : ¬ 244 < (s[i].toNat : Int) := by omega
    have e1 : ((s[i].toNat : Int) == 240) = true := by rw [beq_iff_eq]; omega
    have e2 : ((s[i].toNat : Int) == 244) = false := by rw [beq_eq_false_iff_ne]; omega
    obtain ⟨r1, hr1⟩ : ∃ r, decide (i + 1 < s.size ∧ (144 : Int) ≤ (bt s (i + 1) : Int) ∧ (bt s (i + 1) : Int) ≤ 191) = r := ⟨_, rfl⟩
    have I1 := fun v => ref_sin (i + 1) ((i : Int) + 1) (by omega) 144 191 r1 hr1 v
    have HZ : Hid (((r1 = true ∧ r2 = true ∧ r3 = true) → z = ((((s[i].toNat - 240) * 262144 + bt s (i + 1) % 64 * 4096 + bt s (i + 2) % 64 * 64 + bt s (i + 3) % 64 : Nat)) : Int)) ∧ (¬ (r1 = true ∧ r2 = true ∧ r3 = true) → z = -1)) := by
      rw [← hr1, ← hr2, ← hr3]
      simp only [decide_eq_true_eq]
      simp only [h3, if_true, if_false, show ((240 : Nat) = 244) = False from eq_false (by decide)] at hz ⊢
      refine ⟨fun q => ?_, fun q => ?_⟩
      · rw [← hz, if_pos (by omega)]
      · rw [← hz, if_neg (by omega)]
    have HL1 : Hid (r1 = true → i + 1 < s.size) := fun e => (of_decide_eq_true (hr1.trans e)).1
    have HL2 : Hid (r2 = true → i + 2 < s.size) := fun e => (of_decide_eq_true (hr2.trans e)).1
    have HL3 : Hid (r3 = true → i + 3 < s.size) := fun e => (of_decide_eq_true (hr3.trans e)).1
    have HB : Hid (240 ≤ s[i].toNat ∧ s[i].toNat < 256) := ⟨by omega, by omega⟩
    clear hz hs hb h3 hr1 hr2 hr3
  case' inr.inr.inr.inl =>
    have h4 : ¬ (s[i].toNat : Int) < 240 := by omega
    have h5 : ¬ 244 < (s[i].toNat : Int) := by omega
    have e1 : ((s[i].toNat : Int) == 240) = false := by rw [beq_eq_false_iff_ne]; omega
    have e2 : ((s[i].toNat : Int) == 244) = true := by rw [beq_iff_eq]; omega
    obtain ⟨r1, hr1⟩ : ∃ r, decide (i + 1 < s.size ∧ (128 : Int) ≤ (bt s (i + 1) : Int) ∧ (bt s (i + 1) : Int) ≤ 143) = r := ⟨_, rfl⟩
    have I1 := fun v => ref_sin (i + 1) ((i : Int) + 1) (by omega) 128 143 r1 hr1 v
    have HZ : Hid (((r1 = true ∧ r2 = true ∧ r3 = true) → z = ((((s[i].toNat - 240) * 262144 + bt s (i + 1) % 64 * 4096 + bt s (i + 2) % 64 * 64 + bt s (i + 3) % 64 : Nat)) : Int)) ∧ (¬ (r1 = true ∧ r2 = true ∧ r3 = true) → z = -1)) := by
      rw [← hr1, ← hr2, ← hr3]
      simp only [decide_eq_true_eq]
      simp only [h3, if_true, if_false, show ((244 : Nat) = 240) = False from eq_false (by decide)] at hz ⊢
      refine ⟨fun q => ?_, fun q => ?_⟩
      · rw [← hz, if_pos (by omega)]
      · rw [← hz, if_neg (by omega)]
    have HL1 : Hid (r1 = true → i + 1 < s.size) := fun e => (of_decide_eq_true (hr1.trans e)).1
    have HL2 : Hid (r2 = true → i + 2 < s.size) := fun e => (of_decide_eq_true (hr2.trans e)).1
    have HL3 : Hid (r3 = true → i + 3 < s.size) := fun e => (of_decide_eq_true (hr3.trans e)).1
    have HB : Hid (240 ≤ s[i].toNat ∧ s[i].toNat < 256) := ⟨by omega, by omega⟩
    clear hz hs hb h3 hr1 hr2 hr3
  case' inr.inr.inr.inr =>
    have h4 : ¬ (s[i].toNat : Int) < 240 := by omega
    have h5 : ¬ 244 < (s[i].toNat : Int) := by omega
    have e1 : ((s[i].toNat : Int) == 240) = false := by rw [beq_eq_false_iff_ne]; omega
    have e2 : ((s[i].toNat : Int) == 244) = false := by rw [beq_eq_false_iff_ne]; omega
    obtain ⟨r1, hr1⟩ : ∃ r, decide (i + 1 < s.size ∧ (128 : Int) ≤ (bt s (i + 1) : Int) ∧ (bt s (i + 1) : Int) ≤ 191) = r := ⟨_, rfl⟩
    have I1 := fun v => ref_sin (i + 1) ((i : Int) + 1) (by omega) 128 191 r1 hr1 v
    have HZ : Hid (((r1 = true ∧ r2 = true ∧ r3 = true) → z = ((((s[i].toNat - 240) * 262144 + bt s (i + 1) % 64 * 4096 + bt s (i + 2) % 64 * 64 + bt s (i + 3) % 64 : Nat)) : Int)) ∧ (¬ (r1 = true ∧ r2 = true ∧ r3 = true) → z = -1)) := by
      rw [← hr1, ← hr2, ← hr3]
      simp only [decide_eq_true_eq]
      simp only [h3.2.2.1, h3.2.2.2, if_false] at hz
      refine ⟨fun q => ?_, fun q => ?_⟩
      · rw [← hz, if_pos (by omega)]
      · rw [← hz, if_neg (by omega)]
    have HL1 : Hid (r1 = true → i + 1 < s.size) := fun e => (of_decide_eq_true (hr1.trans e)).1
    have HL2 : Hid (r2 = true → i + 2 < s.size) := fun e => (of_decide_eq_true (hr2.trans e)).1
    have HL3 : Hid (r3 = true → i + 3 < s.size) := fun e => (of_decide_eq_true (hr3.trans e)).1
    have HB : Hid (240 ≤ s[i].toNat ∧ s[i].toNat < 256) := ⟨by omega, by omega⟩
    clear hz hs hb h3 hr1 hr2 hr3
  case' inl | inr.inl =>
    go_enter Tryz.func76, Tryz.ntmps76
    go_wp2
    go_ret
    exact ⟨rfl, rfl⟩
  all_goals
    cases r1
    case' false => obtain rfl := HZ.out.2 (by simp)
    case' true => cases r2
    case' true.false => obtain rfl := HZ.out.2 (by simp)
    case' true.true => cases r3
    case' true.true.false => obtain rfl := HZ.out.2 (by simp)
    case' true.true.true =>
      obtain rfl := HZ.out.1 (by simp)
      have L1 := fun v => ref_slow (i + 1) (HL1.out rfl) ((i : Int) + 1) (by omega) v
      have L2 := fun v => ref_slow (i + 2) (HL2.out rfl) ((i : Int) + 2) (by omega) v
      have L3 := fun v => ref_slow (i + 3) (HL3.out rfl) ((i : Int) + 3) (by omega) v
    all_goals
      go_enter Tryz.func76, Tryz.ntmps76
      go_wp2_with (first
        | (go_at_call 73; (with_reducible refine Calls.mono (I1 _) ?_); rintro e v1 ⟨rfl, rfl⟩)
        | (go_at_call 73; (with_reducible refine Calls.mono (I2 _) ?_); rintro e v2 ⟨rfl, rfl⟩)
        | (go_at_call 73; (with_reducible refine Calls.mono (I3 _) ?_); rintro e v3 ⟨rfl, rfl⟩)
        | (go_at_call 74; (with_reducible refine Calls.mono (L1 _) ?_); rintro e u1 ⟨rfl, rfl⟩)
        | (go_at_call 74; (with_reducible refine Calls.mono (L2 _) ?_); rintro e u2 ⟨rfl, rfl⟩)
        | (go_at_call 74; (with_reducible refine Calls.mono (L3 _) ?_); rintro e u3 ⟨rfl, rfl⟩))
      go_ret
      first
        | exact ⟨rfl, rfl⟩
        | (refine ⟨?_, rfl⟩
           have hB := HB.out
           have l1 : bt s (i + 1) % 64 < 64 := Nat.mod_lt _ (by omega)
           have l2 : bt s (i + 2) % 64 < 64 := Nat.mod_lt _ (by omega)
           have l3 : bt s (i + 3) % 64 < 64 := Nat.mod_lt _ (by omega)
           show Ending.returned (.int .i64 _) = .returned (.int .i64 _)
           congr 2
           (try unfold wrap64)
           omega)
end
section
open Go.RowKit Go.Lib
theorem next_ways {s : ByteArray} {i : Nat} (h : i < s.size) :
  (bt s i < 128 ∧ nextR s i = bt s i ∧ nextN s i = 1) ∨
  (¬ bt s i < 128 ∧ ((194 ≤ bt s i ∧ bt s i ≤ 223) ∧ (i + 1 < s.size ∧ 128 ≤ bt s (i + 1) ∧ bt s (i + 1) ≤ 191)) ∧ nextR s i = (((bt s i - 192) * 64 + bt s (i + 1) % 64 : Nat) : Int) ∧ nextN s i = 2) ∨
  (¬ bt s i < 128 ∧ ¬ (194 ≤ bt s i ∧ bt s i ≤ 223) ∧ nextR s i = threeI (s.size - i) (bt s i) (bt s (i + 1)) (bt s (i + 2)) ∧ 0 ≤ threeI (s.size - i) (bt s i) (bt s (i + 1)) (bt s (i + 2)) ∧ nextN s i = 3) ∨
  (¬ bt s i < 128 ∧ ¬ (194 ≤ bt s i ∧ bt s i ≤ 223) ∧ threeI (s.size - i) (bt s i) (bt s (i + 1)) (bt s (i + 2)) = -1 ∧ nextR s i = fourI (s.size - i) (bt s i) (bt s (i + 1)) (bt s (i + 2)) (bt s (i + 3)) ∧ 0 ≤ fourI (s.size - i) (bt s i) (bt s (i + 1)) (bt s (i + 2)) (bt s (i + 3)) ∧ nextN s i = 4) ∨
  (¬ bt s i < 128 ∧ ¬ ((194 ≤ bt s i ∧ bt s i ≤ 223) ∧ (i + 1 < s.size ∧ 128 ≤ bt s (i + 1) ∧ bt s (i + 1) ≤ 191)) ∧ threeI (s.size - i) (bt s i) (bt s (i + 1)) (bt s (i + 2)) = -1 ∧ fourI (s.size - i) (bt s i) (bt s (i + 1)) (bt s (i + 2)) (bt s (i + 3)) = -1 ∧ nextR s i = 65533 ∧ nextN s i = 1) := by
 unfold nextR nextN
 rw [decode_bt]
 have hb := bt_lt s i
 generalize hn : s.size - i = n
 have e1 : (i + 1 < s.size) = (1 < n) := propext ⟨fun _ => by omega, fun _ => by omega⟩
 rw [e1]
 generalize bt s i = b0 at *
 generalize bt s (i + 1) = b1 at *
 generalize bt s (i + 2) = b2 at *
 generalize bt s (i + 3) = b3 at *
 by_cases c1 : b0 < 128
 ·left; rw [decodeN_one c1]; exact ⟨c1, rfl, rfl⟩
 right
 by_cases c2 : (194 ≤ b0 ∧ b0 ≤ 223) ∧ (1 < n ∧ 128 ≤ b1 ∧ b1 ≤ 191)
 ·left; rw [decodeN_two c2.1 c2.2]; exact ⟨c1, c2, rfl, rfl⟩
 right
 by_cases c3 : (224 ≤ b0 ∧ b0 ≤ 239) ∧ (1 < n ∧ (if b0 = 224 then 160 else 128) ≤ b1 ∧ b1 ≤ (if b0 = 237 then 159 else 191)) ∧ (2 < n ∧ 128 ≤ b2 ∧ b2 ≤ 191)
 ·left
  rw [decodeN_three c3.1 c3.2.1 c3.2.2]
  unfold threeI
  rw [if_pos c3]
  exact ⟨c1, by omega, rfl, by omega, rfl⟩
 right
 have t3 : threeI n b0 b1 b2 = -1 := if_neg c3
 by_cases c4 : (240 ≤ b0 ∧ b0 ≤ 244) ∧ (1 < n ∧ (if b0 = 240 then 144 else 128) ≤ b1 ∧ b1 ≤ (if b0 = 244 then 143 else 191)) ∧ (2 < n ∧ 128 ≤ b2 ∧ b2 ≤ 191) ∧ (3 < n ∧ 128 ≤ b3 ∧ b3 ≤ 191)
 ·left
  rw [decodeN_four c4.1 c4.2.1 c4.2.2.1 c4.2.2.2]
  unfold fourI
  rw [if_pos c4]
  exact ⟨c1, by omega, t3, rfl, by omega, rfl⟩
 right
 have t4 : fourI n b0 b1 b2 b3 = -1 := if_neg c4
 rw [decodeN_none hb c1 c2 c3 c4]
 exact ⟨c1, c2, t3, t4, rfl, rfl⟩
theorem ref_snext {s : ByteArray} (hs : s.size ≤ 1000000) (i : Nat) (h : i < s.size) (w : World) :
    Calls Tryz.prog 46 #[.string s, .int .i64 i] w fun e w' => e = .returned (.tuple #[.int .i64 (nextR s i), .int .i64 (nextN s i)]) ∧ w = w' := by
  have W := next_ways h
  have g1 : (i : Int) < s.size := by omega
  have g2 : ¬ (s.size : Int) ≤ i := by omega
  have g3 : ¬ (i : Int) < 0 := by omega
  have hw := wrap_byte s[i]
  have w1 : wrap64 ((i : Int) + 1) = (i : Int) + 1 := by unfold wrap64; omega
  obtain ⟨r0, hr0⟩ : ∃ r, decide (i < s.size ∧ (194 : Int) ≤ (bt s i : Int) ∧ (bt s i : Int) ≤ 223) = r := ⟨_, rfl⟩
  obtain ⟨r1, hr1⟩ : ∃ r, decide (i + 1 < s.size ∧ (128 : Int) ≤ (bt s (i + 1) : Int) ∧ (bt s (i + 1) : Int) ≤ 191) = r := ⟨_, rfl⟩
  have J0 := fun v => ref_sin i (i : Int) rfl 194 223 r0 hr0 v
  have J1 := fun v => ref_sin (i + 1) ((i : Int) + 1) (by omega) 128 191 r1 hr1 v
  have T := fun v => ref_three hs i h _ rfl v
  have Fo := fun v => ref_four hs i h _ rfl v
  have hl := fun (q : i + 1 < s.size) v => ref_slow (i + 1) q ((i : Int) + 1) (by omega) v
  have hbt := bt_get h
  generalize threeI (s.size - i) (bt s i) (bt s (i + 1)) (bt s (i + 2)) = t at *
  generalize fourI (s.size - i) (bt s i) (bt s (i + 1)) (bt s (i + 2)) (bt s (i + 3)) = f at *
  generalize nextR s i = R at *
  generalize nextN s i = M at *
  rcases W with ⟨a0, rfl, rfl⟩ | ⟨a0, a1, rfl, rfl⟩ | ⟨a0, a1, rfl, a2, rfl⟩ | ⟨a0, a1, rfl, rfl, a2, rfl⟩ | ⟨a0, a1, rfl, rfl, rfl, rfl⟩
  case' inl => have k0 : (s[i].toNat : Int) < 128 := by omega
  case' inr.inl =>
    have k0 : ¬ (s[i].toNat : Int) < 128 := by omega
    obtain rfl : r0 = true := by rw [← hr0]; exact decide_eq_true (by omega)
    obtain rfl : r1 = true := by rw [← hr1]; exact decide_eq_true (by omega)
    replace hl := hl a1.2.1
  case' inr.inr.inl =>
    have k0 : ¬ (s[i].toNat : Int) < 128 := by omega
    obtain rfl : r0 = false := by rw [← hr0]; exact decide_eq_false (by omega)
  case' inr.inr.inr.inl =>
    have k0 : ¬ (s[i].toNat : Int) < 128 := by omega
    obtain rfl : r0 = false := by rw [← hr0]; exact decide_eq_false (by omega)
  case' inr.inr.inr.inr =>
    have k0 : ¬ (s[i].toNat : Int) < 128 := by omega
    have a2 : r0 = false ∨ (r0 = true ∧ r1 = false) := by
      rw [← hr0, ← hr1]
      simp only [decide_eq_false_iff_not, decide_eq_true_eq]
      omega
    rcases a2 with rfl | ⟨rfl, rfl⟩
  all_goals
    have HK : Hid (bt s i = s[i].toNat) := hbt
    have hb8 : Hid (s[i].toNat < 256) := s[i].toNat_lt
    (try have HA : Hid (194 ≤ bt s i) := a1.1.1)
    clear hr0 hr1 a0 hs hbt
    (try clear a1)
    go_enter Tryz.func46, Tryz.ntmps46
    go_wp2_with (first
      | (go_at_call 73; (with_reducible refine Calls.mono (J0 _) ?_); rintro e v0 ⟨rfl, rfl⟩)
      | (go_at_call 73; (with_reducible refine Calls.mono (J1 _) ?_); rintro e v1 ⟨rfl, rfl⟩)
      | (go_at_call 74; (with_reducible refine Calls.mono (hl _) ?_); rintro e v2 ⟨rfl, rfl⟩)
      | (go_at_call 75; (with_reducible refine Calls.mono (T _) ?_); rintro e v3 ⟨rfl, rfl⟩)
      | (go_at_call 76; (with_reducible refine Calls.mono (Fo _) ?_); rintro e v4 ⟨rfl, rfl⟩))
    go_ret2
    first
      | exact ⟨rfl, rfl⟩
      | (rw [HK.out]; exact ⟨rfl, rfl⟩)
      | (refine ⟨?_, rfl⟩
         have hB := HK.out
         have hA := HA.out
         have h8 := hb8.out
         have l1 : bt s (i + 1) % 64 < 64 := Nat.mod_lt _ (by omega)
         show Ending.returned (.tuple #[.int .i64 _, .int .i64 _]) = .returned (.tuple #[.int .i64 _, .int .i64 _])
         congr 5
         (try unfold wrap64)
         omega)
theorem ref_skey (s : ByteArray) (r : Bool) (hr : keyB s = r) (w : World) :
  Calls Tryz.prog 45 #[.string s] w fun e w' => e = .returned (.bool r) ∧ w = w' := by
 unfold keyB at hr
 generalize h1 : (s.toList == [105, 110]) = q1 at hr
 generalize h2 : (s.toList == [108, 101, 116]) = q2 at hr
 generalize h3 : (s.toList == [111, 117, 116]) = q3 at hr
 cases q1 <;> cases q2
 all_goals
  simp at hr
  subst hr
  go_enter Tryz.func45, Tryz.ntmps45
  go_wp2
  go_ret
  exact ⟨rfl, rfl⟩
end
end Go.Proofs.YtaeladkcmpdkhaaGreatDoor
