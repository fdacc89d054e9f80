/-
  Texts of mine in build order. No conditions of their own.
-/
import Derived.Test.YtaeladkcmpdkhaaGreatDoorPack33
namespace Go.Proofs.YtaeladkcmpdkhaaGreatDoor
section
open Go.Lib
theorem shN_zero (n : Nd) : shN 0 n = n := by
 unfold shN
 split
 ·rfl
 ·split <;> simp only [Int.add_zero]
theorem map_shN_zero (l : List Nd) : l.map (shN 0) = l := by
 induction l with
 | nil => rfl
 | cons n l ih => rw [List.map_cons, ih, shN_zero]
end
section
open Go.Lib
def oneG (E : Nat → List (Int × ByteArray)) (x : ByteArray × Int) : List (Int × ByteArray) :=
 (0, ⟨#[108, 101, 116]⟩) :: (0, x.1) :: (2, ⟨#[61]⟩) :: (E x.2.toNat ++ [(2, ⟨#[59]⟩)])
def letsG (E : Nat → List (Int × ByteArray)) (lets : List (ByteArray × Int)) : List (Int × ByteArray) := lets.flatMap (oneG E)
def ReadsAs (num : ByteArray → Bool × Nat × Nat) (l : List Nd) (E : Nat → List (Int × ByteArray)) : Prop :=
 ∀ b i, Seg l b i → ∀ (L : List Tok) (r : Rd), r.bad = false → Pre L r.pos (E i ++ [(2, ⟨#[59]⟩)]) → Reads1 num L 0 r (E i).length ((slN l b i).map (shN ((r.all.length : Int) - b)))
theorem letG_read {num : ByteArray → Bool × Nat × Nat} {l : List Nd} {E : Nat → List (Int × ByteArray)} (HE : ReadsAs num l E) {L : List Tok} {r : Rd} {x : ByteArray × Int} {b i : Nat} (hb : r.bad = false) (hx : x.2 = (i : Int)) (hn : nameB x.1 = true) (hs : Seg l b i) (hp : Pre L r.pos (oneG E x)) :
  r.is L 0 [108, 101, 116] = true ∧ oneLet num L r.skip = ((x.1, x.2 + ((r.all.length : Int) - b)), ⟨r.pos + (oneG E x).length, false, r.all ++ (slN l b i).map (shN ((r.all.length : Int) - b))⟩) := by
 have hle := hs.le
 have hlen := slN_length (l := l) (b := b) hle.2
 unfold oneG at hp ⊢
 rw [hx, Int.toNat_natCast] at hp ⊢
 obtain ⟨h1, hp1⟩ := hp.head
 obtain ⟨h2, hp2⟩ := hp1.head
 obtain ⟨h3, hp3⟩ := hp2.head
 obtain ⟨hp4, hp5⟩ := hp3.app
 obtain ⟨h5, -⟩ := hp5.head
 refine ⟨by rw [Rd.is_tokAt h1 hb]; rfl, ?_⟩
 have R0 := HE b i hs L r.skip.skip.skip hb hp3
 unfold Reads1 at R0
 unfold oneLet
 rw [name_tok (r := r.skip) hb h2 hn]
 dsimp only
 have hw := want_tok (r := r.skip.skip) hb h3 [61] rfl
 dsimp only at hw
 rw [hw, R0]
 dsimp only
 have hw2 := want_tok (r := ⟨r.skip.skip.skip.pos + (E i).length, false, r.skip.skip.skip.all ++ (slN l b i).map (shN ((r.skip.skip.skip.all.length : Int) - b))⟩) rfl h5 [59] rfl
 dsimp only at hw2
 rw [hw2]
 refine Prod.ext (Prod.ext rfl ?_) ?_
 ·show (r.all.length : Int) + ((slN l b i).map (shN ((r.all.length : Int) - b))).length - 1 = (i : Int) + ((r.all.length : Int) - b)
  rw [List.length_map, hlen]; omega
 ·show (⟨r.pos + 1 + 1 + 1 + (E i).length + 1, false, r.all ++ _⟩ : Rd) = _
  have e : r.pos + 1 + 1 + 1 + (E i).length + 1 = r.pos + ((0, ⟨#[108, 101, 116]⟩) :: (0, x.1) :: (2, ⟨#[61]⟩) :: (E i ++ [((2 : Int), (⟨#[59]⟩ : ByteArray))])).length := by
   simp only [List.length_cons, List.length_append, List.length_nil]; omega
  rw [e]; rfl
theorem letsG_read {num : ByteArray → Bool × Nat × Nat} {l : List Nd} {E : Nat → List (Int × ByteArray)} (HE : ReadsAs num l E) {L : List Tok} : ∀ (lets : List (ByteArray × Int)) (b e : Nat), LetsEnd l b lets e → ∀ (f : Nat) (out : List (ByteArray × Int)) (r : Rd), r.bad = false → Pre L r.pos (letsG E lets) →
  letsF num L (lets.length + f) out r = letsF num L f (out ++ lets.map fun x => (x.1, x.2 + ((r.all.length : Int) - b))) ⟨r.pos + (letsG E lets).length, false, r.all ++ ((l.drop b).take (e - b)).map (shN ((r.all.length : Int) - b))⟩ := by
 intro lets
 induction lets with
 | nil =>
  intro b e he f out r hb _
  obtain rfl : b = e := he
  rw [Nat.sub_self, List.take_zero]
  show letsF num L (0 + f) out r = letsF num L f (out ++ []) ⟨r.pos + 0, false, r.all ++ []⟩
  rw [Nat.zero_add, List.append_nil, List.append_nil, ← hb]; rfl
 | cons x lets ih =>
  rintro b e ⟨i, hx, hn, hs, he⟩ f out r hb hp
  have hle := hs.le
  have hp' : Pre L r.pos (oneG E x ++ letsG E lets) := hp
  obtain ⟨hp1, hp2⟩ := hp'.app
  obtain ⟨q1, q2⟩ := letG_read HE hb hx hn hs hp1
  have hee := lets_le lets _ _ he
  rw [List.length_cons, show lets.length + 1 + f = (lets.length + f) + 1 by omega]
  conv => lhs; unfold letsF
  rw [if_pos q1, q2]
  dsimp only
  rw [ih (i + 1) e he f _ ⟨r.pos + (oneG E x).length, false, r.all ++ (slN l b i).map (shN ((r.all.length : Int) - b))⟩ rfl hp2]
  have hlen := slN_length (l := l) (b := b) hle.2
  have ed : (((r.all ++ (slN l b i).map (shN ((r.all.length : Int) - b))).length : Nat) : Int) - ((i + 1 : Nat) : Int) = (r.all.length : Int) - b := by
   rw [List.length_append, List.length_map, hlen]; omega
  dsimp only
  rw [ed]
  have es : (l.drop b).take (e - b) = slN l b i ++ (l.drop (i + 1)).take (e - (i + 1)) := by
   unfold slN
   rw [show e - b = (i + 1 - b) + (e - (i + 1)) by omega, List.take_add, List.drop_drop, show b + (i + 1 - b) = i + 1 by omega]
  rw [es, List.map_append, List.map_cons, ← List.append_assoc r.all, List.append_assoc out, List.singleton_append]
  have el : (letsG E (x :: lets)).length = (oneG E x).length + (letsG E lets).length := by
   show (oneG E x ++ letsG E lets).length = _
   rw [List.length_append]
  rw [el, Nat.add_assoc]
theorem letsG_length {E : Nat → List (Int × ByteArray)} (lets : List (ByteArray × Int)) : lets.length ≤ (letsG E lets).length := by
 induction lets with
 | nil => exact Nat.zero_le _
 | cons x lets ih =>
  show lets.length + 1 ≤ (oneG E x ++ letsG E lets).length
  rw [List.length_append]
  have : 1 ≤ (oneG E x).length := by unfold oneG; simp
  omega
theorem progG_read {num : ByteArray → Bool × Nat × Nat} {l : List Nd} {E : Nat → List (Int × ByteArray)} (HE : ReadsAs num l E) {ins outs : List ByteArray} {lets : List (ByteArray × Int)}
  (hi : ins ≠ []) (hin : ∀ x ∈ ins, nameB x = true) (ho : outs ≠ []) (hon : ∀ x ∈ outs, nameB x = true) (h1 : LetsEnd l 0 lets l.length) {L : List Tok}
  (hL : ktx L = listT inB ins ++ (letsG E lets ++ listT outB outs)) :
  progI num L = (⟨ins, lets, outs, l⟩, ⟨L.length, false, l⟩) := by
 obtain ⟨x, xs, rfl⟩ : ∃ x xs, ins = x :: xs := by cases ins with | nil => exact absurd rfl hi | cons x xs => exact ⟨x, xs, rfl⟩
 obtain ⟨y, ys, rfl⟩ : ∃ y ys, outs = y :: ys := by cases outs with | nil => exact absurd rfl ho | cons y ys => exact ⟨y, ys, rfl⟩
 have hlen : L.length = (2 * xs.length + 3) + ((letsG E lets).length + (2 * ys.length + 3)) := by
  rw [← ktx_length, hL, List.length_append, List.length_append, listT_length, listT_length]
 have P0 : Pre L 0 (listT inB (x :: xs) ++ (letsG E lets ++ listT outB (y :: ys))) := ⟨[], by rw [List.drop_zero, hL, List.append_nil]⟩
 obtain ⟨Pa, Pb⟩ := P0.app
 obtain ⟨Pc, Pf⟩ := Pb.app
 rw [listT_length, Nat.zero_add] at Pb Pc Pf
 obtain ⟨t1, Pa1⟩ := Pa.head
 obtain ⟨t2, Pf1⟩ := Pf.head
 have eI : insI L = (x :: xs, ⟨2 * xs.length + 3, false, []⟩) := by
  unfold insI
  have hw := want_tok (r := startR) rfl t1 [105, 110] rfl
  dsimp only at hw
  rw [hw, names_read (r := startR.skip) rfl Pa1 hin]
  show (x :: xs, (⟨0 + 1 + (2 * xs.length + 2), false, []⟩ : Rd)) = _
  rw [show 0 + 1 + (2 * xs.length + 2) = 2 * xs.length + 3 by omega]
 have n1 := letsG_length (E := E) lets
 have eS : letsI num L = (lets, ⟨2 * xs.length + 3 + (letsG E lets).length, false, l⟩) := by
  unfold letsI
  rw [eI, show L.length + 1 = lets.length + ((L.length - lets.length) + 1) by omega]
  dsimp only
  rw [letsG_read HE lets 0 l.length h1 _ [] ⟨2 * xs.length + 3, false, []⟩ rfl Pc]
  have e0 : ((([] : List Nd).length : Nat) : Int) - ((0 : Nat) : Int) = 0 := rfl
  dsimp only
  rw [e0, List.nil_append, List.nil_append, Nat.sub_zero, List.drop_zero, List.take_length, map_shN_zero]
  have em : (lets.map fun x : ByteArray × Int => (x.1, x.2 + 0)) = lets := by
   conv => rhs; rw [← List.map_id lets]
   refine List.map_congr_left (fun z _ => ?_)
   rw [Int.add_zero]; rfl
  rw [em]
  unfold letsF
  rw [if_neg (by rw [Rd.is_tokAt (r := ⟨2 * xs.length + 3 + (letsG E lets).length, false, l⟩) t2 rfl]; decide)]
 have eO : outsI num L = (y :: ys, ⟨L.length, false, l⟩) := by
  unfold outsI
  rw [eS]
  dsimp only
  have hw := want_tok (r := ⟨2 * xs.length + 3 + (letsG E lets).length, false, l⟩) rfl t2 [111, 117, 116] rfl
  dsimp only at hw
  rw [hw, names_read (r := (⟨2 * xs.length + 3 + (letsG E lets).length, false, l⟩ : Rd).skip) rfl Pf1 hon]
  show (y :: ys, (⟨2 * xs.length + 3 + (letsG E lets).length + 1 + (2 * ys.length + 2), false, _⟩ : Rd)) = _
  rw [show 2 * xs.length + 3 + (letsG E lets).length + 1 + (2 * ys.length + 2) = L.length by omega]; rfl
 unfold progI
 rw [eI, eS, eO]
 dsimp only
 rw [if_neg (by omega)]
end
end Go.Proofs.YtaeladkcmpdkhaaGreatDoor
