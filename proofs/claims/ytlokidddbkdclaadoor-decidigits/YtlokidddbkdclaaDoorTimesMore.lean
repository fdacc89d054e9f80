/-
  Package times's contract of Mul with the product named.
-/
import Derived.Test.YtlokidddbkdclaaDoorTimesB
namespace Go.Proofs.YtlokidddbkdclaaDoor
open Go.RowKit

theorem times_mul' {a : Option Addr} {n c : Nat} {zs : List Int} {b : Option Addr} {m d : Nat} {ys : List Int} {w : World} (h : IsWords w (.slice a n c) zs) (hz : Wd zs) (g : IsWords w (.slice b m d) ys) (gz : Wd ys)
    (hn : n ≤ 1000000000000) (hm : m ≤ 1000000000000) (N : Nat) (hN : val zs * val ys = N) : Calls Tryd.prog 21 #[.slice a n c, .slice b m d] w (Ans w N) := by
  rw [← hN]; exact times_mul a n c zs b m d ys w h hz g gz hn hm
theorem times_one' {a : Option Addr} {n c : Nat} {zs : List Int} {x y : Int} {w : World} (h : IsWords w (.slice a n c) zs) (hz : Wd zs) (hn : n ≤ 1000000000000) (x0 : 0 ≤ x) (x1 : x < 4294967296) (y0 : 0 ≤ y) (y1 : y < 4294967296) (N : Nat) (hN : val zs * x.toNat + y.toNat = N) :
    Calls Tryd.prog 23 #[.slice a n c, .int .u32 x, .int .u32 y] w (Ans w N) := by
  subst hN; exact times_one a n c zs x y w h hz hn x0 x1 y0 y1
theorem nat_bits' {a : Option Addr} {n c : Nat} {zs : List Int} {w : World} (h : IsWords w (.slice a n c) zs) (hz : Wd zs) (hn : n ≤ 35184372088832) (N : Int) (hN : (nbits (val zs) : Int) = N) :
    Calls Tryd.prog 18 #[.slice a n c] w fun e w' => e = .returned (.int .i64 N) ∧ w = w' := by
  rw [← hN]; exact nat_bits a n c zs w h hz hn
end Go.Proofs.YtlokidddbkdclaaDoor
