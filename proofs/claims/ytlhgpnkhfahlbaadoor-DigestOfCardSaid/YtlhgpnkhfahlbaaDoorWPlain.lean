/- The words that are reckoned from primes, xs plain functions of numbers: the roots of the first 64 primes are the words. -/
import Derived.Test.YtlhgpnkhfahlbaaDoorRow
namespace Go.Proofs.YtlhgpnkhfahlbaaDoor
open Go.ChangeShapes Go.WideShapes Go.RowKit

/-- The primes below a number. -/
def prN : Nat → List Nat
  | 0 => []
  | n + 1 => if 2 ≤ n ∧ (prN n).all (fun q => n % q != 0) then prN n ++ [n] else prN n
/-- One place more of a product. -/
def stT (out : List Nat) (j x y : Nat) : List Nat :=
  let o1 := out.set j ((out[j]?.getD 0 + x * y % 18446744073709551616) % 18446744073709551616)
  let o2 := o1.set (j + 1) ((o1[j + 1]?.getD 0 + o1[j]?.getD 0 / 65536) % 18446744073709551616)
  o2.set j (o2[j]?.getD 0 % 65536)
def rowT (out : List Nat) (i x : Nat) (ys : List Nat) : Nat → List Nat
  | 0 => out
  | k + 1 => stT (rowT out i x ys k) (i + k) x (ys[k]?.getD 0)
def tmN (xs ys : List Nat) : Nat → List Nat
  | 0 => List.replicate (xs.length + ys.length) 0
  | i + 1 => rowT (tmN xs ys i) i (xs[i]?.getD 0) ys ys.length
def timesN (xs ys : List Nat) : List Nat := tmN xs ys xs.length
def abF (xs ys : List Nat) : Nat → Bool
  | 0 => false
  | i + 1 => if xs[i]?.getD 0 = ys[i]?.getD 0 then abF xs ys i else decide (ys[i]?.getD 0 < xs[i]?.getD 0)
def aboveN (xs ys : List Nat) : Bool := abF xs ys (max xs.length ys.length)
def wholeN (p n : Nat) : List Nat := (List.replicate (2 * n + 1) 0).set (2 * n) p
def plN (x : Nat) : List Nat := [x % 65536, x / 65536 % 65536, x / 4294967296]
def allN (one : List Nat) : Nat → List Nat
  | 0 => one
  | i + 1 => timesN (allN one i) one
def rtN (p n : Nat) : Nat → Nat
  | 0 => 0
  | t + 1 => if aboveN (allN (plN ((rtN p n t + 1099511627776 / 2 ^ t) % 18446744073709551616)) (n - 1)) (wholeN p n) then rtN p n t else (rtN p n t + 1099511627776 / 2 ^ t) % 18446744073709551616
def rootN (p n : Nat) : Nat := rtN p n 41 % 4294967296
end Go.Proofs.YtlhgpnkhfahlbaaDoor
