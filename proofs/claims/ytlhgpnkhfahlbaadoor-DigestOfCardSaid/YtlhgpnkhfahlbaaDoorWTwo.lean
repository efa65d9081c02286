/- The words are those that are reckoned from primes: the second half. -/
import Derived.Test.YtlhgpnkhfahlbaaDoorWPrimes
namespace Go.Proofs.YtlhgpnkhfahlbaaDoor
theorem rt3_8 : ((primeL.drop 32).take 4).map (fun p => rootN p 3) = (keyL.drop 32).take 4 := by decide +kernel
theorem rt3_9 : ((primeL.drop 36).take 4).map (fun p => rootN p 3) = (keyL.drop 36).take 4 := by decide +kernel
theorem rt3_10 : ((primeL.drop 40).take 4).map (fun p => rootN p 3) = (keyL.drop 40).take 4 := by decide +kernel
theorem rt3_11 : ((primeL.drop 44).take 4).map (fun p => rootN p 3) = (keyL.drop 44).take 4 := by decide +kernel
theorem rt3_12 : ((primeL.drop 48).take 4).map (fun p => rootN p 3) = (keyL.drop 48).take 4 := by decide +kernel
theorem rt3_13 : ((primeL.drop 52).take 4).map (fun p => rootN p 3) = (keyL.drop 52).take 4 := by decide +kernel
theorem rt3_14 : ((primeL.drop 56).take 4).map (fun p => rootN p 3) = (keyL.drop 56).take 4 := by decide +kernel
theorem rt3_15 : ((primeL.drop 60).take 4).map (fun p => rootN p 3) = (keyL.drop 60).take 4 := by decide +kernel
end Go.Proofs.YtlhgpnkhfahlbaaDoor
