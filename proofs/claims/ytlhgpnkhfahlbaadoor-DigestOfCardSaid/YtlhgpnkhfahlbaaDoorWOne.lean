/- The words are those that are reckoned from primes: the first half. -/
import Derived.Test.YtlhgpnkhfahlbaaDoorWPrimes
namespace Go.Proofs.YtlhgpnkhfahlbaaDoor
theorem rt2 : (primeL.take 8).map (fun p => rootN p 2) = startL := by decide +kernel
theorem rt3_0 : ((primeL.drop 0).take 4).map (fun p => rootN p 3) = (keyL.drop 0).take 4 := by decide +kernel
theorem rt3_1 : ((primeL.drop 4).take 4).map (fun p => rootN p 3) = (keyL.drop 4).take 4 := by decide +kernel
theorem rt3_2 : ((primeL.drop 8).take 4).map (fun p => rootN p 3) = (keyL.drop 8).take 4 := by decide +kernel
theorem rt3_3 : ((primeL.drop 12).take 4).map (fun p => rootN p 3) = (keyL.drop 12).take 4 := by decide +kernel
theorem rt3_4 : ((primeL.drop 16).take 4).map (fun p => rootN p 3) = (keyL.drop 16).take 4 := by decide +kernel
theorem rt3_5 : ((primeL.drop 20).take 4).map (fun p => rootN p 3) = (keyL.drop 20).take 4 := by decide +kernel
theorem rt3_6 : ((primeL.drop 24).take 4).map (fun p => rootN p 3) = (keyL.drop 24).take 4 := by decide +kernel
theorem rt3_7 : ((primeL.drop 28).take 4).map (fun p => rootN p 3) = (keyL.drop 28).take 4 := by decide +kernel
end Go.Proofs.YtlhgpnkhfahlbaaDoor
