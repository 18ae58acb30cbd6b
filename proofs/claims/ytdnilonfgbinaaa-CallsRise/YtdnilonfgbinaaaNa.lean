/- Same modules; rows that the call owns, in plain words. -/
import Derived.Test.YtdnilonfgbinaaaEb
import Derived.Test.YtdnilonfgbinaaaDf
namespace Go.Proofs.Ytdnilonfgbinaaa
open Go.RowKit
theorem samI_refl : ∀ l, samI l l = true
  | [] => rfl
  | x :: l => by rw [samI, samI_refl l]; simp
theorem samPs_refl : ∀ l, samPs l l = true
  | [] => rfl
  | x :: l => by rw [samPs, samPs_refl l]; simp [samP]
theorem samXs_refl : ∀ l, samXs l l = true
  | [] => rfl
  | x :: l => by rw [samXs, samXs_refl l]; simp [samX]
end Go.Proofs.Ytdnilonfgbinaaa
