/- sameFunc; slices.EqualFunc; code.Same. -/
import Derived.Test.YtdnilonfgbinaaaCe
namespace Go.Proofs.Ytdnilonfgbinaaa
open Go.RowKit Go.Sort

theorem samF_eq (x y : Fn) : samF x y = (x.name.toList == y.name.toList && (x.regs == y.regs && (x.words == y.words && (samPs x.params y.params && samXs x.code y.code)))) := rfl
end Go.Proofs.Ytdnilonfgbinaaa
