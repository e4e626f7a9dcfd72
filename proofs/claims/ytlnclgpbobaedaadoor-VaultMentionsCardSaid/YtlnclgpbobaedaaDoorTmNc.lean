/- terms.Norm's contract. -/
import Derived.Test.YtlnclgpbobaedaaDoorTmNb
import Derived.Test.YtlnclgpbobaedaaDoorTmSo
namespace Go.Proofs.YtlnclgpbobaedaaDoor.tmc
open Go.RowKit Go.Proofs.YtlnclgpbobaedaaDoor.tlvc
theorem norm_any (n : Tm) (h : szT n ≤ 100000) (hf : fitD n) : NormsAt n :=
  norms_all (fun S ks n g cap base cs w h1 h2 h3 h4 h5 => sort_any S ks n g cap base cs w h1 h2 h3 h4 h5) (fun A cap w => sort_none A cap w) _ n (Nat.le_refl _) h hf
end Go.Proofs.YtlnclgpbobaedaaDoor.tmc
