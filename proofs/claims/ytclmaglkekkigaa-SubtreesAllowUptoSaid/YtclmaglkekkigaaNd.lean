/- The writer: what it stands on. Kids' bytes, written one behind the other. The writer at kids. The writer at a node. Print and Check. -/
import Derived.Test.YtclmaglkekkigaaNc
import Derived.WalkLawsBesides
namespace Go.Proofs.Ytclmaglkekkigaa.ndc
open Go.RowKit Go.Proofs.Ytclmaglkekkigaa.tlvc
set_option linter.unusedVariables false
set_option linter.unusedSimpArgs false
end Go.Proofs.Ytclmaglkekkigaa.ndc
namespace Go.Proofs.Ytclmaglkekkigaa.ndc
open Go.RowKit Go.Proofs.Ytclmaglkekkigaa.tlvc
set_option linter.unusedVariables false
set_option linter.unusedSimpArgs false
theorem own_far {w:World}{base g i n:Nat}{e:TypeId}{v x:Value}{cs:List Value}(h:w.ownsRow base e 1 v n cs)(hg:g<base):(w.setCell ⟨g,i,none⟩ x).ownsRow base e 1 v n cs:=by
  refine⟨h.1,?_⟩
  rcases h.2 with hn | ⟨g',cap,cur,rfl,hb,hgg,rest⟩
  · exact .inl hn
  · exact .inr ⟨g',cap,cur,rfl,hb,(set_heap_other _ _ _ _ _ (by omega)).trans hgg,rest⟩
end Go.Proofs.Ytclmaglkekkigaa.ndc
namespace Go.Proofs.Ytclmaglkekkigaa.ndc
open Go.RowKit Go.Proofs.Ytclmaglkekkigaa.tlvc
set_option linter.unusedVariables false
set_option linter.unusedSimpArgs false
end Go.Proofs.Ytclmaglkekkigaa.ndc
namespace Go.Proofs.Ytclmaglkekkigaa.ndc
open Go.RowKit Go.Proofs.Ytclmaglkekkigaa.tlvc
set_option linter.unusedVariables false
set_option linter.unusedSimpArgs false
end Go.Proofs.Ytclmaglkekkigaa.ndc
namespace Go.Proofs.Ytclmaglkekkigaa.ndc
open Go.RowKit Go.Proofs.Ytclmaglkekkigaa.tlvc
set_option linter.unusedVariables false
set_option linter.unusedSimpArgs false
end Go.Proofs.Ytclmaglkekkigaa.ndc
