/- Frame: the walk of FrameSplits. -/
import Derived.Test.YtffejfpbeimngaaDoorFe
set_option linter.unusedVariables false
set_option linter.unusedSimpArgs false
namespace Go.Proofs.YtffejfpbeimngaaDoor.Frm
open Go.RowKit Go.Lib Go.Proofs.YtffejfpbeimngaaDoor.Bx

end Go.Proofs.YtffejfpbeimngaaDoor.Frm
