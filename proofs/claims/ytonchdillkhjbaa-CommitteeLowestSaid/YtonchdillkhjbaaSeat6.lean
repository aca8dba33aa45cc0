/-
  Closed facts on the types of this translation (numbers alone); append of one number.
-/
import Derived.Test.YtonchdillkhjbaaRows
import Derived.Test.YtonchdillkhjbaaComm
namespace Go.Proofs.Ytonchdillkhjbaa
open Go.ChangeShapes Go.WideShapes Go.ChangeAt Go.RowKit Go.Fl

theorem info_i64 : (Try.prog.info? 3).map (fun i => (i.zero, i.size, i.bytes)) = some (some (.int .i64 0), 1, 8) := by kernel_rfl
theorem cellsI : Try.prog.cellsOf 3 = 1 := by kernel_rfl
theorem own6 : ownKnob Try.prog.godebug = none := by kernel_rfl
end Go.Proofs.Ytonchdillkhjbaa
