/- What the statements' walks ask of the program's package path: given. -/
import Derived.Test.YtbnolmbbpdjibaaDoorPath7
import Derived.Test.YtbnolmbbpdjibaaDoorPtbP7
import Derived.Test.YtbnolmbbpdjibaaDoorHomP7
import Derived.Test.YtbnolmbbpdjibaaDoorFstQ7
set_option linter.unusedSimpArgs false
set_option linter.unusedVariables false
namespace Go.Proofs.YtbnolmbbpdjibaaDoor
open Go Go.RowKit

theorem pathP (T : Prop) (w0 : World) (hP : T → Pow w0) : PathSpec T w0 where
  good := fun l w hl => good_any l w (by omega)
  dir := fun l w hl => dir_any l w hl
  base := fun l w hl => base_any l w hl
  lies := fun s d w hs hd => lies_any s d w hs hd
  clash := fun a b w ha hb => clash_any a b w ha hb
  temp := fun l w hl => temp_any l w hl
  side := fun l w hl => side_any l w hl
  home := fun size sum w hT hB hs => home_any size sum w ((hP hT).on hB) hs
  copy := fun l size sum w hT hB hl hs => copy_any l size sum w ((hP hT).on hB) hl hs
  kind := fun l w hl => kind_any l w hl
  first := fun ls p n cap w hs hn hp hnc h30 hle => first_any ls p n cap w hs hn hp hnc h30 hle
end Go.Proofs.YtbnolmbbpdjibaaDoor
