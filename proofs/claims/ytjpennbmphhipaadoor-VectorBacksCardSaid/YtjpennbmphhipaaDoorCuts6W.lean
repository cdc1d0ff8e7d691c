/- Nothing written yet. -/
import Derived.Test.YtjpennbmphhipaaDoorBytes
namespace Go.Proofs.YtjpennbmphhipaaDoor
open Go Go.RowKit
theorem OwnB.nil (w : World) (base : Nat) : OwnB w base (.slice none 0 0) [] := ⟨rfl, .inl ⟨rfl, rfl⟩⟩
end Go.Proofs.YtjpennbmphhipaaDoor
