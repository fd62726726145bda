import Derived.Test.YtekkkoipcghlmaaDoorP10
namespace Go.Proofs.YtekkkoipcghlmaaDoor
open Go.RowKit

/-- Of a script's steps what the laws read: the kind, and the two texts. -/
def OpsAt (w : World) (b off len : Nat) : Prop :=
  ∀ k, k < len → ∃ (kind : Int) (s t : List UInt8), w.cell? ⟨b, off + k * 6, none⟩ = some (.int .i64 kind) ∧ w.cell? ⟨b, off + k * 6 + 3, none⟩ = some (.string (bs s)) ∧ w.cell? ⟨b, off + k * 6 + 4, none⟩ = some (.string (bs t)) ∧ s.length ≤ 9223372036854775807 ∧ t.length ≤ 9223372036854775807

end Go.Proofs.YtekkkoipcghlmaaDoor
