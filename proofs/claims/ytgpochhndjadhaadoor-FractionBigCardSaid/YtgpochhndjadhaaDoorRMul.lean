/- Contracts of the reference's products. Conditions: the slices hold the digits that are named. -/
import Derived.Test.YtgpochhndjadhaaDoorRSum
namespace Go.Proofs.YtgpochhndjadhaaDoor
open Go.RowKit LimbN
end Go.Proofs.YtgpochhndjadhaaDoor
