/- Mul of two well-formed fractions. Conditions: the slices hold the numbers that are named, in lowest terms. -/
import Derived.Test.YtdoponlhiidimaaGreatDoorTimes
namespace Go.Proofs.YtdoponlhiidimaaGreatDoor
open Go.RowKit LimbN
end Go.Proofs.YtdoponlhiidimaaGreatDoor

/- Div of two well-formed fractions, the second one not 0. Conditions: the slices hold the numbers that are named, in lowest terms. -/
namespace Go.Proofs.YtdoponlhiidimaaGreatDoor
open Go.RowKit LimbN
end Go.Proofs.YtdoponlhiidimaaGreatDoor
