import Derived.Test.YtahcpgldpbejiaaGreatDoorLaidFm
namespace Go.Proofs.YtahcpgldpbejiaaGreatDoor
theorem laidA_here : True := trivial
end Go.Proofs.YtahcpgldpbejiaaGreatDoor
