import Derived.Test.YtbeakdpbginebaaDoorLaidSv
namespace Go.Proofs.YtbeakdpbginebaaDoor
theorem laidV_here : True := trivial
end Go.Proofs.YtbeakdpbginebaaDoor
