/-
  What package hist answers: its three calls of which the statements speak (HistOps, HistHolders, HistSig), together.
-/
import Derived.Test.YtpkjepbeeebdoaaDoorHistOps
namespace Go.Proofs.YtpkjepbeeebdoaaDoor
/-- What is asked of a place of memory, a history and an object. -/
def TabSays (w : World) : Prop := TabH w
end Go.Proofs.YtpkjepbeeebdoaaDoor
