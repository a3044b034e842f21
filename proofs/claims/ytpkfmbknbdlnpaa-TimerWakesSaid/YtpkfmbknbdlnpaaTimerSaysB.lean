/-
  What package timer answers of Due, with where the answers lie: proved ahead (TimerDue: tduew_is).
-/
import Derived.Test.YtpkfmbknbdlnpaaTimerSays
import Derived.Test.YtpkfmbknbdlnpaaTimerArr
namespace Go.Proofs.Ytpkfmbknbdlnpaa
end Go.Proofs.Ytpkfmbknbdlnpaa
