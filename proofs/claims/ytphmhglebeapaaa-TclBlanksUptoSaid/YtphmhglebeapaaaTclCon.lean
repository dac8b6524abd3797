/-
  The program's contracts (Parse_is, Same_is, Print_is), together.
  Conditions: none.
-/
import Derived.Test.YtphmhglebeapaaaTwParse
import Derived.Test.YtphmhglebeapaaaTwSame
import Derived.Test.YtphmhglebeapaaaTwPrint
