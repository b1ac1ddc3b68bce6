/-
  A list of texts of the call's own memory: see RowOwn.
-/
import Derived.Test.YtcgaiegfagckcaaKillRight
import Derived.Test.YtcgaiegfagckcaaRowOwn
