/-
  A list of texts of the call's own memory: see RowOwn.
-/
import Derived.Test.YtjjabfcdhknigaaKillRight
import Derived.Test.YtjjabfcdhknigaaRowOwn
