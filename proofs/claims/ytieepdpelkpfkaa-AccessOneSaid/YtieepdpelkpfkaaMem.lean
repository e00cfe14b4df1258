/-
  Memory that a call made, beside rows of bytes.
-/
import Derived.Test.YtieepdpelkpfkaaBytes
import Derived.Test.YtieepdpelkpfkaaMem0
