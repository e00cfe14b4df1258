/-
  Memory that a call made, beside rows of bytes.
-/
import Derived.Test.YtjbhichgojjakaaBytes
import Derived.Test.YtjbhichgojjakaaMem0
