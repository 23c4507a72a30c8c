/-
  The program's own functions of layer 9, all of them: Right, Of, Merge, Due. Conditions: as each theorem names them.
-/
import Derived.Test.YtfkdkcdknpjoeaaWP3
import Derived.Test.YtfkdkcdknpjoeaaWP5
import Derived.Test.YtfkdkcdknpjoeaaWMerge
