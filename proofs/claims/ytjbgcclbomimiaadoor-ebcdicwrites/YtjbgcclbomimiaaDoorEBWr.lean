/-
  Both machines of layer 8, for the law's own 'write'. No statement; no condition.
-/
import Derived.Test.YtjbgcclbomimiaaDoorEBEnc
import Derived.Test.YtjbgcclbomimiaaDoorEBRd
