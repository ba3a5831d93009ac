/- Layer 6: what the faces need. -/
import Derived.Test.YtedcgfcmhaeldaaDotLay
import Derived.Test.YtedcgfcmhaeldaaDotHas
