/- DatingHulls' walk and the opening of its list. -/
import Derived.Test.YtbllolalfmgfoaaDoorDU
import Derived.Test.YtbllolalfmgfoaaDoorOpenL
