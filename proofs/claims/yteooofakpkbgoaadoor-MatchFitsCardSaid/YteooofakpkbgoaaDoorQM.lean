/- What the document's matchers lean on in this seat. -/
import Derived.Test.YteooofakpkbgoaaDoorMRefN
import Derived.Test.YteooofakpkbgoaaDoorQFits
