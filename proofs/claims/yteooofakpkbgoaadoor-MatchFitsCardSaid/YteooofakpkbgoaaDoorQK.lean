/- What the texts of the document's patterns lean on in this seat. -/
import Derived.Test.YteooofakpkbgoaaDoorMB
import Derived.Great.BuildSlice
import Derived.Great.FillDense
import Derived.Laws.Tables
import Derived.OwnWalk
