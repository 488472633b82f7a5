/- The walks over package plan, together. -/
import Derived.Test.YthckkmoafobmnaaPlanGot
import Derived.Test.YthckkmoafobmnaaPlanSplit
