/- PG by another name in this seat. -/
import Derived.Test.YtakkcofmbafneaaPB
