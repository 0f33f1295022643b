/- The program's own functions of the second serialisation: contracts put together. -/
import Derived.Test.YtgkbijgknacccaaDoorCwl
import Derived.Test.YtgkbijgknacccaaDoorCpo
import Derived.Test.YtgkbijgknacccaaDoorCpe
import Derived.Test.YtgkbijgknacccaaDoorCpd
