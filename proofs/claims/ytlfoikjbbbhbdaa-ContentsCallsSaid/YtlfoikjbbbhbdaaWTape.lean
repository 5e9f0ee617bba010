/- The tape, beside the sanity check. No condition. -/
import Derived.Test.YtlfoikjbbbhbdaaTape
import Derived.Test.YtlfoikjbbbhbdaaWAwake
