/-
  Package vote keeps chapter 7, a theorem for each function.
-/
import Derived.Test.YtpnmmfacnflngaaVd1
import Derived.Test.YtpnmmfacnflngaaVd2
import Derived.Test.YtpnmmfacnflngaaVd3
import Derived.Test.YtpnmmfacnflngaaVd4
