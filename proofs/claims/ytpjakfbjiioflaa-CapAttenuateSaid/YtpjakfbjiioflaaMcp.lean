/-
  The contracts of the program's functions on capabilities, together.
  Conditions: none.
-/
import Derived.Test.YtpjakfbjiioflaaMcb
import Derived.Test.YtpjakfbjiioflaaMce
import Derived.Test.YtpjakfbjiioflaaMcf
import Derived.Test.YtpjakfbjiioflaaMcg
import Derived.Test.YtpjakfbjiioflaaCaf
