import Derived.Test.YthdengocipfgiaaGreatCcK
/- A part of what core's laws stand on. -/
set_option linter.unusedVariables false
set_option linter.unusedSimpArgs false
