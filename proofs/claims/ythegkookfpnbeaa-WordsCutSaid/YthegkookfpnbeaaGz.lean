/- Words: the program's calls, at one place. -/
import Derived.Test.YthegkookfpnbeaaJg
import Derived.Test.YthegkookfpnbeaaNc
