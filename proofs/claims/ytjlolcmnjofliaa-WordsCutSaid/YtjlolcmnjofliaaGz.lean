/- Words: the program's calls, at one place. -/
import Derived.Test.YtjlolcmnjofliaaJg
import Derived.Test.YtjlolcmnjofliaaNc
