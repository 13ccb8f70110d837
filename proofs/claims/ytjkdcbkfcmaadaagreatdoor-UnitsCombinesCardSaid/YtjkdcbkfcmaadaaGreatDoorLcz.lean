/- The law UnitsCombines with what opens its arguments. -/
import Derived.Test.YtjkdcbkfcmaadaaGreatDoorLc
import Derived.Test.YtjkdcbkfcmaadaaGreatDoorRz
