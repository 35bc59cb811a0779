/-
  The library's functions that the program holds: slices.IndexFunc, slices.Sort and slices.Compact. No condition.
-/
import Derived.Test.YtlcdbkelonbcfaaSlLayA
import Derived.Test.YtlcdbkelonbcfaaSlLayB
