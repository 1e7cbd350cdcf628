/-
The library's contracts of strconv.Itoa at this program, laid by the shelf in plain words. strconv.Itoa: where the table of tens is as the program lays it.
-/
import Derived.Shelf.Small.Strs
import Derived.Shelf.LaysM
import Derived.Shelf.Strconv.Itoa3
import Derived.Test.YtkjgdnfkpebejaaProg
import Derived.Below
import Derived.Lib.AppendIntMem

namespace Go.Proofs
open Go.Shelf
end Go.Proofs
