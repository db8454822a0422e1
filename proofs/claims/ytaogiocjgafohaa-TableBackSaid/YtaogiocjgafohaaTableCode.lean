/-
  Package table: what its calls answer: table_right (TabWrong), table_encode (TabPut), table_decode (TabReads), table_of, table_equal (TabOf). Conditions: those of each theorem.
-/
import Derived.Test.YtaogiocjgafohaaTabWrong
import Derived.Test.YtaogiocjgafohaaTabPut
import Derived.Test.YtaogiocjgafohaaTabReads
import Derived.Test.YtaogiocjgafohaaTabOf
