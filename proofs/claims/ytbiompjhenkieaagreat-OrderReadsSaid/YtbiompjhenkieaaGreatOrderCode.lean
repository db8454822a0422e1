/-
  Package order: what its calls answer: order_right (OrdRight), order_units (OrdUnits), order_price (OrdPrice), order_equal (OrdEqual), order_clone (OrdClone), order_encode (OrdPut), order_decode (OrdDecode). Conditions: those of each theorem.
-/
import Derived.Test.YtbiompjhenkieaaGreatOrdUnits
import Derived.Test.YtbiompjhenkieaaGreatOrdEqual
