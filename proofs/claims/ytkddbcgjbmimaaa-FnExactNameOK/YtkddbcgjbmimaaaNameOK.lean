/- NameOK, the program's and the model's. -/
import Derived.Test.YtkddbcgjbmimaaaNameOKi
import Derived.Test.YtkddbcgjbmimaaaNameOKs
