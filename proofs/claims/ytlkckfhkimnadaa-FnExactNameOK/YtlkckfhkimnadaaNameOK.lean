/- NameOK, the program's and the model's. -/
import Derived.Test.YtlkckfhkimnadaaNameOKi
import Derived.Test.YtlkckfhkimnadaaNameOKs
