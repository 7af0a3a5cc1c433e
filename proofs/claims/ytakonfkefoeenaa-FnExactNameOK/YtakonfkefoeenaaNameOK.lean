/- NameOK, the program's and the model's. -/
import Derived.Test.YtakonfkefoeenaaNameOKi
import Derived.Test.YtakonfkefoeenaaNameOKs
