/- NameOK, the program's and the model's. -/
import Derived.Test.YtongfofjjhhjgaaNameOKi
import Derived.Test.YtongfofjjhhjgaaNameOKs
