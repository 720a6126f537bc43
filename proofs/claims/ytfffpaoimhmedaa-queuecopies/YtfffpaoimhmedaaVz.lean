/- Package queue, landed: all that is asked of it. -/
import Derived.Test.YtfffpaoimhmedaaVv
