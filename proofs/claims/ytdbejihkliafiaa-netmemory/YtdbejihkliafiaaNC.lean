/- The net's calls, all. -/
import Derived.Test.YtdbejihkliafiaaC7
