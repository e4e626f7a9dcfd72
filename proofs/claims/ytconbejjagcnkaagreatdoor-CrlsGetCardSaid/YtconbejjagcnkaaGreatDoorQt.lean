/- Times there and back: they stand in the text of times. -/
import Derived.Test.YtconbejjagcnkaaGreatDoorXb
