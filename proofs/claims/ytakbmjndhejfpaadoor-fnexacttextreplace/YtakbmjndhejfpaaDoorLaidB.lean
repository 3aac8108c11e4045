import Derived.Shelf.Strings.Shaped
import Derived.Test.YtakbmjndhejfpaaDoorLaidA
