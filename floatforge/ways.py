"""Ways: whether an amount between m and m + 1 steps is taken to m + 1 of them, or to m."""

from floatforge.errors import NoWay


class Way:
    pass


class Even(Way):
    def grows(self, odd, side, below):
        return side == 3 or (side == 2 and odd)


class Away(Way):
    def grows(self, odd, side, below):
        return side >= 2


class Inward(Way):
    def grows(self, odd, side, below):
        return False


class Upward(Way):
    def grows(self, odd, side, below):
        return not below


class Downward(Way):
    def grows(self, odd, side, below):
        return below


def way_of(name):
    # Compared one by one: what is no text may be a thing that no dict can be asked for.
    if name == "even":
        return Even()
    if name == "away":
        return Away()
    if name == "in":
        return Inward()
    if name == "up":
        return Upward()
    if name == "down":
        return Downward()
    raise NoWay("a way is one of even, away, in, up, down")
