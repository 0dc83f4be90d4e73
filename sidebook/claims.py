"""Claims: what stands in the book about one pot, told by the claim itself."""

from sidebook.bounds import other_side
from sidebook.stands import shown_in_time, with_more
from sidebook.things import is_thing


def side_due(tie, day, shown):
    if shown_in_time(tie, shown):
        return other_side(tie[0])
    if day >= tie[3]:
        return tie[0]
    # The word may still be shown in time.
    return None


class Claim:
    def __init__(self, whole):
        self.whole = whole


class Held(Claim):
    def told(self):
        return ("held",)

    def comes(self, day, shown):
        return (0, 0, self.whole)

    def may_strike(self, pot, side, day, thing):
        return False


class Laid(Claim):
    def __init__(self, whole, side, stand, day, wait):
        Claim.__init__(self, whole)
        self.side = side
        self.stand = stand
        self.day = day
        self.wait = wait

    def told(self):
        return ("laid", self.side, self.stand, self.day)

    def waits(self, day):
        return day < self.day + self.wait

    def comes(self, day, shown):
        if self.waits(day):
            return (0, 0, self.whole)
        due = self.stand[1]
        for tie in self.stand[2]:
            side = side_due(tie, day, shown)
            if side is not None:
                due = with_more(due, side, tie[1])
        return (due[0], due[1], self.whole - sum(due))

    def may_strike(self, pot, side, day, thing):
        if side != other_side(self.side) or not self.waits(day):
            return False
        # A truth equals 0 or 1 for ==, so what is no thing is turned away first.
        return is_thing(thing) and thing == ("strike", pot, self.side, self.stand[0])


class Taken(Claim):
    def __init__(self, whole, side):
        Claim.__init__(self, whole)
        self.side = side

    def told(self):
        return ("taken", self.side)

    def comes(self, day, shown):
        shares = with_more((0, 0), self.side, self.whole)
        return (shares[0], shares[1], 0)

    def may_strike(self, pot, side, day, thing):
        return False
