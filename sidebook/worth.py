"""Worth: what a hand is sure to end with by its view, and the papers that show it.

A view's pot is (side, stands, seen); a paper is (worth, chosen, fates).
"""

from sidebook.bounds import is_between
from sidebook.stands import shown_in_time

# These come to the hand whatever the fates are.
FIRM = ("won", "sure", "back")


class View:
    def __init__(self, every, look, words, pots):
        self.every = every
        self.last_look = look
        self.known = list(words)
        self.pots = [(pot[0], list(pot[1]), dict(pot[2])) for pot in pots]


def lot_of_paid(view, seen, tie):
    if shown_in_time(tie, seen):
        return "lost"
    if view.last_look >= tie[3]:
        return "back"
    return "open"


def lot_of_due(view, seen, tie):
    if shown_in_time(tie, seen):
        return "won"
    if view.last_look >= tie[3]:
        return "gone"
    if tie[2] in view.known and view.last_look + view.every < tie[3]:
        return "sure"
    return "hangs"


def lot_of(view, pot, tie):
    if tie[0] == pot[0]:
        return lot_of_paid(view, pot[2], tie)
    return lot_of_due(view, pot[2], tie)


def read_stand(view, pot, one):
    """What is firm of a stand, and a dict from its words to (lot, amount, day)."""
    firm = one[1][pot[0]]
    lots = {}
    for tie in one[2]:
        lot = lot_of(view, pot, tie)
        lots[tie[2]] = (lot, tie[1], tie[3])
        if lot in FIRM:
            firm += tie[1]
    return (firm, lots)


def read_pots(view):
    readings = []
    for pot in view.pots:
        readings.append([read_stand(view, pot, one) for one in pot[1]])
    return readings


def all_choices(readings):
    choices = [[]]
    for stands in readings:
        longer = []
        for chosen in choices:
            longer.extend([chosen + [place] for place in range(len(stands))])
        choices = longer
    return choices


def chosen_readings(readings, chosen):
    return [stands[place] for stands, place in zip(readings, chosen)]


def lots_by_word(reads):
    """A dict from each word of the chosen stands to the list of its lots."""
    by_word = {}
    for read in reads:
        for word, lot in read[1].items():
            by_word.setdefault(word, []).append(lot)
    return by_word


def fates_of(lots):
    return [None] + [lot[2] for lot in lots if lot[0] == "open"]


def comes_by_fate(lot, fate, every):
    if lot[0] == "open":
        return fate is None or fate > lot[2]
    return lot[0] == "hangs" and fate is not None and fate - 1 + every < lot[2]


def sum_by_fate(lots, fate, every):
    return sum([lot[1] for lot in lots if comes_by_fate(lot, fate, every)])


def least_fate(lots, every):
    return min(fates_of(lots), key=lambda fate: sum_by_fate(lots, fate, every))


def sum_of(reads, by_word, fates, every):
    total = sum([read[0] for read in reads])
    for word, lots in by_word.items():
        total += sum_by_fate(lots, fates[word], every)
    return total


def least_paper(reads, chosen, every):
    by_word = lots_by_word(reads)
    fates = {}
    # The words' sums don't hang on one another, so each word's least makes the least of all.
    for word, lots in by_word.items():
        fates[word] = least_fate(lots, every)
    return (sum_of(reads, by_word, fates, every), chosen, fates)


def paper(view):
    readings = read_pots(view)
    papers = [least_paper(chosen_readings(readings, chosen), chosen, view.every) for chosen in all_choices(readings)]
    return min(papers, key=lambda told: told[0])


def worth(view):
    return paper(view)[0]


def tells_places(readings, chosen):
    if len(chosen) != len(readings):
        return False
    return all([is_between(place, 0, len(stands) - 1) for stands, place in zip(readings, chosen)])


def tells_fates(by_word, fates):
    if len(fates) != len(by_word):
        return False
    return all([word in fates and fates[word] in fates_of(lots) for word, lots in by_word.items()])


def stands_up(view, told):
    readings = read_pots(view)
    if not tells_places(readings, told[1]):
        return False
    reads = chosen_readings(readings, told[1])
    by_word = lots_by_word(reads)
    if not tells_fates(by_word, told[2]):
        return False
    return told[0] == sum_of(reads, by_word, told[2], view.every)
