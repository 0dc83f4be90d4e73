"""The small book: a keeping hand as a text, and read again.

It tells no strikes, grants and waits: a side has all strikes below the stands that may come down, the grant follows
from mine, and the wait stands in the book.
"""

from sidebook.accounts import STATES, account_in
from sidebook.bounds import is_side
from sidebook.errors import NoSpan, NoText
from sidebook.keeper import HELD, Keeper
from sidebook.stand_texts import read_number, read_numbers, read_stand, show_stand, split_at
from sidebook.stands import deals


def line_of(name, parts):
    return " ".join([name] + [str(part) for part in parts])


def other_lines(account):
    return [line_of("other", [show_stand(one)]) for one in account.may if one != account.mine]


def claim_line(claim):
    if claim[0] == "laid":
        return line_of("claim", ["laid", claim[1], claim[3], show_stand(claim[2])])
    return line_of("claim", claim)


def seen_line(seen):
    return line_of("seen", [f"{word}/{day}" for word, day in sorted(seen.items())])


def asked_lines(keeper, pot):
    if pot not in keeper.asked:
        return []
    asked = keeper.asked[pot]
    return [line_of("asked", [asked[0], show_stand((0, asked[1], asked[2]))])]


def pot_lines(keeper, pot):
    account = keeper.accounts[pot]
    lines = [line_of("pot", [pot, account.side, deals(account.mine), account.word()])]
    lines.append(line_of("mine", [show_stand(account.mine)]))
    lines.extend(other_lines(account))
    lines.append(claim_line(keeper.claims[pot]))
    lines.append(seen_line(keeper.seen[pot]))
    lines.extend(asked_lines(keeper, pot))
    if pot in keeper.finishing:
        lines.append("finish")
    return lines


def kept(keeper):
    lines = [line_of("hand", [keeper.hand, keeper.every, keeper.looked(), keeper.given()])]
    lines.append(line_of("words", keeper.words()))
    for pot in keeper.accounts:
        lines.extend(pot_lines(keeper, pot))
    return "\n".join(lines)


class Lines:
    def __init__(self, text):
        self.rows = split_at(text, "\n")
        self.place = 0

    def is_done(self):
        return self.place == len(self.rows)

    def is_at(self, name):
        return not self.is_done() and self.rows[self.place].split(" ")[0] == name

    def parts_of(self, name):
        """The parts of the next line, which must bear this name, behind the name."""
        if not self.is_at(name):
            raise NoText(f"no line {name} stands there")
        self.place += 1
        return self.rows[self.place - 1].split(" ")[1:]

    def stand_of(self, name):
        return read_stand(" ".join(self.parts_of(name)))


def check_rising(numbers):
    if numbers != sorted(set(numbers)):
        raise NoText("these numbers don't rise")


def check_is_side(number):
    if not is_side(number):
        raise NoText("there is no such side")


def read_hand(lines):
    numbers = read_numbers(lines.parts_of("hand"), 4)
    try:
        keeper = Keeper(numbers[0], numbers[1], [])
    except NoSpan:
        raise NoText("no hand looks each so many days") from None
    keeper.last_look = numbers[2]
    keeper.gave = numbers[3]
    return keeper


def read_words(lines):
    words = [read_number(part) for part in lines.parts_of("words")]
    check_rising(words)
    return words


def read_claim(parts):
    if parts == ["held"]:
        return HELD
    if parts[:1] == ["laid"]:
        numbers = read_numbers(parts[1:3], 2)
        one = read_stand(" ".join(parts[3:]))
        check_is_side(numbers[0])
        return ("laid", numbers[0], one, numbers[1])
    if parts[:1] == ["taken"]:
        numbers = read_numbers(parts[1:], 1)
        check_is_side(numbers[0])
        return ("taken", numbers[0])
    raise NoText("no claim is written so")


def read_seen(parts):
    pairs = [read_numbers(part.split("/"), 2) for part in parts]
    check_rising([pair[0] for pair in pairs])
    seen = {}
    for pair in pairs:
        seen[pair[0]] = pair[1]
    return seen


def read_asked(parts):
    allowance = read_number(" ".join(parts[:1]))
    one = read_stand(" ".join(parts[1:]))
    if one[0] != 0:
        raise NoText("what was asked for is told with the number 0")
    return (allowance, one[1], one[2])


def read_account(lines, keeper):
    parts = lines.parts_of("pot")
    numbers = read_numbers(parts[:3], 3)
    check_rising(list(keeper.accounts) + [numbers[0]])
    check_is_side(numbers[1])
    if len(parts) != 4 or parts[3] not in STATES:
        raise NoText("a pot's line ends with its state")
    mine = lines.stand_of("mine")
    other = None if parts[3] == "calm" else lines.stand_of("other")
    return account_in(numbers[0], numbers[1], parts[3], mine, other)


def read_pot(lines, keeper):
    account = read_account(lines, keeper)
    claim = read_claim(lines.parts_of("claim"))
    keeper.hold(account, claim, read_seen(lines.parts_of("seen")))
    if lines.is_at("asked"):
        keeper.asked[account.pot] = read_asked(lines.parts_of("asked"))
    if lines.is_at("finish"):
        read_numbers(lines.parts_of("finish"), 0)
        keeper.finishing[account.pot] = True


def read_kept(text):
    lines = Lines(text)
    keeper = read_hand(lines)
    keeper.learn(read_words(lines))
    while not lines.is_done():
        read_pot(lines, keeper)
    return keeper
