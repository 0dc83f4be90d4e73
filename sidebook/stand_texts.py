"""Stands and things as texts: `3 40 55 0/5/7/12`, `word 7`, `strike 0 1 3`, `agree 0 1 3 40 55`."""

from sidebook.errors import NoText
from sidebook.stands import stand
from sidebook.things import is_thing

FIGURES = "0123456789"
MOST_FIGURES = 30


def show_tie(tie):
    return "/".join([str(number) for number in tie])


def show_stand(one):
    numbers = [str(one[0]), str(one[1][0]), str(one[1][1])]
    return " ".join(numbers + [show_tie(tie) for tie in one[2]])


def show_thing(thing):
    if thing[0] == "agree":
        return " ".join(["agree", str(thing[1]), str(thing[2]), show_stand(thing[3])])
    return " ".join([thing[0]] + [str(number) for number in thing[1:]])


def is_number_text(thing):
    if not isinstance(thing, str) or not 1 <= len(thing) <= MOST_FIGURES:
        return False
    return all([sign in FIGURES for sign in thing]) and (thing == "0" or thing[0] != "0")


def read_number(text):
    if not is_number_text(text):
        raise NoText("this is no number")
    return int(text)


def read_numbers(texts, count):
    if len(texts) != count:
        raise NoText("there are too many or too few numbers")
    return [read_number(text) for text in texts]


def split_at(text, sign):
    if not isinstance(text, str):
        raise NoText("this is no text")
    return text.split(sign)


def read_tie(text):
    return tuple(read_numbers(split_at(text, "/"), 4))


def read_stand(text):
    parts = split_at(text, " ")
    numbers = read_numbers(parts[:3], 3)
    ties = tuple([read_tie(part) for part in parts[3:]])
    return stand(numbers[0], (numbers[1], numbers[2]), ties)


def read_parts(parts):
    if parts[0] == "word":
        return ("word", read_numbers(parts[1:], 1)[0])
    if parts[0] == "strike":
        return tuple(["strike"] + read_numbers(parts[1:], 3))
    if parts[0] == "agree":
        numbers = read_numbers(parts[1:3], 2)
        return ("agree", numbers[0], numbers[1], read_stand(" ".join(parts[3:])))
    raise NoText("no thing is written so")


def read_thing(text):
    made = read_parts(split_at(text, " "))
    if not is_thing(made):
        raise NoText("there is no such thing")
    return made
