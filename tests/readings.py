"""A slow reading of books, by patterns."""

import re

NUMBER = "(?:0|-?[1-9][0-9]{0,999})"
COUNT = "(?:0|[1-9][0-9]{0,999})"
FROM_ONE = "[1-9][0-9]{0,999}"
NAME = "[a-z]{1,8}"
STAMP = f"{FROM_ONE}\\.{COUNT}"
PART = f"{NUMBER}>>{COUNT}"
ROW = f"{PART}(?:,{PART}){{1,3}}"
ENTRY = f"{NAME}={FROM_ONE}\\.{FROM_ONE}={NUMBER}(?:,{NUMBER}){{0,2}}=(?:-|{NAME}(?:,{NAME})*)"
LETTER = f"{NAME} {NAME} {STAMP} (?:-|{STAMP}) {COUNT} {ROW}(?: {ENTRY})+"
LINE = (
    f"(?:turn {NAME}(?: ; {LETTER})*|(?:fall|back|fresh|leave) {NAME}|(?:tie|cut) {NAME} {NAME}"
    f"|(?:set|join) {NAME}(?: {NUMBER}){{1,3}}|come {COUNT} : (?:taken|heard|nothing))"
)
BOOK = re.compile(f"{LINE}(?:\n{LINE})*")


class NotSo(Exception):
    pass


def holds(truth):
    if not truth:
        raise NotSo


def rising(names):
    holds(list(names) == sorted(set(names)))
    return tuple(names)


def own_numbers(words):
    numbers = tuple(int(word) for word in words)
    holds(all(abs(number) <= 10 ** 12 for number in numbers))
    return numbers


def whole_numbers(text, between):
    return tuple(int(word) for word in text.split(between))


def row(word):
    parts = tuple(whole_numbers(part, ">>") for part in word.split(","))
    holds(all(e == 0 or num % 2 for num, e in parts))
    return parts


def entry(word):
    name, age, numbers, names = word.split("=")
    names = [] if names == "-" else names.split(",")
    return (name,) + whole_numbers(age, ".") + (own_numbers(numbers.split(",")), rising(names))


def letter(text):
    sender, to, stamp, seen, gifts, given, *roll = text.split(" ")
    entries = tuple(entry(word) for word in roll)
    rising([one[0] for one in entries])
    seen = None if seen == "-" else whole_numbers(seen, ".")
    return (sender, to, whole_numbers(stamp, "."), seen, int(gifts), row(given), entries)


def line(text):
    deed, *letters = text.split(" ; ")
    words = deed.split(" ")
    if words[0] == "come":
        return (("come", int(words[1])), words[3].replace("nothing", ""))
    if words[0] in ("set", "join"):
        return ((words[0], words[1], own_numbers(words[2:])), ())
    holds(len(words) == 2 or words[1] != words[2])
    return (tuple(words), tuple(letter(one) for one in letters))


def slow_read(text):
    """The book of a text, or None where it is the text of none."""
    if text == "":
        return []
    if not BOOK.fullmatch(text):
        return None
    try:
        return [line(one) for one in text.split("\n")]
    except NotSo:
        return None
