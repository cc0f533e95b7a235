"""Books as texts: written, and read just as they are written."""

from sumtold.errors import NoText
from sumtold.forms import are_rising, is_count, is_stamp
from sumtold.pairs import is_part
from sumtold.webs import DEEDS_OF_NUMBERS, is_deed, is_name, is_numbers

MOST_FIGURES = 1000
FIGURES_AT_ONCE = 60
BEYOND_AT_ONCE = 10 ** 60

COMINGS_WRITTEN = {"taken": "taken", "heard": "heard", "": "nothing"}
COMINGS_READ = {"taken": "taken", "heard": "heard", "nothing": ""}


def figures(number):
    # Python itself refuses to write very long numbers at once.
    pieces = []
    while number >= BEYOND_AT_ONCE:
        number, rest = divmod(number, BEYOND_AT_ONCE)
        pieces.append(str(rest).zfill(FIGURES_AT_ONCE))
    pieces.append(str(number))
    return "".join(reversed(pieces))


def number_text(number):
    return "-" + figures(-number) if number < 0 else figures(number)


def part_text(one):
    return f"{number_text(one[0])}>>{number_text(one[1])}"


def row_text(row):
    return ",".join(part_text(one) for one in row)


def stamp_text(stamp):
    if stamp is None:
        return "-"
    return f"{number_text(stamp[0])}.{number_text(stamp[1])}"


def entry_text(entry):
    name, life, version, numbers, names = entry
    owns = ",".join(number_text(number) for number in numbers)
    others = ",".join(names) if names else "-"
    return f"{name}={number_text(life)}.{number_text(version)}={owns}={others}"


def letter_text(letter):
    sender, to, stamp, seen, gifts, given, roll = letter
    words = [sender, to, stamp_text(stamp), stamp_text(seen), number_text(gifts), row_text(given)]
    return " ".join(words + [entry_text(entry) for entry in roll])


def coming_text(word):
    return COMINGS_WRITTEN[word]


def deed_text(deed):
    word, thing = deed[:2]
    if word == "come":
        return f"{word} {number_text(thing)}"
    if word in DEEDS_OF_NUMBERS:
        return " ".join([word, thing] + [number_text(number) for number in deed[2]])
    return " ".join(deed)


def line_text(row):
    """The row of text for a row of the book."""
    deed, what = row
    if deed[0] == "come":
        return f"{deed_text(deed)} : {coming_text(what)}"
    # Of deeds other than turns there are no letters.
    return " ; ".join([deed_text(deed)] + [letter_text(letter) for letter in what])


def book_text(book):
    return "\n".join(line_text(row) for row in book)


def demand(can, why):
    if not can:
        raise NoText(why)


def read_number(word):
    shown = word.removeprefix("-")
    demand(1 <= len(shown) <= MOST_FIGURES, "a number has 1 to 1000 figures")
    demand(all("0" <= sign <= "9" for sign in shown), "a number is written by figures")
    demand(shown[0] != "0" or word == "0", "a number has no nought ahead, nor has 0 a sign")
    return int(word)


def read_two(text, between):
    """The two numbers that are written with this between them."""
    words = text.split(between)
    demand(len(words) == 2, "these are not two numbers")
    return (read_number(words[0]), read_number(words[1]))


def read_part(word):
    told = read_two(word, ">>")
    demand(is_part(told), "this is no part")
    return told


def read_row(word):
    words = word.split(",")
    demand(2 <= len(words) <= 4, "a row has two to four parts")
    return tuple(read_part(one) for one in words)


def read_stamp(word):
    told = read_two(word, ".")
    demand(is_stamp(told), "this is no stamp")
    return told


def read_seen(word):
    return None if word == "-" else read_stamp(word)


def read_names(word):
    names = () if word == "-" else tuple(word.split(","))
    demand(all(is_name(name) for name in names) and are_rising(names), "these are no rising names")
    return names


def read_entry(word):
    words = word.split("=")
    demand(len(words) == 4 and is_name(words[0]), "an entry has a name and three things more")
    life, version = read_two(words[1], ".")
    demand(is_count(life, 1) and is_count(version, 1), "life and version are from 1 on")
    numbers = tuple(read_number(one) for one in words[2].split(","))
    demand(is_numbers(numbers), "an entry has no such numbers")
    return (words[0], life, version, numbers, read_names(words[3]))


def read_roll(words):
    roll = tuple(read_entry(word) for word in words)
    demand(are_rising([entry[0] for entry in roll]), "the entries of a roll rise by names")
    return roll


def read_letter(text):
    words = text.split(" ")
    demand(len(words) > 6 and is_name(words[0]) and is_name(words[1]), "a letter has two names and five things more")
    gifts = read_number(words[4])
    demand(gifts >= 0, "gifts are from 0 on")
    stamp, seen = read_stamp(words[2]), read_seen(words[3])
    return (words[0], words[1], stamp, seen, gifts, read_row(words[5]), read_roll(words[6:]))


def read_deed(text):
    word, *rest = text.split(" ")
    if word == "come":
        rest = [read_number(one) for one in rest]
    elif word in DEEDS_OF_NUMBERS:
        rest = rest[:1] + [tuple(read_number(one) for one in rest[1:])]
    deed = (word, *rest)
    demand(is_deed(deed), "this is no deed")
    return deed


def read_line(line):
    """The row of the book for a row of text."""
    if line.startswith("come "):
        told, *words = line.split(" : ")
        demand(len(words) == 1 and words[0] in COMINGS_READ, "a coming has one of three words")
        return (read_deed(told), COMINGS_READ[words[0]])
    told, *letters = line.split(" ; ")
    deed = read_deed(told)
    demand(deed[0] == "turn" or not letters, "a turn alone has letters")
    return (deed, tuple(read_letter(letter) for letter in letters))


def read_book(text):
    demand(isinstance(text, str), "this is no text")
    if text == "":
        return []
    return [read_line(line) for line in text.split("\n")]
