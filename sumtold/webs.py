"""Names, numbers, webs, and deeds by their form."""

from sumtold.errors import BadWeb
from sumtold.pairs import is_whole_number

LONGEST_NAME = 8
MOST_NUMBERS = 3
GREATEST_NUMBER = 10 ** 12
MOST_HANDS = 8

DEEDS_OF_ONE = ("turn", "fall", "back", "fresh", "leave")
DEEDS_OF_NUMBERS = ("set", "join")
DEEDS_OF_TWO = ("tie", "cut")


def is_name(thing):
    if not isinstance(thing, str) or not 1 <= len(thing) <= LONGEST_NAME:
        return False
    return all("a" <= sign <= "z" for sign in thing)


def is_own_number(thing):
    return is_whole_number(thing) and -GREATEST_NUMBER <= thing <= GREATEST_NUMBER


def is_numbers(thing):
    if not isinstance(thing, tuple) or not 1 <= len(thing) <= MOST_NUMBERS:
        return False
    return all(is_own_number(number) for number in thing)


def are_unlike_names(one, other):
    # Things that are no names are never compared: they may be too deep for it.
    return is_name(one) and is_name(other) and one != other


def is_hand(thing):
    if not isinstance(thing, tuple) or len(thing) != 2:
        return False
    return is_name(thing[0]) and is_numbers(thing[1])


def is_tie(thing):
    if not isinstance(thing, tuple) or len(thing) != 2:
        return False
    return are_unlike_names(thing[0], thing[1])


def check_hands(hands):
    if not isinstance(hands, list) or not 1 <= len(hands) <= MOST_HANDS:
        raise BadWeb("the hands are no list of 1 to 8")
    if not all(is_hand(hand) for hand in hands):
        raise BadWeb("a hand is no tuple of a name and numbers")
    if len({name for name, numbers in hands}) != len(hands):
        raise BadWeb("two hands have one name")
    if len({len(numbers) for name, numbers in hands}) != 1:
        raise BadWeb("the numbers of the hands are of unlike lengths")


def check_ties(ties, names):
    if not isinstance(ties, list):
        raise BadWeb("the ties are no list")
    if not all(is_tie(tie) for tie in ties):
        raise BadWeb("a tie is no tuple of two unlike names")
    if not all(one in names and other in names for one, other in ties):
        raise BadWeb("a tie has a name that no hand has")
    if len({(min(one, other), max(one, other)) for one, other in ties}) != len(ties):
        raise BadWeb("two ties join the same two hands")


def check_web(web):
    if not isinstance(web, tuple) or len(web) != 2:
        raise BadWeb("a web is a tuple of hands and ties")
    hands, ties = web
    check_hands(hands)
    check_ties(ties, [name for name, numbers in hands])


def tied_to(name, ties):
    ahead = [one for one, other in ties if other == name]
    behind = [other for one, other in ties if one == name]
    return sorted(ahead + behind)


def led_to(name, named):
    """The names come to from this one on, itself first; named tells of each name those that it names."""
    found = [name]
    done = 0
    while done < len(found):
        here = found[done]
        for other in named.get(here, ()):
            if other not in found:
                found.append(other)
        done += 1
    return found


def is_whole(web):
    check_web(web)
    hands, ties = web
    named = {name: tied_to(name, ties) for name, numbers in hands}
    return len(led_to(hands[0][0], named)) == len(hands)


def is_deed_of_two_words(word, thing):
    if word in DEEDS_OF_ONE:
        return is_name(thing)
    return word == "come" and is_whole_number(thing) and thing >= 0


def is_deed_of_three_words(word, name, thing):
    if word in DEEDS_OF_NUMBERS:
        return is_name(name) and is_numbers(thing)
    return word in DEEDS_OF_TWO and are_unlike_names(name, thing)


def is_deed(thing):
    if not isinstance(thing, tuple) or len(thing) not in (2, 3) or not isinstance(thing[0], str):
        return False
    if len(thing) == 2:
        return is_deed_of_two_words(thing[0], thing[1])
    return is_deed_of_three_words(thing[0], thing[1], thing[2])
