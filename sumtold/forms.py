"""The forms of what the books of a hand are made of, told of anything."""

from sumtold.pairs import is_part, is_whole_number
from sumtold.webs import is_name, is_numbers


def is_tuple_of(thing, many):
    return isinstance(thing, tuple) and len(thing) == many


def is_count(thing, least):
    return is_whole_number(thing) and thing >= least


def is_stamp(thing):
    return is_tuple_of(thing, 2) and is_count(thing[0], 1) and is_count(thing[1], 0)


def is_row(thing, parts):
    return is_tuple_of(thing, parts) and all(is_part(one) for one in thing)


def are_rising(names):
    return all(one < other for one, other in zip(names, names[1:]))


def are_others(thing, own):
    """Whether it is a rising tuple of names, none twice, none this own one."""
    if not isinstance(thing, tuple) or not all(is_name(name) for name in thing):
        return False
    return own not in thing and are_rising(thing)


def is_entry(thing, many):
    if not is_tuple_of(thing, 5):
        return False
    name, life, version, numbers, names = thing
    if not is_name(name) or not is_count(life, 1) or not is_count(version, 1):
        return False
    return is_numbers(numbers) and len(numbers) == many and are_others(names, name)


def is_roll(thing, many):
    if not isinstance(thing, tuple) or not all(is_entry(entry, many) for entry in thing):
        return False
    return are_rising([entry[0] for entry in thing])


def is_era(thing):
    return is_tuple_of(thing, 2) and is_name(thing[0]) and is_count(thing[1], 0)


def is_account(thing, parts):
    if not is_tuple_of(thing, 6):
        return False
    name, seen, gifts, given, takes, taken = thing
    if not is_name(name) or not (seen is None or is_stamp(seen)):
        return False
    return is_count(gifts, 0) and is_row(given, parts) and is_count(takes, 0) and is_row(taken, parts)


def are_accounts(thing, parts):
    return isinstance(thing, tuple) and all(is_account(account, parts) for account in thing)


def are_eras(thing):
    return isinstance(thing, tuple) and all(is_era(era) for era in thing)


def is_books(thing):
    if not is_tuple_of(thing, 7):
        return False
    name, life, version, numbers, eras, accounts, roll = thing
    if not is_name(name) or not is_numbers(numbers):
        return False
    many = len(numbers)
    if not are_eras(eras) or not are_accounts(accounts, many + 1) or not is_roll(roll, many):
        return False
    known = tuple(era[0] for era in eras)
    tied = tuple(account[0] for account in accounts)
    if not are_others(known, name) or not are_others(tied, name) or not all(other in known for other in tied):
        return False
    # The entry is compared only where it has its form: True would pass for 1.
    own = (name, life, version, numbers, tied)
    return is_entry(own, many) and own in roll
