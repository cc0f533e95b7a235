"""Rolls: what hands have heard of all hands, entry by entry."""

from sumtold.webs import led_to


def age(entry):
    name, life, version, numbers, names = entry
    return (life, version)


def merged(roll, other):
    entries = {entry[0]: entry for entry in roll}
    for entry in other:
        name = entry[0]
        if name not in entries or age(entry) > age(entries[name]):
            entries[name] = entry
    return tuple(entries[name] for name in sorted(entries))


def is_named_back(name, named):
    # A name without an entry names none, so it doesn't name back either.
    return name in named and all(name in named.get(other, ()) for other in named[name])


def greatest_at(entries, at):
    greatest = max(numbers[at] for name, life, version, numbers, names in entries)
    havers = [name for name, life, version, numbers, names in entries if numbers[at] == greatest]
    return (greatest, min(havers))


def sure_of(roll, name):
    named = {entry[0]: entry[4] for entry in roll}
    found = led_to(name, named)
    if not all(is_named_back(here, named) for here in found):
        return None
    reached = [entry for entry in roll if entry[0] in found]
    many = len(reached[0][3])
    return (len(reached), tuple(greatest_at(reached, at) for at in range(many)))
