"""Odd things, to be handed in where anything may be."""

DEPTH = 5000


def tuple_tower():
    tower = (1, 1)
    for _ in range(DEPTH):
        tower = (tower, 1)
    return tower


def thin_tuple_tower():
    tower = ()
    for _ in range(DEPTH):
        tower = (tower,)
    return tower


def list_tower():
    tower = []
    for _ in range(DEPTH):
        tower = [tower]
    return tower


def dict_tower():
    tower = {}
    for _ in range(DEPTH):
        tower = {"a": tower}
    return tower


def list_in_itself():
    ring = []
    ring.append(ring)
    return ring


class Touchy:
    """A thing that can't be compared, counted, asked for its truth, or hashed."""

    def refuse(self, *rest):
        raise AssertionError("a thing of another kind was touched")

    __eq__ = __ne__ = __lt__ = __le__ = __gt__ = __ge__ = refuse
    __hash__ = __len__ = __bool__ = __iter__ = __getitem__ = __contains__ = refuse


def odd_things():
    """Things that are no name, numbers, pair, part, deed, hand, tie, web, hands or ties."""
    return [
        None, True, False, 7, -1, 10 ** 30, "", "A", "a b", "tower of texts", "(" * DEPTH, b"a", b"",
        (), (1, 2, 3, "a"), ("a", "a"), (None, None), (True, True), (True, False), (((),), ()),
        [[]], ["a"], [1, 2], [()], [None], {}, {"a": 1}, {"a"}, frozenset(("a",)), range(2), object(), len, int,
        tuple_tower(), thin_tuple_tower(), list_tower(), dict_tower(), list_in_itself(), (list_in_itself(),) * 2,
        Touchy(), (Touchy(), Touchy()), (Touchy(), Touchy(), Touchy()), [Touchy()],
    ]
