"""Values of many kinds, for arguments that can be anything."""

from stackquotes.errors import InvalidName
from stackquotes.vocabularies import Vocabulary


def make_odd_values():
    """Return values of many kinds; none of them is a string, and most have no hash or no order."""
    return [
        None, True, False, 0, 3, -1, 10 ** 19, b"", b"f", (), ("f",), ("f", 2, 1), (("f", 2, 1),),
        [], ["f"], ["f", 2, 1], {}, {"f": (2, 1)}, set(), {"f"}, frozenset(), range(3), object(), int, Vocabulary,
        len, lambda: "f", ValueError("f"), InvalidName("f"), Vocabulary(), Vocabulary(("f", 2, 1)),
    ]
