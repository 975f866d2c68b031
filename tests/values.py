"""Values that several tests use."""

from keptabroad.errors import BadDeeds, KeepError

HOMES = (0, 1, 2)
EVENTS = (
    ("do", (), ((0, "word", 7),)),
    ("do", (0,), ((1, "sum", 1),)),
    ("do", (1,), ((0, "sum", 0), (2, "word", 5))),
)
DEEDS = tuple(event[1:] for event in EVENTS)

NOT_INTEGERS = [True, False, None, "", "0", "one", (), (0,), [], [0], {}, {0: 0}, (0, (1,)), BadDeeds(0)]

NOT_TUPLES = [0, 1, -1, 10 ** 30, True, False, None, "", "ab", "do", [], [0], [0, 1], {}, {0: 1}, KeepError("x")]

WRONG_HOMES = NOT_TUPLES + [
    (),
    (4,),
    (-1,),
    (0, 4),
    (3, -1),
    (0, 0, 0, 0, 0, 0, 0),
    (0, 1, 2, 3, 0, 1, 2),
    (0, True),
    (False,),
    (0, None),
    ("0",),
    ([0],),
    ((0,),),
    ({},),
    (10 ** 40,),
    (0, KeepError("x")),
]

# Values that are no deeds of the three things of HOMES.
WRONG_DEEDS = NOT_TUPLES + [
    (),
    ((),),
    ((), ()),
    ((), (), ()),
    ((), ((0, "word", 7),), ()),
    (None, ((0, "word", 7),)),
    ([], ((0, "word", 7),)),
    ("", ((0, "word", 7),)),
    ({}, ((0, "word", 7),)),
    (0, ((0, "word", 7),)),
    ((3,), ((0, "word", 7),)),
    ((-1,), ((0, "word", 7),)),
    ((True,), ((0, "word", 7),)),
    ((False, 1), ((0, "word", 7),)),
    (("0",), ((0, "word", 7),)),
    (((0,),), ((0, "word", 7),)),
    (([],), ((0, "word", 7),)),
    ((0, 0), ((0, "word", 7),)),
    ((1, 0), ((0, "word", 7),)),
    ((0, 2, 1), ((0, "word", 7),)),
    ((0, 1, 2, 2), ((0, "word", 7),)),
    ((), None),
    ((), 7),
    ((), "word"),
    ((), [(0, "word", 7)]),
    ((), {0: "word"}),
    ((), (0, "word", 7)),
    ((), ([0, "word", 7],)),
    ((), ("abc",)),
    ((), ((0, "word"),)),
    ((), ((0, "word", 7, 0),)),
    ((), ((3, "word", 7),)),
    ((), ((-1, "word", 7),)),
    ((), ((False, "word", 7),)),
    ((), ((True, "word", 7),)),
    ((), (("0", "word", 7),)),
    ((), (([], "word", 7),)),
    ((), ((0, "words", 7),)),
    ((), ((0, "", 7),)),
    ((), ((0, "Sum", 7),)),
    ((), ((0, None, 7),)),
    ((), ((0, [], 7),)),
    ((), ((0, {}, 7),)),
    ((), ((0, ("word",), 7),)),
    ((), ((0, 0, 7),)),
    ((), ((0, "word", -1),)),
    ((), ((0, "word", 1000),)),
    ((), ((0, "sum", -1),)),
    ((), ((0, "sum", 1000),)),
    ((), ((0, "word", True),)),
    ((), ((0, "sum", False),)),
    ((), ((0, "word", None),)),
    ((), ((0, "word", "7"),)),
    ((), ((0, "word", (7,)),)),
    ((), ((0, "word", 7), (0, "sum", 7))),
    ((), ((1, "word", 7), (0, "word", 7))),
    ((), ((0, "word", 7), (1, "word", 7), (2, "word", 7), (2, "word", 8))),
    ((), ((0, "word", 7), None)),
    (((0, "word", 7),), ()),
]

# Values that are no events of the three things and three houses of HOMES.
WRONG_EVENTS = NOT_TUPLES + [
    (),
    ((),),
    (None,),
    (0,),
    (True, 0),
    ([], 0),
    ({}, 0),
    (("up",), 0),
    ("",),
    ("run", 0),
    ("Sync", 0),
    ["sync", 0],
    ("do",),
    ("do", ()),
    ("do", (), ((0, "word", 7),), ()),
    ("do", ((), ((0, "word", 7),))),
    ("sync",),
    ("sync", 0, 0),
    ("sync", (0,)),
    ("fall",),
    ("fall", 0),
    ("fall", 0, (), ()),
    ("fall", (), 0),
    ("fall", 0, None),
    ("fall", 0, 0),
    ("fall", 0, ""),
    ("fall", 0, []),
    ("fall", 0, {}),
    ("fall", 0, (0, 0)),
    ("fall", 0, ((),)),
    ("fall", 0, ((0,),)),
    ("fall", 0, ((0, 0, 0),)),
    ("fall", 0, ([0, 0],)),
    ("fall", 0, ("00",)),
    ("fall", 0, ((0, 3),)),
    ("fall", 0, ((0, -1),)),
    ("fall", 0, ((64, 0),)),
    ("fall", 0, ((-1, 0),)),
    ("fall", 0, ((False, 0),)),
    ("fall", 0, ((0, False),)),
    ("fall", 0, (("0", 0),)),
    ("fall", 0, ((0, None),)),
    ("fall", 0, ((0, []),)),
    ("fall", 0, ((0, 0), (0, 0))),
    ("fall", 0, ((2, 0), (0, 0))),
    ("up",),
    ("up", 0, 0),
    ("send",),
    ("send", 0),
    ("send", 0, 1, 2),
    ("send", 0, 0),
    ("send", (0, 1)),
    ("send", 0, 3),
    ("send", 3, 0),
    ("send", 0, -1),
    ("send", 0, True),
    ("send", True, 0),
    ("send", "0", 1),
    ("send", 0, None),
    ("hear",),
    ("hear", 0, 0),
    ("hear", -1),
    ("hear", 64),
    ("hear", (0,)),
] + [
    ("do",) + deed for deed in WRONG_DEEDS if isinstance(deed, tuple) and len(deed) == 2
] + [
    (word, value) for word in ("sync", "up") for value in NOT_INTEGERS + [-1, 3, 64]
] + [
    ("hear", value) for value in NOT_INTEGERS
] + [
    ("fall", value, ()) for value in NOT_INTEGERS + [-1, 3, 64]
]

# Values that are no houses of HOMES.
WRONG_HOUSE = NOT_INTEGERS + [-1, 3, 4, 64, 10 ** 30]

# Values that are no ascending tuples of unlike houses of HOMES.
WRONG_HOUSES = NOT_TUPLES + [
    (3,),
    (-1,),
    (0, 3),
    (True,),
    (False,),
    (False, 1),
    (0, True),
    (None,),
    ("0",),
    ([0],),
    ((0,),),
    ((),),
    ({},),
    (KeepError("x"),),
    (0, 0),
    (1, 0),
    (0, 2, 1),
    (0, 1, 1),
    (0, 1, 2, 3),
    (0, 1, 2, 2),
    (0, None),
]

# Values that are not cards of a thing behind EVENTS.
WRONG_CARDS = NOT_TUPLES + [
    (),
    (0,),
    (0, 0, 0),
    [0, 0],
    ((0, 0),),
    ((0, 0), (2, 0)),
    (False, 0),
    (0, False),
    (True, 1),
    (1, True),
    ("0", 0),
    (0, "0"),
    (None, 0),
    (0, None),
    ([], 0),
    (0, []),
    ({}, 0),
    (0, {}),
    ((0,), 0),
    (0, (0,)),
    (0, KeepError("x")),
    (-1, 0),
    (-3, 0),
    (0, -1),
    (0, -3),
    (3, 0),
    (0, 3),
    (64, 0),
    (10 ** 30, 0),
    (1, 0),
    (0, 1),
    (0, 2),
    (2, 1),
]

# Values that are no lots, whatever stands.
WRONG_LOTS = NOT_TUPLES + [
    (False,),
    (False, True),
    (False, True, 2),
    (0, True, 2),
    (None,),
    ("0",),
    ([],),
    ([0],),
    ((0,),),
    ((0,), (0, 1, 2)),
    ({},),
    (0, 1, None),
    (KeepError("x"),),
    [0, 1, 2],
    {0: 1},
    (-1,),
    (3,),
    (0, 1, 2, 3),
    (0, 0),
    (0, 0, 1, 2),
    (1, 0),
    (2, 1, 0),
    (0, 2, 1),
    (64,),
    (10 ** 30,),
]


def word(thing, n, *reads):
    """The event of a deed that writes a word into one thing."""
    return "do", tuple(reads), ((thing, "word", n),)


def write(*things):
    """The event of a deed that writes words into several things."""
    return "do", (), tuple((thing, "word", 1) for thing in things)


def read(thing, *reads):
    """The event of a deed that reads some things and writes a sum into one."""
    return "do", tuple(reads), ((thing, "sum", 1),)
