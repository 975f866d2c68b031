"""Values that several tests use."""

from keptabroad.desks import Desk
from keptabroad.errors import BadDeeds, KeepError

HOMES = (0, 1, 2)
EVENTS = (
    ("do", (), ((0, "word", 7),)),
    ("do", (0,), ((1, "sum", 1),)),
    ("do", (1,), ((0, "sum", 0), (2, "word", 5))),
)
DEEDS = tuple(event[1:] for event in EVENTS)

NOT_INTEGERS = [True, False, None, "", "0", "one", (), (0,), [], [0], {}, {0: 0}, (0, (1,)), BadDeeds(0), Desk((0,))]

NOT_TUPLES = [0, 1, -1, 10 ** 30, True, False, None, "", "ab", "do", [], [0], [0, 1], {}, {0: 1}, KeepError("x"),
              Desk((0, 1))]

WRONG_HOMES = NOT_TUPLES + [
    (),
    (4,),
    (-1,),
    (0, 4),
    (3, -1),
    (0, 0, 0, 0, 0, 0, 0),
    (0, 1, 2, 3, 0, 1, 2),
    (0, True),
    (False,),
    (0, None),
    ("0",),
    ([0],),
    ((0,),),
    ({},),
    (10 ** 40,),
    (0, KeepError("x")),
]

# Values that are no deeds of the three things of HOMES.
WRONG_DEEDS = NOT_TUPLES + [
    (),
    ((),),
    ((), ()),
    ((), (), ()),
    ((), ((0, "word", 7),), ()),
    (None, ((0, "word", 7),)),
    ([], ((0, "word", 7),)),
    ("", ((0, "word", 7),)),
    ({}, ((0, "word", 7),)),
    (0, ((0, "word", 7),)),
    ((3,), ((0, "word", 7),)),
    ((-1,), ((0, "word", 7),)),
    ((True,), ((0, "word", 7),)),
    ((False, 1), ((0, "word", 7),)),
    (("0",), ((0, "word", 7),)),
    (((0,),), ((0, "word", 7),)),
    (([],), ((0, "word", 7),)),
    ((0, 0), ((0, "word", 7),)),
    ((1, 0), ((0, "word", 7),)),
    ((0, 2, 1), ((0, "word", 7),)),
    ((0, 1, 2, 2), ((0, "word", 7),)),
    ((), None),
    ((), 7),
    ((), "word"),
    ((), [(0, "word", 7)]),
    ((), {0: "word"}),
    ((), (0, "word", 7)),
    ((), ([0, "word", 7],)),
    ((), ("abc",)),
    ((), ((0, "word"),)),
    ((), ((0, "word", 7, 0),)),
    ((), ((3, "word", 7),)),
    ((), ((-1, "word", 7),)),
    ((), ((False, "word", 7),)),
    ((), ((True, "word", 7),)),
    ((), (("0", "word", 7),)),
    ((), (([], "word", 7),)),
    ((), ((0, "words", 7),)),
    ((), ((0, "", 7),)),
    ((), ((0, "Sum", 7),)),
    ((), ((0, None, 7),)),
    ((), ((0, [], 7),)),
    ((), ((0, {}, 7),)),
    ((), ((0, ("word",), 7),)),
    ((), ((0, 0, 7),)),
    ((), ((0, "word", -1),)),
    ((), ((0, "word", 1000),)),
    ((), ((0, "sum", -1),)),
    ((), ((0, "sum", 1000),)),
    ((), ((0, "word", True),)),
    ((), ((0, "sum", False),)),
    ((), ((0, "word", None),)),
    ((), ((0, "word", "7"),)),
    ((), ((0, "word", (7,)),)),
    ((), ((0, "word", 7), (0, "sum", 7))),
    ((), ((1, "word", 7), (0, "word", 7))),
    ((), ((0, "word", 7), (1, "word", 7), (2, "word", 7), (2, "word", 8))),
    ((), ((0, "word", 7), None)),
    (((0, "word", 7),), ()),
]

# Values that are no events of the three things and three houses of HOMES.
WRONG_EVENTS = NOT_TUPLES + [
    (),
    ((),),
    (None,),
    (0,),
    (True, 0),
    ([], 0),
    ({}, 0),
    (("up",), 0),
    ("",),
    ("run", 0),
    ("Sync", 0),
    ["sync", 0],
    ("do",),
    ("do", ()),
    ("do", (), ((0, "word", 7),), ()),
    ("do", ((), ((0, "word", 7),))),
    ("sync",),
    ("sync", 0, 0),
    ("sync", (0,)),
    ("fall",),
    ("fall", 0),
    ("fall", 0, (), ()),
    ("fall", (), 0),
    ("fall", 0, None),
    ("fall", 0, 0),
    ("fall", 0, ""),
    ("fall", 0, []),
    ("fall", 0, {}),
    ("fall", 0, (0, 0)),
    ("fall", 0, ((),)),
    ("fall", 0, ((0,),)),
    ("fall", 0, ((0, 0, 0),)),
    ("fall", 0, ([0, 0],)),
    ("fall", 0, ("00",)),
    ("fall", 0, ((0, 3),)),
    ("fall", 0, ((0, -1),)),
    ("fall", 0, ((64, 0),)),
    ("fall", 0, ((-1, 0),)),
    ("fall", 0, ((False, 0),)),
    ("fall", 0, ((0, False),)),
    ("fall", 0, (("0", 0),)),
    ("fall", 0, ((0, None),)),
    ("fall", 0, ((0, []),)),
    ("fall", 0, ((0, 0), (0, 0))),
    ("fall", 0, ((2, 0), (0, 0))),
    ("up",),
    ("up", 0, 0),
    ("send",),
    ("send", 0),
    ("send", 0, 1, 2),
    ("send", 0, 0),
    ("send", (0, 1)),
    ("send", 0, 3),
    ("send", 3, 0),
    ("send", 0, -1),
    ("send", 0, True),
    ("send", True, 0),
    ("send", "0", 1),
    ("send", 0, None),
    ("hear",),
    ("hear", 0, 0),
    ("hear", -1),
    ("hear", 64),
    ("hear", (0,)),
] + [
    ("do",) + deed for deed in WRONG_DEEDS if isinstance(deed, tuple) and len(deed) == 2
] + [
    (word, value) for word in ("sync", "up") for value in NOT_INTEGERS + [-1, 3, 64]
] + [
    ("hear", value) for value in NOT_INTEGERS
] + [
    ("fall", value, ()) for value in NOT_INTEGERS + [-1, 3, 64]
]

# Values that are no houses of HOMES.
WRONG_HOUSE = NOT_INTEGERS + [-1, 3, 4, 64, 10 ** 30]

# Values that are no ascending tuples of unlike houses of HOMES.
WRONG_HOUSES = NOT_TUPLES + [
    (3,),
    (-1,),
    (0, 3),
    (True,),
    (False,),
    (False, 1),
    (0, True),
    (None,),
    ("0",),
    ([0],),
    ((0,),),
    ((),),
    ({},),
    (KeepError("x"),),
    (0, 0),
    (1, 0),
    (0, 2, 1),
    (0, 1, 1),
    (0, 1, 2, 3),
    (0, 1, 2, 2),
    (0, None),
]

# Values that are not cards of a thing behind EVENTS.
WRONG_CARDS = NOT_TUPLES + [
    (),
    (0,),
    (0, 0, 0),
    [0, 0],
    ((0, 0),),
    ((0, 0), (2, 0)),
    (False, 0),
    (0, False),
    (True, 1),
    (1, True),
    ("0", 0),
    (0, "0"),
    (None, 0),
    (0, None),
    ([], 0),
    (0, []),
    ({}, 0),
    (0, {}),
    ((0,), 0),
    (0, (0,)),
    (0, KeepError("x")),
    (-1, 0),
    (-3, 0),
    (0, -1),
    (0, -3),
    (3, 0),
    (0, 3),
    (64, 0),
    (10 ** 30, 0),
    (1, 0),
    (0, 1),
    (0, 2),
    (2, 1),
]

# Values that are no lots, whatever stands.
WRONG_LOTS = NOT_TUPLES + [
    (False,),
    (False, True),
    (False, True, 2),
    (0, True, 2),
    (None,),
    ("0",),
    ([],),
    ([0],),
    ((0,),),
    ((0,), (0, 1, 2)),
    ({},),
    (0, 1, None),
    (KeepError("x"),),
    [0, 1, 2],
    {0: 1},
    (-1,),
    (3,),
    (0, 1, 2, 3),
    (0, 0),
    (0, 0, 1, 2),
    (1, 0),
    (2, 1, 0),
    (0, 2, 1),
    (64,),
    (10 ** 30,),
]

# Values that are no tuples of wishes for DEEDS.
WRONG_WISHES = NOT_TUPLES + [
    (0, 1),
    (0,),
    (None,),
    ("ab",),
    ([0, 1],),
    ({},),
    ((),),
    ((0,),),
    ((0, 1, 2),),
    ((0, 0),),
    ((1, 1),),
    ((2, 2),),
    ((1, 0),),
    ((0, 4),),
    ((2, 4),),
    ((3, 4),),
    ((3, 3),),
    ((-1, 0),),
    ((-1, 1),),
    ((0, -1),),
    ((False, 1),),
    ((True, 2),),
    ((0, True),),
    ((False, True),),
    (("0", 1),),
    ((0, "1"),),
    ((None, 1),),
    ((0, None),),
    (([], 1),),
    ((0, []),),
    ((0, (1,)),),
    (((0,), 1),),
    ((0, {}),),
    ((10 ** 30, 10 ** 30 + 1),),
    ((0, 10 ** 30),),
    ((0, KeepError("x")),),
    ((0, 1), (0, 1)),
    ((0, 2), (0, 1)),
    ((1, 2), (0, 3)),
    ((0, 1), (2, 3), (1, 2)),
    ((0, 1), None),
    ((0, 1), (2, 2)),
]

# Values that are no strings.
NOT_STRINGS = [0, 1, -1, True, False, None, (), ("sync 0",), ("up", 0), [], ["sync 0"], {}, {"sync 0": 0},
               KeepError("sync 0"), Desk((0, 1))]

# Lines of no event of HOMES, and of no question to a desk.
WRONG_LINES = [
    "", " ", "  ", "\t", "-", "0", ".", ":", "x", "run 0", "None", "do", "sync", "fall", "up", "send", "hear",
    "Sync 0", "SYNC 0", "syn 0", "syncs 0", "sync0", "sync-0", "sync:0", "sync\t0", "sync  0", " sync 0", "sync 0 ",
    "sync ", "sync 0 0", "sync -", "sync x", "sync -1", "sync +0", "sync 00", "sync 01", "sync 3", "sync 4", "sync 10",
    "sync 0.0", "sync 1e0", "sync 0x1", "sync 0_1", "sync \u0660", "sync \u00b2", "sync \uff11", "sync '0'", "sync (0)",
    "sync 0\r", "sync 0\x00", "sync\u00a00", "\ufeffsync 0", "sync \ud800",
    "up 0 0", "up ", "up  0", "up 3", "up 00", "up -", "up x", "up True",
    "send 0", "send 0 ", "send 0  1", "send 0 0", "send 1 1", "send 0 3", "send 3 0", "send 0 1 2", "send 0 01",
    "send 00 1", "send 0:1", "send 0.1", "send - 1", "send 0 -", "send 0,1", "send 0 1 ", " send 0 1",
    "hear ", "hear 00", "hear 01", "hear 64", "hear 100", "hear -1", "hear 0 0", "hear x", "hear 0:0", "hear  0",
    "fall ", "fall -", "fall 3", "fall 00", "fall 0 ", "fall  0", "fall 0  0:0", "fall 0 -", "fall 0 0", "fall 0 0:",
    "fall 0 :0", "fall 0 :", "fall 0 0:0:0", "fall 0 0.0", "fall 0 0:3", "fall 0 64:0", "fall 0 100:0", "fall 0 00:0",
    "fall 0 0:00", "fall 0 -1:0", "fall 0 0:0 ", "fall 0 0:0,1:0", "fall 0 0:0 0:0", "fall 0 1:0 0:0", "fall 0 0:0 x",
    "fall 0 0:0  1:0", "fall 0:0", "fall - 0:0", "fall x 0:0", "fall 3 0:0", "fall 0 0 0",
    "do -", "do - ", "do 0", "do 0 ", "do 0:word:1", "do  0:word:1", "do - -", "do  - 0:word:1", "do -  0:word:1",
    "do - 0:word:1 ", " do - 0:word:1", "do - 0:word:1  1:word:1", "do -- 0:word:1", "do 0- 0:word:1",
    "do -.0 0:word:1", "do 0. 0:word:1", "do .0 0:word:1", "do 0..1 0:word:1", "do . 0:word:1", "do 00 0:word:1",
    "do 0.01 0:word:1", "do 3 0:word:1", "do -1 0:word:1", "do x 0:word:1", "do 0:1 0:word:1", "do 0,1 0:word:1",
    "do 0.0 0:word:1", "do 1.0 0:word:1", "do 0.2.1 0:word:1", "do 0.1.2.2 0:word:1", "do 0 1 0:word:1",
    "do - 0", "do - 0:", "do - 0:word", "do - 0:word:", "do - 0:word:1:", "do - 0:word:1:1", "do - :word:1",
    "do - 0::1", "do - 0:Word:1", "do - 0:words:1", "do - 0:wor:1", "do - 0:0:1", "do - 0: word:1", "do - word:0:1",
    "do - 0 word 1", "do - 0.word.1", "do - 3:word:1", "do - 00:word:1", "do - -0:word:1", "do - 0:word:1000",
    "do - 0:word:00", "do - 0:word:01", "do - 0:word:001", "do - 0:sum:007", "do - 0:word:-1", "do - 0:word:+1",
    "do - 0:word:x", "do - 0:word:1.0", "do - 0:word:1_0", "do - 0:word:\u0661", "do - x:word:1",
    "do - 0:word:1 0:word:1", "do - 1:word:1 0:word:1", "do - 0:word:1 x", "do - 0:word:1 1",
    "do - 0:word:1 1:word:1 2:word:1 2:word:2", "do - 0:word:1,1:word:1", "do 0:word:1 -", "do () 0:word:1",
    "do - 0:word:1\r", "do None 0:word:1", "do 0:word:1 1:word:1",
]


def word(thing, n, *reads):
    """The event of a deed that writes a word into one thing."""
    return "do", tuple(reads), ((thing, "word", n),)


def write(*things):
    """The event of a deed that writes words into several things."""
    return "do", (), tuple((thing, "word", 1) for thing in things)


def read(thing, *reads):
    """The event of a deed that reads some things and writes a sum into one."""
    return "do", tuple(reads), ((thing, "sum", 1),)
