"""What the tests of deeds that are done have in common: the calls that deeds name, and random deeds."""

from mender_case import memories
from ringlaps.calm import calm_round
from ringlaps.mender import Mender

# Tuples that name no call: without a word, with a wrong one, and with a wrong number of items.
WRONG_DEEDS = [
    (),
    ("",),
    ("", 1),
    ("jump", 1),
    ("Tell", 1),
    ("hold", 1, 4),
    ("let go", 1),
    ("undo",),
    ("deeds",),
    (1,),
    (1, 1),
    ("tell",),
    ("tell", 1, 4),
    ("ask",),
    ("ask", 1, 4),
    ("read",),
    ("read", 0, 0),
    ("lose",),
    ("lose", 0, 0),
    ("repeat",),
    ("repeat", 0, 0),
    ("admit",),
    ("admit", 8),
    ("admit", 8, 4, 1),
    ("release",),
    ("release", 1, 1),
    ("calm", 1),
    ("calm", 1, 4),
    ("lap",),
    ("lap", 1, 1),
    ("carry",),
    ("carry", 0, 0),
    ("drop",),
    ("drop", 0, 0),
    ("again",),
    ("again", 0, 0),
]

# Letters are read and carried more often than they are written, so that they do not pile up.
RANDOM_WORDS = """
    tell ask read read read lose repeat admit calm lap carry carry carry drop again
""".split()

NET_WORDS = ("tell", "ask", "read", "lose", "repeat", "admit")
MENDER_NAMES = {"lap": "write_lap", "carry": "carry", "drop": "drop_lap", "again": "repeat_lap"}


def call_of(mender, deed):
    """Make the call that a deed names, and return what it returns."""
    word, *numbers = deed
    if word in NET_WORDS:
        return getattr(mender.net, word)(*numbers)
    if word in MENDER_NAMES:
        return getattr(mender, MENDER_NAMES[word])(*numbers)
    if word == "release":
        return mender.net.hold(numbers[0], numbers[0])
    return calm_round(mender.net)


def mender_after(net, deeds):
    """Return a mender for a copy of the net on which the calls of the deeds have been made."""
    mender = Mender(net.clone())
    for deed in deeds:
        call_of(mender, deed)
    return mender


def state_of(mender):
    """Return the four parts of what a desk with this mender tells as its state."""
    rows = [(house, *memory) for house, memory in memories(mender).items()]
    return (mender.net.snapshot(), tuple(mender.laps()), tuple(rows), tuple(mender.healers()))


def random_deed(chance, mender, most=7, release=0.0):
    """Return a deed that raises no error now."""
    net = mender.net
    houses = net.houses()
    if chance.random() < release:
        return ("release", chance.choice(houses))
    free = [place for place in range(net.size) if place not in houses]
    word = chance.choice(RANDOM_WORDS)
    if word == "calm":
        return ("calm",)
    if word == "admit" and free and len(houses) < most:
        place = chance.choice(free)
        return ("admit", place, chance.choice([*houses, *houses, place]))
    rows = mender.laps() if word in MENDER_NAMES else net.letters()
    if word in ("read", "lose", "carry", "drop") and rows:
        return (word, chance.randrange(len(rows)))
    if word in ("repeat", "again") and rows and len(rows) < 10:
        return (word, chance.randrange(len(rows)))
    return (chance.choice(["tell", "ask", "lap"]), chance.choice(houses))


def random_deeds(chance, net, count, **more):
    """Return deeds that raise no error when they are done one after the other."""
    mender = Mender(net.clone())
    deeds = []
    for _ in range(count):
        deeds.append(random_deed(chance, mender, **more))
        call_of(mender, deeds[-1])
    return deeds
