"""Homes, deeds and the words that deeds write."""

from keptabroad.checks import is_number, is_rising, is_tuple
from keptabroad.errors import BadDeeds, BadHomes

MOST_HOMES = 6
LAST_HOUSE = 3
MOST_READS = 3
MOST_WRITES = 3
MOST_DEEDS = 60
WORDS = 1000


def houses_of(homes):
    """The number of the houses."""
    check_homes(homes)
    return max(homes) + 1


def is_deed(homes, value):
    """Whether a value is a deed of the things of homes."""
    check_homes(homes)
    return has_deed_form(homes, value)


def plain(homes, deeds):
    """The words behind deeds that are done in order."""
    check_homes(homes)
    check_deeds(homes, deeds)
    words = [0] * len(homes)
    for deed in deeds:
        wrote = written(words, deed)
        for thing, word in wrote:
            words[thing] = word
    return tuple(words)


def check_homes(homes):
    """Raises BadHomes for a value that is no homes."""
    if not is_tuple(homes, 1, MOST_HOMES) or not all([is_number(home, 0, LAST_HOUSE) for home in homes]):
        raise BadHomes("homes are a tuple of 1 to 6 integers from 0 to 3")


def check_deeds(homes, deeds):
    """Raises BadDeeds for a value that is no tuple of at most 60 deeds."""
    if not is_tuple(deeds, 0, MOST_DEEDS):
        raise BadDeeds(None)
    for index, deed in enumerate(deeds):
        if not has_deed_form(homes, deed):
            raise BadDeeds(index)


def has_deed_form(homes, value):
    """Whether a value is a deed, for homes that are checked already."""
    return is_tuple(value, 2, 2) and are_reads(homes, value[0]) and are_writes(homes, value[1])


def is_thing(homes, value):
    """Whether a value is a thing of homes."""
    return is_number(value, 0, len(homes) - 1)


def are_reads(homes, value):
    """Whether a value can be the reads of a deed."""
    return is_tuple(value, 0, MOST_READS) and all([is_thing(homes, thing) for thing in value]) and is_rising(value)


def are_writes(homes, value):
    """Whether a value can be the writes of a deed."""
    if not is_tuple(value, 1, MOST_WRITES) or not all([is_write(homes, write) for write in value]):
        return False
    return is_rising([write[0] for write in value])


def is_write(homes, value):
    """Whether a value can be one of the writes of a deed."""
    if not is_tuple(value, 3, 3):
        return False
    thing, make, n = value
    return is_thing(homes, thing) and make in ("word", "sum") and is_number(n, 0, WORDS - 1)


def things_of(deed):
    """The things that a deed reads or writes, ascending."""
    reads, writes = deed
    return sorted(set(list(reads) + [write[0] for write in writes]))


def written(words, deed):
    """The pairs (thing, word) that a deed writes, where it finds these words."""
    reads, writes = deed
    read = sum([words[thing] for thing in reads])
    pairs = []
    for thing, make, n in writes:
        if make == "word":
            pairs.append((thing, n))
        else:
            pairs.append((thing, (n + read) % WORDS))
    return pairs
