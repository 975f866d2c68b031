"""A second account of points 4 to 16, told from the whole row at once, and rows to try it on.

It looks up in the row what the program keeps in a state; of the program it uses plain alone, for the words.
"""

from itertools import combinations, product

from keptabroad.deeds import plain


class Told:
    """What the document says of a row, for a row that is one."""

    def __init__(self, homes, row):
        self.homes = homes
        self.row = row
        self.places = [place for place, event in enumerate(row) if event[0] == "do"]
        self.houses = range(max(homes) + 1)
        self.memory = {}

    def once(self, key, tell):
        """What tell tells, remembered under a key."""
        if key not in self.memory:
            self.memory[key] = tell()
        return self.memory[key]

    def then(self, events):
        """The account of the row with more events behind it: what was told of the row stays true."""
        longer = Told(self.homes, self.row + events)
        longer.memory = {key: self.memory[key] for key in self.memory if key[0] in ("gone", "leans", "marks")}
        return longer

    def writes(self, deed):
        return [write[0] for write in self.row[self.places[deed]][2]]

    def done(self, end):
        return [deed for deed, place in enumerate(self.places) if place < end]

    def is_up(self, house, end):
        last = [event[0] for event in self.row[:end] if event[0] in ("fall", "up") and event[1] == house]
        return not last or last[-1] == "up"

    def needs(self, deed):
        place = self.places[deed]
        found = set()
        for thing in set(self.row[place][1]) | set(self.writes(deed)):
            writers = [other for other in self.done(place)
                       if thing in self.writes(other) and other not in self.gone(place)]
            found |= set(writers[-1:])
        return found

    def leans(self, deed):
        found = {deed}
        for other in self.needs(deed):
            found |= self.leans_of(other)
        return found

    def safety(self, card, end):
        """How a card stands behind the first events: "unsafe", "safe", or the place of the fall that lost it."""
        deed, thing = card
        for place in range(self.places[deed] + 1, end):
            event = self.row[place]
            if event[0] == "sync" and event[1] == self.homes[thing]:
                return "safe"
            if event[0] == "fall" and event[1] == self.homes[thing]:
                return "safe" if card in event[2] else place
        return "unsafe"

    def gone(self, end):
        return self.once(("gone", end), lambda: self.gone_behind(end))

    def gone_behind(self, end):
        found = set()
        for place in range(end):
            if self.row[place][0] != "up":
                continue
            for deed in self.done(place):
                for thing in self.writes(deed):
                    here = self.homes[thing] == self.row[place][1]
                    if here and deed not in found and self.safety((deed, thing), place) not in ("safe", "unsafe"):
                        found |= {other for other in self.done(place) if deed in self.leans_of(other)}
        return found

    def leans_of(self, deed):
        return self.once(("leans", deed), lambda: self.leans(deed))

    def standing(self, end):
        return [deed for deed in self.done(end) if deed not in self.gone(end)]

    def unsafe(self, end):
        return sorted((deed, thing) for deed in self.standing(end) for thing in self.writes(deed)
                      if self.safety((deed, thing), end) != "safe")

    def sure(self, end):
        risky = {deed for deed, _ in self.unsafe(end)}
        return [deed for deed in self.standing(end) if not risky & self.leans_of(deed)]

    def words(self, end):
        return plain(self.homes, tuple(self.row[self.places[deed]][1:] for deed in self.standing(end)))

    def marks(self, house, end):
        """The marks of a house behind the first events, told from the last of these back."""
        if end == 0:
            return [0 for _ in self.houses]
        return list(self.once(("marks", house, end), lambda: self.marks_behind(house, end, self.row[end - 1])))

    def marks_behind(self, house, end, event):
        found = self.marks(house, end - 1)
        if event[0] == "sync" and event[1] == house:
            found[house] = len(self.done(end))
        if event[0] == "up" and self.is_up(house, end):
            found[event[1]] = len(self.done(end))
        if event == ("up", house):
            found = [self.done_at_up(other, end) for other in self.houses]
        if event[0] == "hear":
            place = [place for place, sent in enumerate(self.row) if sent[0] == "send"][event[1]]
            if self.row[place][2] == house:
                letter = self.marks(self.row[place][1], place)
                found = [max(pair) for pair in zip(found, letter)]
        return found

    def done_at_up(self, house, end):
        places = [place for place in range(end) if self.row[place] == ("up", house)]
        return len(self.done(places[-1])) if places else 0

    def unknown(self, house, deeds):
        """The cards of deeds that are not known safe to a house behind the whole row, ascending."""
        known = self.marks(house, len(self.row))
        return sorted((deed, thing) for deed in deeds for thing in self.writes(deed)
                      if not deed < known[self.homes[thing]])

    def known_sure(self, house):
        return [deed for deed in self.standing(len(self.row)) if not self.unknown(house, self.leans_of(deed))]

    def is_alike(self, other, house):
        mine, its = len(self.row), len(other.row)
        return ([event for event in self.row if event[0] == "do"] == [event for event in other.row if event[0] == "do"]
                and self.gone(mine) == other.gone(its)
                and all(self.is_up(each, mine) == other.is_up(each, its) for each in self.houses)
                and self.marks(house, mine) == other.marks(house, its))

    def unsafe_at(self, house, end):
        """The unsafe cards at a house, without those lost."""
        return [card for card in self.unsafe(end)
                if self.homes[card[1]] == house and self.safety(card, end) == "unsafe"]

    def doubt_of(self, house, card):
        """The pair of point 13 for a card that is not known safe to a house."""
        home = self.homes[card[1]]
        most = self.marks(house, len(self.row))[home]
        one = [event for place, event in enumerate(self.row)
               if event != ("sync", home) or len(self.done(place)) <= most]
        falls = [place for place, event in enumerate(one) if event[:2] == ("fall", home)]
        up = self.is_up(home, len(self.row))
        place = len(one) if up else falls[-1]
        kept = [other for other in Told(self.homes, one).unsafe_at(home, place) if other != card]
        fall = ("fall", home, tuple(kept))
        if up:
            return tuple(one), (fall, ("up", home))
        one[place] = fall
        return tuple(one), (("up", home),)

    def news(self, house, deed):
        """The best of all syncs of houses that are up and letters of others, None if none does."""
        found = [rest for known, rest in self.once(("news", house), lambda: self.all_news(house)) if deed in known]
        return min(found)[2] if found else None

    def all_news(self, house):
        """For each choice of syncs and letters what is known sure behind it, then its length, senders and events."""
        ups = [other for other in self.houses if self.is_up(other, len(self.row))]
        others = [other for other in ups if other != house]
        letters = len([event for event in self.row if event[0] == "send"])
        found = []
        for syncs, senders in product(some_of(ups), some_of(others)):
            events = tuple(("sync", other) for other in syncs)
            events += tuple(("send", other, house) for other in senders)
            events += tuple(("hear", letters + index) for index in range(len(senders)))
            known = self.then(events).known_sure(house)
            found.append((known, (len(events), senders, events)))
        return found

    def cards_of(self, thing):
        return [(deed, thing) for deed in self.standing(len(self.row)) if thing in self.writes(deed)]

    def why_kept(self, card):
        """The cards not known safe to the home for which a card must be kept; None for the last one of its thing."""
        deed, thing = card
        later = [other for other, _ in self.cards_of(thing) if other > deed]
        if not later:
            return None
        return self.unknown(self.homes[thing], self.leans_of(later[0]) - self.leans_of(deed))

    def must_keep(self, house):
        cards = [card for thing, home in enumerate(self.homes) if home == house for card in self.cards_of(thing)]
        return sorted(card for card in cards if self.why_kept(card) != [])

    def lots(self, houses):
        """What stands behind all ways in which houses can fall now and come up, each lot with its ways."""
        end = len(self.row)
        found = {}
        for keeps in product(*[some_of(self.unsafe_at(house, end)) for house in houses]):
            events = tuple(("fall", house, keep) for house, keep in zip(houses, keeps))
            events += tuple(("up", house) for house in houses)
            lot = tuple(self.then(events).standing(end + len(events)))
            found.setdefault(lot, []).append(events)
        return found

    def can_come(self, event):
        """Whether something that has the form of an event can come behind the row."""
        end = len(self.row)
        if event[0] == "do":
            things = set(event[1]) | {write[0] for write in event[2]}
            return all(self.is_up(self.homes[thing], end) for thing in things)
        if event[0] == "up":
            return not self.is_up(event[1], end)
        if event[0] == "hear":
            sends = [other for other in self.row if other[0] == "send"]
            return event[1] < len(sends) and self.is_up(sends[event[1]][2], end)
        if event[0] == "fall":
            good = [card for card in self.unsafe(end)
                    if self.homes[card[1]] == event[1] and self.safety(card, end) == "unsafe"]
            return self.is_up(event[1], end) and all(card in good for card in event[2])
        return self.is_up(event[1], end)


def some_of(items):
    """All tuples of some of the items, in their order."""
    return [some for many in range(len(items) + 1) for some in combinations(items, many)]


def some_homes(chance):
    return tuple(chance.randint(0, 3) for _ in range(chance.randint(1, 6)))


def some_things(chance, homes, least):
    things = range(len(homes))
    return sorted(chance.sample(things, chance.randint(least, min(3, len(homes)))))


KINDS = ("do",) * 8 + ("sync", "fall", "up", "up", "send", "hear")
# Kinds for rows in which more is known.
LETTERS = ("do",) * 6 + ("sync", "sync", "fall", "up", "up", "send", "hear", "hear")


def some_event(chance, told, kinds=KINDS):
    """Something that has the form of an event; often it can come."""
    homes, end = told.homes, len(told.row)
    house = chance.randint(0, max(homes))
    kind = chance.choice(kinds)
    if kind == "do":
        writes = [(thing, chance.choice(["word", "sum"]), chance.choice([0, 1, 5, 500, 999]))
                  for thing in some_things(chance, homes, 1)]
        return "do", tuple(some_things(chance, homes, 0)), tuple(writes)
    if kind == "fall":
        good = [card for card in told.unsafe(end) if homes[card[1]] == house]
        every = [(deed, thing) for deed in told.done(end) for thing in told.writes(deed)]
        pool = good if chance.random() < 0.8 else every
        return "fall", house, tuple(sorted(chance.sample(pool, chance.randint(0, len(pool)))))
    if kind == "send":
        other = chance.randint(0, max(homes))
        return ("send", house, other) if other != house else ("sync", house)
    if kind == "hear":
        return "hear", chance.randint(0, 5)
    return kind, house


def some_row(chance, homes, many):
    """A row that some of many events can make, and in which more is known."""
    told = Told(homes, ())
    for _ in range(many):
        event = some_event(chance, told, LETTERS)
        if told.can_come(event):
            told = Told(homes, told.row + (event,))
    return told.row
