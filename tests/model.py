"""A second account of points 4 to 9, told from the whole row at once, and rows to try it on.

It looks up in the row what the program keeps in a state; of the program it uses plain alone, for the words.
"""

from keptabroad.deeds import plain


class Told:
    """What the document says of a row, for a row that is one."""

    def __init__(self, homes, row):
        self.homes = homes
        self.row = row
        self.places = [place for place, event in enumerate(row) if event[0] == "do"]

    def writes(self, deed):
        return [write[0] for write in self.row[self.places[deed]][2]]

    def done(self, end):
        return [deed for deed, place in enumerate(self.places) if place < end]

    def is_up(self, house, end):
        last = [event[0] for event in self.row[:end] if event[0] in ("fall", "up") and event[1] == house]
        return not last or last[-1] == "up"

    def needs(self, deed):
        place = self.places[deed]
        found = set()
        for thing in set(self.row[place][1]) | set(self.writes(deed)):
            writers = [other for other in self.done(place)
                       if thing in self.writes(other) and other not in self.gone(place)]
            found |= set(writers[-1:])
        return found

    def leans(self, deed):
        found = {deed}
        for other in self.needs(deed):
            found |= self.leans(other)
        return found

    def safety(self, card, end):
        """How a card stands behind the first events: "unsafe", "safe", or the place of the fall that lost it."""
        deed, thing = card
        for place in range(self.places[deed] + 1, end):
            event = self.row[place]
            if event[0] == "sync" and event[1] == self.homes[thing]:
                return "safe"
            if event[0] == "fall" and event[1] == self.homes[thing]:
                return "safe" if card in event[2] else place
        return "unsafe"

    def gone(self, end):
        found = set()
        for place in range(end):
            if self.row[place][0] != "up":
                continue
            for deed in self.done(place):
                for thing in self.writes(deed):
                    here = self.homes[thing] == self.row[place][1]
                    if here and deed not in found and self.safety((deed, thing), place) not in ("safe", "unsafe"):
                        found |= {other for other in self.done(place) if deed in self.leans_of(other)}
        return found

    def leans_of(self, deed):
        if not hasattr(self, "memory"):
            self.memory = {}
        if deed not in self.memory:
            self.memory[deed] = self.leans(deed)
        return self.memory[deed]

    def standing(self, end):
        return [deed for deed in self.done(end) if deed not in self.gone(end)]

    def unsafe(self, end):
        return sorted((deed, thing) for deed in self.standing(end) for thing in self.writes(deed)
                      if self.safety((deed, thing), end) != "safe")

    def sure(self, end):
        risky = {deed for deed, _ in self.unsafe(end)}
        return [deed for deed in self.standing(end) if not risky & self.leans_of(deed)]

    def words(self, end):
        return plain(self.homes, tuple(self.row[self.places[deed]][1:] for deed in self.standing(end)))

    def can_come(self, event):
        """Whether something that has the form of an event can come behind the row."""
        end = len(self.row)
        if event[0] == "do":
            things = set(event[1]) | {write[0] for write in event[2]}
            return all(self.is_up(self.homes[thing], end) for thing in things)
        if event[0] == "up":
            return not self.is_up(event[1], end)
        if event[0] == "hear":
            sends = [other for other in self.row if other[0] == "send"]
            return event[1] < len(sends) and self.is_up(sends[event[1]][2], end)
        if event[0] == "fall":
            good = [card for card in self.unsafe(end)
                    if self.homes[card[1]] == event[1] and self.safety(card, end) == "unsafe"]
            return self.is_up(event[1], end) and all(card in good for card in event[2])
        return self.is_up(event[1], end)


def some_homes(chance):
    return tuple(chance.randint(0, 3) for _ in range(chance.randint(1, 6)))


def some_things(chance, homes, least):
    things = range(len(homes))
    return sorted(chance.sample(things, chance.randint(least, min(3, len(homes)))))


def some_event(chance, told):
    """Something that has the form of an event; often it can come."""
    homes, end = told.homes, len(told.row)
    house = chance.randint(0, max(homes))
    kind = chance.choice(["do"] * 8 + ["sync", "fall", "up", "up", "send", "hear"])
    if kind == "do":
        writes = [(thing, chance.choice(["word", "sum"]), chance.choice([0, 1, 5, 500, 999]))
                  for thing in some_things(chance, homes, 1)]
        return "do", tuple(some_things(chance, homes, 0)), tuple(writes)
    if kind == "fall":
        good = [card for card in told.unsafe(end) if homes[card[1]] == house]
        every = [(deed, thing) for deed in told.done(end) for thing in told.writes(deed)]
        pool = good if chance.random() < 0.8 else every
        return "fall", house, tuple(sorted(chance.sample(pool, chance.randint(0, len(pool)))))
    if kind == "send":
        other = chance.randint(0, max(homes))
        return ("send", house, other) if other != house else ("sync", house)
    if kind == "hear":
        return "hear", chance.randint(0, 5)
    return kind, house
