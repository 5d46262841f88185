"""Workshops: webs that change by deeds, with places laid together in bunches and a pairing that is held.

The state of a workshop is a tuple: its base, its showing, and the held pairing or None. Changes lead from state to
state, so what is undone is a state that is kept.
"""

from oncecrossed.barriers import check_two
from oncecrossed.covered import is_covered, judge_covered
from oncecrossed.errors import (BadChange, BadLot, BadPairing, BadPlace, BadRing, BadText, Full, Held, NoBunch,
                                NotCovered, NotTight, NothingHeld, NothingToRedo, NothingToUndo, WebError)
from oncecrossed.laid import called_anew, loose_row
from oncecrossed.pairings import is_pairing_of
from oncecrossed.texts import read_web, text_of
from oncecrossed.turnings import is_turning, turned_by
from oncecrossed.webs import check_lot, check_tie, check_web, is_below, places_but

MOST_IN_BASE = 10
MOST_TIES = 30
SIZES = {"put": 3, "take": 2, "add": 1, "lay": 2, "open": 2, "hold": 2, "turn": 2, "free": 1}
HEADS = {"workshop": False, "strict workshop": True}


def places_in(item):
    """The places that stand in an item of a showing, at any depth."""
    if isinstance(item, tuple):
        return [place for part in item for place in places_in(part)]
    return [item]


def bunches_in(items):
    """The bunches that stand among items, at any depth."""
    bunches = [item for item in items if isinstance(item, tuple)]
    return bunches + [inner for bunch in bunches for inner in bunches_in(bunch)]


def shown_of(web, showing):
    """The shown web, and the numbers that its ties have in the base."""
    names = {place: at for at, item in enumerate(showing) for place in places_in(item)}
    return called_anew(web, [names[place] for place in range(web[0])])


def loose_bunch(web, showing):
    """A pairing that tells that the lot of some bunch is not tight, None if all are."""
    for bunch in bunches_in(showing):
        row = loose_row(web, tuple(sorted(places_in(bunch))))
        if row is not None:
            return row
    return None


def check_strict(state):
    """Raises NotCovered or NotTight for what is no state of a strict workshop."""
    web, showing, _ = state
    certificate = judge_covered(web)
    if certificate[0] != "covered":
        raise NotCovered(certificate)
    row = loose_bunch(web, showing)
    if row is not None:
        raise NotTight(row)


def renumbered(held, at, by):
    """A held pairing, if there is one, with its numbers from one on changed."""
    if held is None:
        return None
    return tuple([number + by if number >= at else number for number in held])


def put(state, change):
    """The state with a tie more, behind all others between its ends."""
    web, showing, held = state
    _, one, other = change
    check_two(web, one, other)
    if len(web[1]) >= MOST_TIES:
        raise Full()
    pair = (min(one, other), max(one, other))
    at = len([tie for tie in web[1] if tie <= pair])
    return (web[0], web[1][:at] + (pair,) + web[1][at:]), showing, renumbered(held, at, 1)


def take(state, change):
    """The state without a tie."""
    web, showing, held = state
    number = change[1]
    check_tie(web, number)
    if held is not None and number in held:
        raise Held()
    return (web[0], web[1][:number] + web[1][number + 1:]), showing, renumbered(held, number, -1)


def add(state):
    """The state with a place more."""
    web, showing, held = state
    if held is not None:
        raise Held()
    if web[0] >= MOST_IN_BASE:
        raise Full()
    return (web[0] + 1, web[1]), showing + (web[0],), None


def lay(state, change):
    """The state in which items of the showing are one bunch."""
    web, showing, held = state
    lot = change[1]
    shown = (len(showing), ())
    check_lot(shown, lot)
    if not 2 <= len(lot) < len(showing):
        raise BadLot(lot)
    rest = tuple([showing[at] for at in places_but(shown, lot)])
    return web, rest + (tuple([showing[at] for at in lot]),), held


def unlay(state, change):
    """The state in which the items of a bunch stand in the showing."""
    web, showing, held = state
    place = change[1]
    if not is_below(place, len(showing)):
        raise BadPlace(place)
    if not isinstance(showing[place], tuple):
        raise NoBunch(place)
    return web, showing[:place] + showing[place + 1:] + showing[place], held


def hold(state, change):
    """The state in which a pairing is held."""
    web, showing, _ = state
    pairing = change[1]
    if not is_pairing_of(web, pairing):
        raise BadPairing(pairing)
    return web, showing, pairing


def turn(state, change):
    """The state in which a ring has turned the held pairing."""
    web, showing, held = state
    ring = change[1]
    if held is None:
        raise NothingHeld()
    if not is_turning(web, held, ring):
        raise BadRing(ring)
    return web, showing, turned_by(held, ring)


def free(state):
    """The state in which no pairing is held."""
    web, showing, held = state
    if held is None:
        raise NothingHeld()
    return web, showing, None


MAKERS = {"put": put, "take": take, "lay": lay, "open": unlay, "hold": hold, "turn": turn}


def changed(state, change):
    """The state that a change leaves."""
    if not isinstance(change, tuple) or not change or not isinstance(change[0], str):
        raise BadChange(0)
    word = change[0]
    if word not in SIZES or len(change) != SIZES[word]:
        raise BadChange(0)
    if word == "add":
        return add(state)
    if word == "free":
        return free(state)
    maker = MAKERS[word]
    return maker(state, change)


def words_of(items):
    """The words that tell items of a showing."""
    return " ".join([f"( {words_of(item)} )" if isinstance(item, tuple) else str(item) for item in items])


class Workshop:
    """A web that changes by deeds, which can be undone and redone."""

    def __init__(self, web, strict=False):
        check_web(web)
        self.now = (web, places_but(web, ()), None)
        self.bound = strict
        self.done = []
        self.undone = []
        if strict:
            check_strict(self.now)

    def __eq__(self, other):
        return isinstance(other, Workshop) and str(self) == str(other)

    def __str__(self):
        web, showing, held = self.now
        lines = ["strict workshop" if self.bound else "workshop", text_of(web), f"shows {words_of(showing)}"]
        if held is not None:
            lines = lines + [f"holds {words_of(held)}"]
        return "\n".join(lines)

    def base(self):
        """The web of the workshop."""
        return self.now[0]

    def showing(self):
        """The items that are the places of the shown web."""
        return self.now[1]

    def shown(self):
        """The shown web, and the numbers that its ties have in the base."""
        web, showing, _ = self.now
        return shown_of(web, showing)

    def held(self):
        """The held pairing, None without one."""
        return self.now[2]

    def held_shown(self):
        """The numbers, in the shown web, of all shown ties that are held, None if no pairing is held."""
        held = self.held()
        if held is None:
            return None
        return tuple([at for at, number in enumerate(self.shown()[1]) if number in held])

    def is_strict(self):
        """Whether the base is covered, and all bunches are tight, for ever."""
        return self.bound

    def deeds(self):
        """How many deeds can be undone."""
        return len(self.done)

    def go(self, state):
        """Makes a deed that leaves a state."""
        if self.bound:
            check_strict(state)
        self.done.append(self.now)
        self.undone = []
        self.now = state

    def after(self, changes):
        """The state that the changes of a deal leave, whatever a strict workshop asks."""
        if not isinstance(changes, tuple):
            raise BadChange(-1)
        state = self.now
        for at, change in enumerate(changes):
            try:
                state = changed(state, change)
            except WebError:
                raise BadChange(at) from None
        return state

    def change(self, change):
        """Does a change."""
        self.go(changed(self.now, change))

    def deal(self, changes):
        """Does changes, one behind the other, as one deed."""
        self.go(self.after(changes))

    def would(self, changes):
        """Whether deal would do what is passed; does nothing."""
        try:
            state = self.after(changes)
            if self.bound:
                check_strict(state)
        except WebError:
            return False
        return True

    def undo(self):
        """Takes the last deed back."""
        if not self.done:
            raise NothingToUndo()
        self.undone.append(self.now)
        self.now = self.done.pop()

    def redo(self):
        """Does again the deed that was taken back last."""
        if not self.undone:
            raise NothingToRedo()
        self.done.append(self.now)
        self.now = self.undone.pop()

    def copied(self):
        """Another workshop that is equal, with the same deeds to undo and to redo."""
        other = Workshop(self.base(), self.bound)
        other.now = self.now
        other.done = list(self.done)
        other.undone = list(self.undone)
        return other


def read_base(lines):
    """The web of the lines behind the first one of a text, up to the one that tells the showing."""
    try:
        return read_web("\n".join(lines))
    except BadText as wrong:
        raise BadText(wrong.at + 1) from None


def read_showing(line, places):
    """The showing that a line tells, None if it is wrong."""
    names = {str(place): place for place in range(places)}
    # Of each bunch that is begun and not ended, the items so far; at first those of the showing.
    begun = [()]
    for word in line.split(" ")[1:]:
        if word == "(":
            begun.append(())
        elif word == ")" and len(begun) > 1 and len(begun[-1]) > 1:
            bunch = begun.pop()
            begun[-1] = begun[-1] + (bunch,)
        elif word in names:
            begun[-1] = begun[-1] + (names.pop(word),)
        else:
            return None
    if names or len(begun) > 1 or len(begun[0]) < min(2, places):
        return None
    return begun[0]


def read_held(line, web):
    """The pairing that a line tells to be held, None if it is wrong."""
    names = {str(number): number for number in range(len(web[1]))}
    words = line.split(" ")
    held = tuple([names[word] for word in words[1:] if word in names])
    if words[0] != "holds" or len(held) < len(words) - 1 or not is_pairing_of(web, held):
        return None
    return held


def read_workshop(text):
    """The workshop with a text, without deeds."""
    if not isinstance(text, str):
        raise BadText(0)
    lines = text.split("\n")
    if lines[0] not in HEADS:
        raise BadText(1)
    strict = HEADS[lines[0]]
    at = 1
    while at < len(lines) and lines[at].split(" ")[0] != "shows":
        at += 1
    web = read_base(lines[1:at])
    showing = read_showing(lines[at], web[0]) if at < len(lines) else None
    if showing is None or strict and not (is_covered(web) and loose_bunch(web, showing) is None):
        raise BadText(at + 1)
    held = None
    if len(lines) > at + 1:
        held = read_held(lines[at + 1], web)
        if held is None:
            raise BadText(at + 2)
    if len(lines) > at + 2:
        raise BadText(at + 3)
    shop = Workshop(web, strict)
    shop.now = (web, showing, held)
    return shop
