"""Houses, in which parts have names, nets are made of names, and promises are kept."""

from anyaround.errors import Broken, InUse, NotKept, NotWatched, Watched
from anyaround.parts import Part
from anyaround.promises import (broken_in, checked_promise, holds_in, is_promise_in, names_told, shown_in,
                                turns_between)
from anyaround.rooms import (Rooms, behind_put, check_means, is_same, names_within, users_in, whole_in, with_kept)
from anyaround.surroundings import check_kind


class House:
    """Names that mean parts or nets of names, and promises that are watched."""

    def __init__(self):
        self._rooms = Rooms({}, [], {})
        # The deeds that are done, each with the rooms ahead of it; and those taken back, each with the rooms behind it.
        # None of these lists is ever changed: each deed makes new ones.
        self._past = []
        self._later = []

    def put(self, name, thing):
        """Have a name mean a part or a net of names."""
        rooms = behind_put(self._rooms, name, thing)
        broken = broken_in(rooms, [name] + users_in(rooms.means, name))
        if broken:
            raise Broken(broken[0])
        do(self, "put", rooms)

    def take(self, name):
        """Have a name mean nothing more."""
        rooms = self._rooms
        check_means(rooms, name)
        users = [user for user in sorted(rooms.means) if name in names_within(rooms.means[user])]
        users.extend([promise for promise in rooms.kept if name in names_told(promise)])
        if users:
            raise InUse(users[0])
        means = {other: rooms.means[other] for other in rooms.means if other != name}
        wholes = {other: rooms.wholes[other] for other in rooms.wholes if other != name}
        do(self, "take", Rooms(means, rooms.kept, wholes))

    def part(self, name):
        """The part that a name means."""
        check_means(self._rooms, name)
        return whole_in(self._rooms, name)

    def thing(self, name):
        """What was put for a name, a net as a tuple, with tuples for all lists."""
        check_means(self._rooms, name)
        return self._rooms.means[name]

    def names(self):
        """The dict from the names to "part" or "net"."""
        means = self._rooms.means
        return {name: "part" if isinstance(means[name], Part) else "net" for name in sorted(means)}

    def users(self, name):
        """The ascending list of the names of nets that name a name, or name a net that does."""
        check_means(self._rooms, name)
        return users_in(self._rooms.means, name)

    def is_promise(self, thing):
        """Whether any object is a promise now."""
        return is_promise_in(self._rooms, thing)

    def holds(self, promise):
        """Whether a promise holds."""
        return holds_in(self._rooms, checked_promise(self._rooms, promise))

    def shown(self, promise):
        """A pair: whether a promise holds, what shows it."""
        return shown_in(self._rooms, checked_promise(self._rooms, promise))

    def watch(self, promise):
        """Keep a promise that holds from being broken."""
        rooms = self._rooms
        found = checked_promise(rooms, promise)
        if any([is_same(found, kept) for kept in rooms.kept]):
            raise Watched(promise)
        if not holds_in(rooms, found):
            raise NotKept(promise)
        do(self, "watch", with_kept(rooms, rooms.kept + [found]))

    def unwatch(self, promise):
        """Keep a promise no more."""
        rooms = self._rooms
        kept = [one for one in rooms.kept if not is_same(one, promise)]
        if len(kept) == len(rooms.kept):
            raise NotWatched(promise)
        do(self, "unwatch", with_kept(rooms, kept))

    def watched(self):
        """The list of the watched promises, in the order in which they came."""
        return list(self._rooms.kept)

    def broken_by(self, name, thing):
        """The list of the watched promises that would not hold behind a put, or would be none."""
        rooms = behind_put(self._rooms, name, thing)
        return broken_in(rooms, [name] + users_in(rooms.means, name))

    def turned_by(self, name, thing, kind):
        """The dict from the names whose forms a put would change to "better", "worse" or "beside"."""
        check_kind(kind)
        rooms = behind_put(self._rooms, name, thing)
        return turns_between(self._rooms, rooms, sorted([name] + users_in(rooms.means, name)), kind)

    def undo(self):
        """Take the last deed back; its word, None if there is none."""
        if not self._past:
            return None
        word, rooms = self._past[-1]
        self._later = self._later + [(word, self._rooms)]
        self._past = self._past[:-1]
        self._rooms = rooms
        return word

    def redo(self):
        """Do the deed again that was taken back last; its word, None if there is none."""
        if not self._later:
            return None
        word, rooms = self._later[-1]
        self._past = self._past + [(word, self._rooms)]
        self._later = self._later[:-1]
        self._rooms = rooms
        return word

    def done(self):
        """The list of the words of the deeds that are done and not taken back."""
        return [word for word, _ in self._past]

    def twin(self):
        """Another house that is the same and goes on by itself."""
        other = House()
        other._rooms = self._rooms
        other._past = self._past
        other._later = self._later
        return other

    def trial(self, work):
        """What work answers, called with the house, which is behind it as it is ahead of it."""
        rooms = self._rooms
        past = self._past
        later = self._later
        try:
            return work(self)
        finally:
            self._rooms, self._past, self._later = rooms, past, later

    def __eq__(self, other):
        if not isinstance(other, House):
            return False
        return self._rooms.means == other._rooms.means and self._rooms.kept == other._rooms.kept


def do(house, word, rooms):
    """Do a deed: give a house its rooms behind it, and end what could be done again."""
    house._past = house._past + [(word, house._rooms)]
    house._later = []
    house._rooms = rooms
