"""What programs show whatever the works are: the counts of their names, and two programs beside one another."""

from anyaround.chains import many_times
from anyaround.checks import is_integer, is_list
from anyaround.errors import BadKind
from anyaround.simplex import shares_for
from anyaround.trees import checked_whole, names_in


def count_of(many):
    """The count of a dict from names to how often."""
    return tuple([(name, many[name]) for name in sorted(many)])


def together(one, other):
    """Two counts together."""
    many = {name: times for name, times in one}
    for name, times in other:
        many[name] = many.get(name, 0) + times
    return count_of(many)


def each_with_each(one, other):
    """The unlike counts of each of some and each of others together."""
    return list({together(left, right): True for left in one for right in other})


def counts_by_nodes(tree):
    """The lists of the unlike counts of once-runs, by the nodes of a program."""
    found = [None] * len(tree.words)
    for number in reversed(range(len(tree.words))):
        word = tree.words[number]
        inner = [found[piece] for piece in tree.pieces[number]]
        if word == "do":
            counts = [((tree.marks[number], 1),)]
        elif word == "often":
            counts = many_times(inner[0], tree.marks[number], each_with_each)
        else:
            counts = inner[0]
            for more in inner[1:]:
                counts = each_with_each(counts, more) if word == "behind" else counts + more
        found[number] = list({count: True for count in counts})
    return found


def counts_of(tree):
    """A pair of ascending lists: the unlike counts of once-runs, and those of rounds."""
    found = counts_by_nodes(tree)
    rounds = {}
    for number, word in enumerate(tree.words):
        if word == "again":
            for count in found[tree.pieces[number][0]]:
                rounds[count] = True
    return sorted(found[0]), sorted(rounds)


def once_counts(program):
    """A pair of ascending lists: the counts of once-runs of a program, and those of rounds."""
    return counts_of(checked_whole(program))


class Beside:
    """Two programs without a hole beside one another, for a kind: their counts, and the names in either."""

    def __init__(self, one, other, kind):
        mine = checked_whole(one)
        theirs = checked_whole(other)
        if not isinstance(kind, str) or kind not in ("rates", "prices"):
            raise BadKind(kind)
        self.kind = kind
        self.names = sorted({name: True for tree in (mine, theirs) for name in names_in(tree)})
        self.once, self.rounds = counts_of(mine)
        self.asked_once, self.asked_rounds = counts_of(theirs)

    def column(self, count, last):
        """The numbers of all names in a count, and one more behind them."""
        many = {name: times for name, times in count}
        return [many.get(name, 0) for name in self.names] + [last]

    def once_shares(self, count):
        """What shares_for tells of a count that is a mix of once-counts, with more behind them."""
        columns = [self.column(mine, 1) for mine in self.once]
        if self.kind == "rates":
            columns.extend([self.column(mine, 0) for mine in self.rounds])
        else:
            # What a name is done less often.
            columns.extend([self.column(((name, 1),), 0) for name in self.names])
        return shares_for(columns, self.column(count, 1))

    def round_shares(self, count):
        """What shares_for tells of a count that is made of rounds."""
        return shares_for([self.column(mine, 0) for mine in self.rounds], self.column(count, 0))


def chosen_counts(counts, shares, first):
    """The dict from those of counts that have shares to these, the columns of counts being those from first on."""
    return {count: shares[first + k] for k, count in enumerate(counts) if first + k in shares}


def once_papers(beside):
    """The first dict of papers, None if there is none."""
    found = {}
    for count in beside.asked_once:
        told, _ = beside.once_shares(count)
        if told is None:
            return None
        mix = chosen_counts(beside.once, told[0], 0)
        more = chosen_counts(beside.rounds, told[0], len(beside.once)) if beside.kind == "rates" else {}
        found[count] = (mix, more)
    return found


def round_papers(beside):
    """The second dict of papers, None if there is none."""
    found = {}
    if beside.kind == "prices":
        return found
    for count in beside.asked_rounds:
        told, _ = beside.round_shares(count)
        if told is None:
            return None
        found[count] = (told[1], chosen_counts(beside.rounds, told[0], 0))
    return found


def sure_papers(one, other, kind):
    """What shows that with all works one's part is never worse than other's, None if it is not so."""
    beside = Beside(one, other, kind)
    first = once_papers(beside)
    second = round_papers(beside)
    if first is None or second is None:
        return None
    return first, second


def works_for(beside, signs):
    """Works that come, without a way back, to what the signs tell, turned round."""
    return {name: ((0 - sign, 0), 1, 0) for name, sign in zip(beside.names, signs)}


def parting_works(one, other, kind):
    """Works and a surrounding in which one's part has with them a worse worth than other's, None if there are none."""
    beside = Beside(one, other, kind)
    for count in beside.asked_once:
        _, signs = beside.once_shares(count)
        if signs is not None:
            if kind == "prices":
                return works_for(beside, signs), (0, 0, (1, 1))
            # With one's cheapest run the way back comes to 0 or more, with other's to less.
            return works_for(beside, signs), (0, [(0, 0, (0 - signs[-1], 0), 1, 0)], (1, 1))
    if kind == "rates":
        for count in beside.asked_rounds:
            _, signs = beside.round_shares(count)
            if signs is not None:
                return works_for(beside, signs), (0, [], (1, 1))
    return None


def is_count_of(counts, thing):
    """Whether any object that can be a key is one of counts; True stands for no number."""
    if not isinstance(thing, tuple) or thing not in counts:
        return False
    return all([is_integer(times) for _, times in thing])


def are_times(counts, thing):
    """Whether any object is a dict from some of counts to integers from 1 on."""
    if not isinstance(thing, dict) or not all([is_count_of(counts, key) for key in thing]):
        return False
    return all([is_integer(times) and times >= 1 for times in thing.values()])


def leads_from(counts, thing):
    """Whether any object is a dict from just these counts to lists of two things."""
    if not isinstance(thing, dict) or len(thing) != len(counts):
        return False
    if not all([is_count_of(counts, key) for key in thing]):
        return False
    return all([is_list(pair) and len(pair) == 2 for pair in thing.values()])


def total_of(beside, times):
    """What counts, so many times each, have together, name by name, and how many they are."""
    found = [0] * (len(beside.names) + 1)
    for count, many in times.items():
        found = [mine + many * more for mine, more in zip(found, beside.column(count, 1))]
    return found


def is_once_paper(beside, count, mix, more):
    """Whether any objects show that a count is a mix of one's."""
    if not are_times(beside.once, mix) or not mix or not are_times(beside.rounds, more):
        return False
    total = total_of(beside, mix)
    asked = [total[-1] * times for times in beside.column(count, 1)]
    if beside.kind == "prices":
        return not more and all([mine <= most for mine, most in zip(total, asked)])
    further = total_of(beside, more)
    return all([mine + rest == times for mine, rest, times in zip(total[:-1], further[:-1], asked[:-1])])


def is_round_paper(beside, count, many, more):
    """Whether any objects show that a round is made of one's."""
    if not is_integer(many) or many < 1 or not are_times(beside.rounds, more) or not more:
        return False
    return total_of(beside, more)[:-1] == [many * times for times in beside.column(count, 1)][:-1]


def are_sure_papers(one, other, kind, thing):
    """Whether any object shows that with all works one's part is never worse than other's."""
    beside = Beside(one, other, kind)
    if not is_list(thing) or len(thing) != 2:
        return False
    first, second = thing
    if not leads_from(beside.asked_once, first):
        return False
    if not leads_from(beside.asked_rounds if kind == "rates" else [], second):
        return False
    if not all([is_once_paper(beside, count, pair[0], pair[1]) for count, pair in first.items()]):
        return False
    return all([is_round_paper(beside, count, pair[0], pair[1]) for count, pair in second.items()])
