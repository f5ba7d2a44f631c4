"""Forms by programs, told from what these are made of."""

from anyaround.forms import form_of, fresh
from anyaround.joins import in_row, in_turn, of_work, over_again, so_often
from anyaround.positions import hole_of
from anyaround.programparts import Ground, checked_positions, part_on
from anyaround.surroundings import check_kind


def joined(kind, things, join):
    """Things joined one after the other."""
    found = things[0]
    for thing in things[1:]:
        found = join(kind, found, thing)
    return found


def of_tree(tree, works, kind):
    """What the form has of a program without a hole."""
    found = [None] * len(tree.words)
    # Of what a program is made comes behind it.
    for number in reversed(range(len(tree.words))):
        word = tree.words[number]
        inner = [found[piece] for piece in tree.pieces[number]]
        if word == "do":
            found[number] = of_work(kind, works[tree.marks[number]])
        elif word == "behind":
            found[number] = joined(kind, inner, in_row)
        elif word == "either":
            found[number] = joined(kind, inner, in_turn)
        elif word == "again":
            found[number] = over_again(kind, inner[0])
        else:
            found[number] = so_often(kind, inner[0], tree.marks[number])
    return found[0]


def program_form(program, works, kind):
    """The form of the part of a program with works."""
    positions, read = checked_positions(program, works)
    check_kind(kind)
    if hole_of(positions) is not None:
        return fresh(form_of(part_on(Ground(positions, read)), kind))
    found = of_tree(positions.tree, read, kind)
    if kind in ("rates", "on"):
        return [(found[0], [found[1]])]
    return [[found]]
