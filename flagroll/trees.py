"""Trees: machines that learn, turn by turn, the deeds of the one on which they hang."""

from flagroll.books import Book
from flagroll.errors import BadTree, NoMachine
from flagroll.kinds import is_whole


def check_parents(parents):
    # The parent is not shown: a thing may be too long or too deep to be written as a text.
    for place, parent in enumerate(parents):
        if not is_whole(parent) or parent < 0 or parent > place:
            raise BadTree("a machine hangs on the house or on a machine with a lesser number")


def depths_by_machine(parents):
    depths = [0]
    for parent in parents:
        depths.append(depths[parent] + 1)
    return depths


class Tree:
    def __init__(self, parents):
        check_parents(parents)
        self.parents = list(parents)
        self.depths = depths_by_machine(parents)
        self.book = Book()
        # A machine has always done the house's first so many deeds, so its moment tells all that it knows.
        self.moments = [0] * len(parents)

    def check_machine(self, machine, least):
        if machine < least or machine > len(self.parents):
            raise NoMachine("the number is no machine's")

    def change(self, deed):
        return self.book.change(deed)

    def turn(self, lost=None):
        lost_links = [] if lost is None else lost
        for machine in lost_links:
            self.check_machine(machine, 1)
        # As they were when the turn began: in one turn nothing goes further than one link.
        begun = [self.book.moment()] + self.moments
        moments = []
        for machine, parent in enumerate(self.parents, start=1):
            moments.append(begun[machine] if machine in lost_links else begun[parent])
        self.moments = moments

    def depth_of(self, machine):
        self.check_machine(machine, 0)
        return self.depths[machine]

    def moment_of(self, machine):
        self.check_machine(machine, 0)
        return self.book.moment() if machine == 0 else self.moments[machine - 1]

    def answer_of(self, machine, day, visitor, name):
        moment = self.moment_of(machine)
        answered = self.book.answer_at(day, visitor, name, moment)
        return (answered[0], answered[1], moment)
