"""Copies: books on other machines, which learn of a book's deeds by letters."""

from flagroll.books import Book
from flagroll.errors import BadLetter
from flagroll.kinds import own_copy


class Copy:
    def __init__(self):
        self.book = Book()
        # Deeds by number that can't be done yet: one ahead of each is still lacking.
        self.waiting = {}

    def take(self, first, deeds):
        if first < 1:
            raise BadLetter("a book's deeds are numbered from 1 on")
        for number, deed in enumerate(deeds, start=first):
            if number > self.moment():
                self.waiting[number] = own_copy(deed)
        while self.moment() + 1 in self.waiting:
            self.book.change(self.waiting.pop(self.moment() + 1))

    def moment(self):
        return self.book.moment()

    def answer_now(self, day, visitor, name):
        answered = self.book.answer_at(day, visitor, name)
        return (answered[0], answered[1], self.moment())
