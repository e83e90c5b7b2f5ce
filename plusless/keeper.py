"""A keeper of a row to which numbers come."""

from plusless.errors import Bare, TooMany
from plusless.halves import first_met, many_met
from plusless.rows import LONGEST_ROW, need_number_from
from plusless.tables import SIGNS, table_of


class Keeper:
    def __init__(self):
        self.numbers = ()
        # The row ahead of each put and take that stands.
        self.earlier = []

    def change(self, numbers):
        self.earlier.append(self.numbers)
        self.numbers = numbers
        return len(numbers)

    def put(self, number):
        need_number_from(1, number)
        if len(self.numbers) == LONGEST_ROW:
            raise TooMany("a row has at most sixteen numbers")
        return self.change(self.numbers + (number,))

    def take(self):
        if self.numbers == ():
            raise Bare("there is no number to take")
        return self.change(self.numbers[:-1])

    def back(self):
        if self.earlier == []:
            raise Bare("no put or take stands")
        self.numbers = self.earlier.pop()
        return len(self.numbers)

    def row(self):
        return self.numbers

    def worths_many(self):
        return len(table_of(self.numbers, SIGNS))

    def ways(self, number):
        return many_met(self.numbers, number)

    def first(self, number):
        return first_met(self.numbers, number)

    def times(self, number):
        return [many for many in range(len(self.numbers) + 1) if many_met(self.numbers[:many], number) > 0]
