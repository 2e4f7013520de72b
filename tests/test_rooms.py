import copy
import itertools
import unittest

from samples import (
    all_tables, blocks_by_hand, check_own, kinds, low_table, noughts, random_row, random_table, reduced_by_hand,
    refused, source, square_tables,
)

from turnframe.errors import NoFit
from turnframe.kinds import Fractions, Rests
from turnframe.rooms import room
from turnframe.tables import image, is_table, unit

SEVEN = Rests(7)


def room_by_hand(kind, A, columns):
    """All images of the columns, as many times as the table has rows, and of those the reduced rows."""
    some = [list(column) for column in columns]
    last = some
    for turn in range(len(A)):
        last = [image(kind, A, column) for column in last]
        some = some + last
    if not some:
        return []
    reduced, leads = reduced_by_hand(kind, some)
    return reduced[:len(leads)]


def sums_and_multiples(prime, columns, size):
    found = {(0,) * size}
    for column in columns:
        found = {tuple([(one + factor * other) % prime for one, other in zip(each, column)])
                 for each in found for factor in range(prime)}
    return found


class Rooms(unittest.TestCase):

    def check(self, kind, A, columns):
        answer = room(kind, A, columns)
        self.assertIs(type(answer), list)
        self.assertEqual(answer, room_by_hand(kind, A, columns))
        if answer:
            self.assertIs(is_table(kind, answer), True)
            self.assertEqual(reduced_by_hand(kind, answer)[0], answer)
            # The room has the columns handed in and the images of its own: none of them adds a lead.
            wider = answer + [image(kind, A, column) for column in answer] + columns
            self.assertEqual(len(reduced_by_hand(kind, wider)[1]), len(answer))
        return answer

    def test_written_out(self):
        A = [[0, 0, 0], [1, 0, 0], [0, 1, 0]]
        self.assertEqual(room(SEVEN, A, [[1, 2, 3]]), [[1, 0, 0], [0, 1, 0], [0, 0, 1]])
        self.assertEqual(room(SEVEN, A, [[0, 3, 3]]), [[0, 1, 0], [0, 0, 1]])
        self.assertEqual(room(SEVEN, A, [[0, 0, 3]]), [[0, 0, 1]])
        self.assertEqual(room(SEVEN, A, [[0, 0, 3], [0, 2, 0]]), [[0, 1, 0], [0, 0, 1]])
        self.assertEqual(room(SEVEN, unit(SEVEN, 3), [[2, 4, 6]]), [[1, 2, 3]])
        self.assertEqual(room(SEVEN, unit(SEVEN, 3), [[2, 4, 6], [1, 2, 4]]), [[1, 2, 0], [0, 0, 1]])
        A = [[(0, 1), (1, 1)], [(1, 1), (0, 1)]]
        self.assertEqual(room(Fractions(), A, [[(2, 3), (2, 3)]]), [[(1, 1), (1, 1)]])
        self.assertEqual(room(Fractions(), A, [[(2, 3), (1, 3)]]), unit(Fractions(), 2))
        self.assertEqual(room(Rests(2), [[1]], [[1]]), [[1]])

    def test_no_columns_and_noughts(self):
        chance = source(2301)
        for kind in kinds():
            for size in (1, 2, 7):
                for A in (random_table(chance, kind, size, size), noughts(kind, size, size), unit(kind, size)):
                    self.assertEqual(room(kind, A, []), [])
                    self.assertEqual(room(kind, A, noughts(kind, 1, size)), [])
                    self.assertEqual(room(kind, A, noughts(kind, 7, size)), [])

    def test_many_sizes_and_ranks(self):
        chance = source(2302)
        for kind in kinds():
            for A in square_tables(chance, kind):
                for count in (1, 2, 7):
                    self.check(kind, A, [random_row(chance, kind, len(A), 1) for column in range(count)])
                self.check(kind, A, unit(kind, len(A))[-1:])
                self.check(kind, A, noughts(kind, 1, len(A)) + unit(kind, len(A))[:1])

    def test_columns_that_the_table_takes_into_one_another(self):
        for kind in kinds():
            size = 7
            around = unit(kind, size)[-1:] + unit(kind, size)[:-1]
            self.assertEqual(self.check(kind, around, [unit(kind, size)[2]]), unit(kind, size))
            ones = [kind.number(1)] * size
            self.assertEqual(self.check(kind, around, [ones]), [ones])
            self.assertEqual(self.check(kind, around, [ones, ones]), [ones])
            pairs = blocks_by_hand(kind, [unit(kind, 2)[::-1]] * 3)
            self.assertEqual(self.check(kind, pairs, [unit(kind, 6)[0]]), unit(kind, 6)[:2])
            self.assertEqual(self.check(kind, pairs, unit(kind, 6)[1:3]), unit(kind, 6)[:4])

    def test_all_small_tables(self):
        for prime, size in ((2, 1), (2, 2), (3, 2)):
            vectors = [list(each) for each in itertools.product(range(prime), repeat=size)]
            for A in all_tables(prime, size, size):
                for columns in [[each] for each in vectors] + [list(pair) for pair in zip(vectors, vectors[1:])]:
                    self.check(Rests(prime), A, columns)

    def test_the_least_room_there_is(self):
        kind, vectors = Rests(2), list(itertools.product(range(2), repeat=3))
        for A in list(all_tables(2, 3, 3))[::5]:
            for column in vectors:
                told = sums_and_multiples(2, room(kind, A, [list(column)]), 3)
                grown = {(0, 0, 0), column}
                while True:
                    wider = grown | {tuple(image(kind, A, list(each))) for each in grown}
                    wider |= {tuple([(x + y) % 2 for x, y in zip(one, other)]) for one in wider for other in wider}
                    if wider == grown:
                        break
                    grown = wider
                self.assertEqual(told, grown, (A, column))

    def test_sixty_figures(self):
        chance, kind = source(2303), Fractions()
        A = random_table(chance, kind, 7, 7)
        self.assertEqual(room(kind, A, [random_row(chance, kind, 7)]), unit(kind, 7))
        self.check(kind, random_table(chance, kind, 3, 3), [random_row(chance, kind, 3)])
        self.check(kind, unit(kind, 7), [random_row(chance, kind, 7) for column in range(3)])
        A = blocks_by_hand(kind, [random_table(chance, kind, 3, 3), random_table(chance, kind, 4, 4)])
        self.assertEqual(room(kind, A, [unit(kind, 7)[1]]), unit(kind, 7)[:3])

    def test_sizes_that_do_not_fit(self):
        for kind in kinds():
            for rows, columns in itertools.product(range(1, 8), repeat=2):
                if rows != columns:
                    table = noughts(kind, rows, columns)
                    refused(self, NoFit, room, kind, table, [])
                    refused(self, NoFit, room, kind, table, noughts(kind, 1, rows))
                    refused(self, NoFit, room, kind, table, noughts(kind, 1, columns))
                    A = unit(kind, rows)
                    refused(self, NoFit, room, kind, A, noughts(kind, 1, columns))
                    refused(self, NoFit, room, kind, A, unit(kind, rows) + noughts(kind, 1, columns))
                    refused(self, NoFit, room, kind, A, noughts(kind, 1, columns) + unit(kind, rows))
            refused(self, NoFit, room, kind, unit(kind, 2), [[]])


class AskersOwn(unittest.TestCase):

    def test_answers_are_new_and_what_was_handed_in_is_as_it_was(self):
        chance = source(2)
        for kind in kinds():
            for A in (unit(kind, 3), noughts(kind, 3, 3), low_table(chance, kind, 3, 3, 2)):
                for columns in ([], noughts(kind, 2, 3), unit(kind, 3), unit(kind, 3)[:1], A,
                                [random_row(chance, kind, 3, 5)]):
                    check_own(self, room, [kind, A, columns])

    def test_a_refusal_changes_nothing(self):
        A, columns = [[1, 2], [3, 4]], [[1, 2], [3]]
        before = copy.deepcopy((A, columns))
        refused(self, NoFit, room, SEVEN, A, columns)
        refused(self, NoFit, room, SEVEN, A[:1], columns)
        self.assertEqual((A, columns), before)


if __name__ == "__main__":
    unittest.main()
