"""What the program promises as a whole: one table, asked in all ways, tells the same."""

import unittest

from samples import (
    blocks_of_chain, check_turns, falling_sizes, few_kinds, few_near_kinds, like, noughts, product_poly_by_hand,
    random_chain, random_table, source, square_tables, table_at_by_hand, times_table_by_hand, unit_by_hand,
)

from turnframe.bare import without
from turnframe.desk import Desk
from turnframe.dets import by_minors, by_steps
from turnframe.frames import blocks, frame
from turnframe.kinds import Fractions, Rests
from turnframe.leasts import great, least, least_of
from turnframe.likes import alike
from turnframe.nears import near, nearly
from turnframe.polys import table_at
from turnframe.powers import power
from turnframe.rooms import room
from turnframe.solving import inverse
from turnframe.steps import rank
from turnframe.tables import turned
from turnframe.texts import read_table, show_table


class TheWhole(unittest.TestCase):

    def tables(self, kind, chance):
        yield from square_tables(chance, kind, (1, 2, 3, 5))
        for degrees in falling_sizes(4) + [[3, 3, 1], [2, 2, 2, 1], [5, 2], [1] * 7]:
            yield like(chance, kind, blocks_of_chain(kind, random_chain(chance, kind, degrees)))

    def test_the_frame_is_one_for_all_like_tables(self):
        chance = source(31)
        for kind in few_kinds():
            for A in self.tables(kind, chance):
                chain, T, S = frame(kind, A)
                B = times_table_by_hand(kind, S, times_table_by_hand(kind, A, T))
                self.assertEqual(B, blocks(kind, chain))
                self.assertEqual(frame(kind, B)[0], chain)
                self.assertEqual(frame(kind, like(chance, kind, A))[0], chain)
                self.assertEqual(inverse(kind, T), S)
                product = [kind.number(1)]
                for f in chain:
                    product = product_poly_by_hand(kind, product, f)
                self.assertEqual(product, great(kind, A))
                self.assertEqual(table_at_by_hand(kind, chain[0], A), noughts(kind, len(A), len(A)))
                # No shorter one brings A to nought: the column told with the least polynomial needs all of it.
                f, column = least(kind, A)
                self.assertEqual((f, least_of(kind, A, column)), (chain[0], chain[0]))
                self.assertEqual(len(room(kind, A, [column])), len(f) - 1)

    def test_alike_or_apart(self):
        chance = source(32)
        for kind in few_kinds():
            tables = [like(chance, kind, blocks_of_chain(kind, random_chain(chance, kind, degrees)))
                      for degrees in falling_sizes(4)]
            for A in tables:
                for B in tables + [random_table(chance, kind, 4, 4, 1)]:
                    answer = alike(kind, A, B)
                    if frame(kind, A)[0] == frame(kind, B)[0]:
                        self.assertEqual(answer[0], "alike")
                        check_turns(self, kind, A, answer[1], answer[2], B)
                    else:
                        word, g, a, b = answer
                        self.assertEqual((word, a == b), ("apart", False))
                        self.assertEqual((a, b), (rank(kind, table_at(kind, g, A)), rank(kind, table_at(kind, g, B))))

    def test_determinants_are_one_number(self):
        chance = source(33)
        for kind in few_kinds():
            for A in self.tables(kind, chance):
                number = by_steps(kind, A)
                self.assertEqual((by_minors(kind, A), without(kind, A)), (number, number))
                sign = kind.number(-1 if len(A) % 2 else 1)
                self.assertEqual(kind.times(sign, great(kind, A)[0]), number)
                self.assertEqual(kind.is_nought(number), rank(kind, A) < len(A))

    def test_a_power_is_the_product_of_so_many(self):
        chance = source(34)
        for kind in few_kinds():
            for A in self.tables(kind, chance):
                product = unit_by_hand(kind, len(A))
                for n in range(5):
                    self.assertEqual(power(kind, A, n), product)
                    product = times_table_by_hand(kind, product, A)

    def test_nearly_diagonal_tables_are_like_it(self):
        chance = source(35)
        for kind in few_near_kinds():
            for A in self.tables(kind, chance):
                answer = near(kind, A)
                if answer[0] == "near":
                    self.assertEqual(alike(kind, A, nearly(kind, answer[1]))[0], "alike")
                    self.assertEqual(near(kind, turned(A))[1], answer[1])

    def test_the_desk_tells_what_the_functions_tell(self):
        chance = source(36)
        for kind in few_near_kinds():
            desk = Desk()
            if isinstance(kind, Rests):
                desk.say(f"rests {kind.prime}")
            for A in self.tables(kind, chance):
                text = show_table(kind, A)
                self.assertEqual(read_table(kind, text), A)
                desk.say(f"table a {text}")
                desk.say(f"table b {show_table(kind, turned(A))}")
                self.assertEqual(desk.say("chain a"), show_table(kind, frame(kind, A)[0]))
                self.assertEqual(desk.say("alike a b"), "yes")

    def test_the_same_whenever_asked(self):
        # Nothing hangs on what was asked before.
        chance = source(37)
        for kind in (Fractions(), Rests(2), Rests(101)):
            A = like(chance, kind, blocks_of_chain(kind, random_chain(chance, kind, [3, 2])))
            first = frame(kind, A), least(kind, A), alike(kind, A, turned(A)), near(kind, A)
            for B in self.tables(kind, chance):
                frame(kind, B)
            self.assertEqual((frame(kind, A), least(kind, A), alike(kind, A, turned(A)), near(kind, A)), first)


if __name__ == "__main__":
    unittest.main()
