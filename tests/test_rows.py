import copy
import itertools
import unittest

from kinds import lists_within, spoil
from seer.rows import last_place, rows_of

C = ("same", [0, 1])
D = ("even", [3, -1], 2)
E = ("under", [7, 1])
GO = ("go",)
SET = ("set", 1, [0, 1])
PART = ("part", 1, [0, 1], 3)
REST = ("rest", 1, [0, 1], 3)
ANY = ("any", 1, None, 8)
CALL = ("call", 1, 0, [[0, 1], [4, 0]])
SAY = ("say", ("even", [0, 1], 2))


def when(claim, truth):
    return ("when", claim, truth)


class Case(unittest.TestCase):
    def tells(self, body, wanted):
        told = rows_of(body)
        self.assertIs(type(told), list)
        for row in told:
            self.assertIs(type(row), tuple)
            self.assertIs(type(row[1]), tuple)
        self.assertEqual(told, wanted)


class Rows(Case):
    def test_no_statement(self):
        self.tells([], [])

    def test_each_plain_statement_is_one_row(self):
        for statement in (SET, PART, REST, ANY, CALL, SAY):
            self.tells([statement], [(0, statement, 1)])

    def test_one_behind_another(self):
        self.tells([SET, PART, REST, ANY, CALL, SAY],
                   [(0, SET, 1), (1, PART, 2), (2, REST, 3), (3, ANY, 4), (4, CALL, 5), (5, SAY, 6)])

    def test_the_documents_own(self):
        self.tells([("if", C, [], []), ("while", D, [])], [
            (0, when(C, True), 1), (0, when(C, False), 2), (1, GO, 3), (2, GO, 3), (3, GO, 4),
            (4, when(D, True), 5), (5, GO, 4), (4, when(D, False), 6),
        ])

    def test_if_with_both_bodies(self):
        self.tells([SET, ("if", C, [PART, REST], [ANY]), SAY], [
            (0, SET, 1), (1, when(C, True), 2), (2, PART, 3), (3, REST, 4), (1, when(C, False), 5), (5, ANY, 6),
            (4, GO, 7), (6, GO, 7), (7, SAY, 8),
        ])

    def test_if_with_one_body_empty(self):
        self.tells([("if", C, [PART], []), SAY], [
            (0, when(C, True), 1), (1, PART, 2), (0, when(C, False), 3), (2, GO, 4), (3, GO, 4), (4, SAY, 5),
        ])
        self.tells([("if", C, [], [PART]), SAY], [
            (0, when(C, True), 1), (0, when(C, False), 2), (2, PART, 3), (1, GO, 4), (3, GO, 4), (4, SAY, 5),
        ])

    def test_if_with_both_bodies_empty(self):
        self.tells([("if", C, [], [])], [
            (0, when(C, True), 1), (0, when(C, False), 2), (1, GO, 3), (2, GO, 3),
        ])

    def test_ifs_within_ifs(self):
        self.tells([("if", C, [("if", D, [SET], [])], [("if", E, [], [REST])])], [
            (0, when(C, True), 1), (1, when(D, True), 2), (2, SET, 3), (1, when(D, False), 4), (3, GO, 5), (4, GO, 5),
            (0, when(C, False), 6), (6, when(E, True), 7), (6, when(E, False), 8), (8, REST, 9), (7, GO, 10),
            (9, GO, 10), (5, GO, 11), (10, GO, 11),
        ])

    def test_while_with_a_body(self):
        self.tells([SET, ("while", C, [PART, REST]), SAY], [
            (0, SET, 1), (1, GO, 2), (2, when(C, True), 3), (3, PART, 4), (4, REST, 5), (5, GO, 2),
            (2, when(C, False), 6), (6, SAY, 7),
        ])

    def test_while_with_an_empty_body(self):
        self.tells([("while", C, [])], [(0, GO, 1), (1, when(C, True), 2), (2, GO, 1), (1, when(C, False), 3)])

    def test_whiles_within_whiles(self):
        self.tells([("while", C, [("while", D, [("while", E, [SET])]), SAY])], [
            (0, GO, 1), (1, when(C, True), 2),
            (2, GO, 3), (3, when(D, True), 4),
            (4, GO, 5), (5, when(E, True), 6), (6, SET, 7), (7, GO, 5), (5, when(E, False), 8),
            (8, GO, 3), (3, when(D, False), 9), (9, SAY, 10),
            (10, GO, 1), (1, when(C, False), 11),
        ])

    def test_whiles_one_behind_another(self):
        self.tells([("while", C, []), ("while", D, [SET])], [
            (0, GO, 1), (1, when(C, True), 2), (2, GO, 1), (1, when(C, False), 3),
            (3, GO, 4), (4, when(D, True), 5), (5, SET, 6), (6, GO, 4), (4, when(D, False), 7),
        ])

    def test_an_if_within_a_while_within_an_if(self):
        self.tells([("if", C, [("while", D, [("if", E, [], [SET])])], [CALL]), ANY], [
            (0, when(C, True), 1), (1, GO, 2), (2, when(D, True), 3),
            (3, when(E, True), 4), (3, when(E, False), 5), (5, SET, 6), (4, GO, 7), (6, GO, 7),
            (7, GO, 2), (2, when(D, False), 8),
            (0, when(C, False), 9), (9, CALL, 10), (8, GO, 11), (10, GO, 11), (11, ANY, 12),
        ])

    def test_truths_are_truths(self):
        told = rows_of([("if", C, [], []), ("while", C, [])])
        truths = [row[1][2] for row in told if row[1][0] == "when"]
        self.assertEqual([type(truth) for truth in truths], [bool] * 4)

    def test_many_statements_and_bodies_within_many(self):
        self.tells([SET] * 500, [(place, SET, place + 1) for place in range(500)])
        body = [SET]
        for depth in range(40):
            body = [("while", C, body)]
        told = rows_of(body)
        self.assertEqual(last_place(told), 3 * 40 + 1)
        self.assertEqual(len(told), 4 * 40 + 1)


class ByEachBodyOfAFew(unittest.TestCase):
    def bodies(self):
        plain = [[], [SET], [SAY, ANY]]
        first = [[("while", C, body)] for body in plain]
        first += [[("if", D, left, right)] for left, right in itertools.product(plain, plain)]
        second = [[SET, ("while", E, body), SAY] for body in first]
        second += [[("if", C, left, right), REST] for left, right in itertools.product(first, first)]
        return plain + first + second

    def test_places_are_new_one_after_another(self):
        for body in self.bodies():
            seen = [0]
            for here, act, there in rows_of(body):
                self.assertIn(here, seen, body)
                if there not in seen:
                    self.assertEqual(there, len(seen), body)
                    seen.append(there)

    def test_from_each_place_but_the_last_one_goes_something(self):
        for body in self.bodies():
            told = rows_of(body)
            last = last_place(told)
            for place in range(last + 1):
                acts = [row[1] for row in told if row[0] == place]
                if place == last:
                    self.assertEqual(acts, [], body)
                elif len(acts) == 2:
                    self.assertEqual([act[0] for act in acts], ["when", "when"], body)
                    self.assertEqual([act[2] for act in acts], [True, False], body)
                    self.assertEqual(acts[0][1], acts[1][1], body)
                else:
                    self.assertEqual(len(acts), 1, body)


class LastPlace(unittest.TestCase):
    def tells(self, rows, wanted):
        self.assertEqual(last_place(rows), wanted)
        self.assertIs(type(last_place(rows)), int)

    def test_no_rows(self):
        self.tells([], 0)
        self.tells(rows_of([]), 0)

    def test_of_bodies(self):
        self.tells(rows_of([SET]), 1)
        self.tells(rows_of([("if", C, [], [])]), 3)
        self.tells(rows_of([("while", C, [])]), 3)
        self.tells(rows_of([("if", C, [], []), ("while", D, [])]), 6)

    def test_rows_in_whatever_order(self):
        told = rows_of([("if", C, [], [SET]), ("while", D, [SAY])])
        self.tells(told, 8)
        self.tells(told[::-1], 8)
        for turn in range(len(told)):
            self.tells(told[turn:] + told[:turn], 8)

    def test_either_end_of_a_row(self):
        self.tells([(5, GO, 2)], 5)
        self.tells([(2, GO, 5)], 5)
        self.tells([(1, GO, 2), (9, GO, 3), (4, GO, 7)], 9)
        self.tells([(4, GO, 12), (9, GO, 3), (1, GO, 2)], 12)

    def test_rows_are_left_as_they_are(self):
        told = rows_of([("while", C, [SET])])[::-1]
        as_it_was = copy.deepcopy(told)
        last_place(told)
        self.assertEqual(told, as_it_was)


class HandedIn(unittest.TestCase):
    def body(self):
        return copy.deepcopy([
            SET, PART, REST, ANY, CALL, SAY, ("if", C, [SET, CALL], [SAY]), ("while", D, [CALL, ("if", E, [], [])]),
        ])

    def test_nothing_is_changed_and_asked_again_it_is_the_same(self):
        body = self.body()
        told = rows_of(body)
        self.assertEqual(body, self.body())
        self.assertEqual(rows_of(body), told)

    def test_no_list_that_was_handed_in_is_told(self):
        body = self.body()
        told = rows_of(body)
        for one, other in itertools.product(lists_within(told), lists_within(body)):
            self.assertIsNot(one, other)

    def test_no_list_that_was_told_before_is_told(self):
        body = self.body()
        told = rows_of(body)
        again = rows_of(body)
        for one, other in itertools.product(lists_within(told), lists_within(again)):
            self.assertIsNot(one, other)

    def test_what_was_told_stays_when_what_was_handed_in_is_changed(self):
        body = self.body()
        told = rows_of(body)
        as_it_was = copy.deepcopy(told)
        spoil(body)
        self.assertEqual(told, as_it_was)

    def test_what_is_handed_in_stays_when_what_was_told_is_changed(self):
        body = self.body()
        told = rows_of(body)
        as_it_was = copy.deepcopy(told)
        spoil(told)
        self.assertEqual(body, self.body())
        self.assertEqual(rows_of(body), as_it_was)

    def test_of_no_statement_too(self):
        told = rows_of([])
        told.append(99)
        self.assertEqual(rows_of([]), [])


if __name__ == "__main__":
    unittest.main()
