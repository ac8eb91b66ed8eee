import copy
import itertools
import unittest
from unittest import mock

import book_looks as book
from kinds import Dice, check_own, is_told, is_whole
from makers import Ringer
from seer.outcomes import outcome
from seer.rings import heads, settle, stands
from seer.rows import rows_of
from seer.tolds import of_stretches, stretches_of, told_inside
from things import ALL, GREAT, Case, one_box, over, some_things, told_about

UP = ("set", 1, [1, 1])
SAY = ("say", ("same", [0, 1]))
ALWAYS = ("same", [0, 0])
NOT_EVER = ("same", [1, 0])
NOUGHT = one_box(0, 0, (0, 0))


def below(top):
    """Box 1 of one box is below top."""
    return ("under", [-top, 1])


def count_to(top):
    return ("while", below(top), [UP])


class Heads(unittest.TestCase):
    def tells(self, body, wanted):
        for rows in (rows_of(body), rows_of(body)[::-1]):
            told = heads(rows)
            self.assertEqual(told, wanted, body)
            self.assertIs(type(told), list)
            for one in told:
                self.assertIs(type(one), tuple)
                self.assertTrue(all(is_whole(place) for place in one))

    def test_no_rows(self):
        self.tells([], [])

    def test_rows_without_a_ring(self):
        self.tells([UP], [])
        self.tells([UP, ("if", ALWAYS, [UP], [SAY, SAY]), ("if", ALWAYS, [], [])], [])

    def test_one_ring(self):
        self.tells([("while", ALWAYS, [])], [(1, 2)])
        self.tells([UP, ("while", ALWAYS, [UP, UP]), UP], [(2, 5)])

    def test_rings_one_behind_another(self):
        self.tells([("while", ALWAYS, []), ("while", ALWAYS, [])], [(1, 2), (4, 5)])
        self.tells([("while", ALWAYS, [UP]), SAY, ("while", ALWAYS, [UP, UP])], [(1, 3), (6, 9)])

    def test_a_ring_within_a_ring(self):
        self.tells([("while", ALWAYS, [("while", ALWAYS, [])])], [(1, 5), (3, 4)])
        self.tells([("while", ALWAYS, [UP, ("while", ALWAYS, [UP]), UP])], [(1, 8), (4, 6)])

    def test_rings_within_rings_rise(self):
        inner = ("while", ALWAYS, [("while", ALWAYS, [])])
        self.tells([("while", ALWAYS, [inner, ("while", ALWAYS, [])]), inner],
                   [(1, 11), (3, 7), (5, 6), (9, 10), (13, 17), (15, 16)])

    def test_rings_within_choices(self):
        self.tells([("if", ALWAYS, [("while", ALWAYS, [])], [("while", ALWAYS, [])])], [(2, 3), (6, 7)])
        self.tells([("while", ALWAYS, [("if", ALWAYS, [], [])])], [(1, 5)])

    def test_a_row_to_the_very_place_it_comes_from_leads_back(self):
        self.assertEqual(heads([(0, ("go",), 1), (1, ("go",), 1)]), [(1, 1)])

    def test_what_is_told_is_the_askers_own(self):
        check_own(self, heads, rows_of([("while", ALWAYS, [("while", ALWAYS, [UP])])]))


class Stands(Case):
    def tells(self, body, entry, summaries, table, wanted):
        self.is_truth(stands(rows_of(body), entry, summaries, table), wanted, (body, entry, summaries, table))
        self.is_truth(book.stands(rows_of(body), entry, summaries, table), wanted, (body, entry, summaries, table))

    def test_no_rows(self):
        wide = one_box(0, 9, ALL)
        self.tells([], wide, [], [wide], True)
        self.tells([], one_box(2, 7, (5, 2)), [], [wide], True)
        self.tells([], None, [], [wide], True)
        self.tells([], None, [], [None], True)

    def test_the_entry_is_not_inside_the_first(self):
        self.tells([], one_box(0, 10, ALL), [], [one_box(0, 9, ALL)], False)
        self.tells([], one_box(0, 9, ALL), [], [one_box(0, 9, (2, 0))], False)
        self.tells([], one_box(0, 9, ALL), [], [None], False)
        self.tells([UP], one_box(0, 9, ALL), [], [one_box(1, 9, ALL), one_box(None, None, ALL)], False)

    def test_the_entry_is_taken_as_it_is(self):
        # Sharpened they would be the same.
        self.tells([], one_box(0, 9, (5, 2)), [], [one_box(2, 7, (5, 2))], False)
        self.tells([], one_box(2, 7, (5, 2)), [], [one_box(0, 9, (5, 2))], True)

    def test_a_rows_outcome_is_inside_or_not(self):
        entry = one_box(0, 9, ALL)
        self.tells([UP], entry, [], [entry, one_box(1, 10, ALL)], True)
        self.tells([UP], entry, [], [entry, one_box(0, None, ALL)], True)
        self.tells([UP], entry, [], [entry, one_box(1, 9, ALL)], False)
        self.tells([UP], entry, [], [entry, None], False)
        self.tells([UP], None, [], [None, None], True)
        self.tells([UP], None, [], [entry, None], False)

    def test_one_row_of_many(self):
        body = [("if", below(5), [UP], [SAY]), count_to(9)]
        entry = one_box(0, 7, ALL)
        table = settle(rows_of(body), entry, [], (20, [], 0))[0]
        self.assertEqual(len(table), 10)
        self.tells(body, entry, [], table, True)
        narrower = [one_box(0, 6, ALL), one_box(0, 3, ALL), one_box(1, 4, ALL), one_box(5, 6, ALL),
                    one_box(6, 7, ALL), one_box(1, 6, ALL), one_box(2, 9, ALL), one_box(2, 8, ALL),
                    one_box(3, 9, ALL), one_box(9, 8, ALL)]
        for place, told in enumerate(narrower):
            self.tells(body, entry, [], table[:place] + [told] + table[place + 1:], False)
            self.tells(body, entry, [], table[:place] + [None] + table[place + 1:], False)

    def test_a_wider_one_somewhere_may_not_stand(self):
        entry = one_box(0, 7, ALL)
        table = settle(rows_of([UP, UP]), entry, [], (20, [], 0))[0]
        self.tells([UP, UP], entry, [], table, True)
        self.tells([UP, UP], entry, [], [table[0], one_box(1, 9, ALL), table[2]], False)
        self.tells([UP, UP], entry, [], [table[0], one_box(1, 9, ALL), one_box(2, 10, ALL)], True)

    def test_a_row_that_leads_back(self):
        body = [count_to(3)]
        table = [NOUGHT, one_box(0, 3, ALL), one_box(0, 2, ALL), one_box(1, 3, ALL), one_box(3, 3, (0, 3))]
        self.tells(body, NOUGHT, [], table, True)
        self.tells(body, NOUGHT, [], table[:1] + [one_box(0, 2, ALL)] + table[2:], False)

    def test_outcomes_are_sharpened_and_the_table_is_not(self):
        self.tells([SAY], None, [], [one_box(0, 9, (5, 2)), one_box(2, 7, (5, 2))], True)
        self.tells([SAY], None, [], [one_box(2, 7, (5, 2)), one_box(3, 7, (5, 2))], False)

    def test_calls_by_their_summaries(self):
        body = [("call", 1, 1, [[0, 1]])]
        entry = one_box(0, 9, ALL)
        more = over(2, {(2, 1): 1, (1, 2): -1})
        for summaries, wanted in (([None, more], True), ([more, None], True), ([more, over(2, {})], False)):
            self.tells(body, entry, summaries, [entry, one_box(1, 10, ALL)], wanted)
        self.tells(body, entry, [None, more], [entry, one_box(1, 9, ALL)], False)
        self.tells(body, entry, [more, None], [entry, None], True)

    def test_what_is_handed_in_stays_as_it_was(self):
        body = [count_to(3), ("call", 1, 0, [[0, 1]])]
        table = [over(1, {}) for place in range(6)]
        check_own(self, stands, rows_of(body), over(1, {}), [over(2, {})], table)


class Settle(Case):
    def tells(self, body, entry, way, table, grew, summaries=()):
        told = settle(rows_of(body), entry, list(summaries), way)
        handed = (body, entry, way)
        self.assertIs(type(told), tuple)
        self.assertEqual(len(told), 2)
        self.assertIs(type(told[0]), list)
        self.assertTrue(all(is_told(one) for one in told[0]), handed)
        self.assertEqual(told[0], table, handed)
        self.assertIs(told[1], grew, handed)
        self.assertEqual(book.settle(rows_of(body), entry, list(summaries), way), told, handed)

    def test_a_body_without_statements(self):
        for way in ((0, [], 0), (3, [1], 2)):
            self.tells([], one_box(0, 9, ALL), way, [one_box(0, 9, ALL)], False)
            self.tells([], None, way, [None], False)

    def test_the_entry_is_told_at_place_0_as_it_is(self):
        for back in (0, 1, 3):
            self.tells([], one_box(0, 9, (5, 2)), (0, [], back), [one_box(0, 9, (5, 2))], False)
            self.tells([SAY], one_box(0, 9, (5, 2)), (0, [], back),
                       [one_box(0, 9, (5, 2)), one_box(2, 7, (5, 2))], False)

    def test_an_entry_in_which_nothing_lies_but_that_is_not_never(self):
        for back in (0, 1, 3):
            self.tells([SAY, count_to(3)], one_box(5, 4, ALL), (0, [], back), [one_box(5, 4, ALL)] + [None] * 5, False)

    def test_a_body_without_rings(self):
        self.tells([UP, UP, SAY], one_box(0, 9, (3, 0)), (0, [], 0), [
            one_box(0, 9, (3, 0)), one_box(1, 10, (3, 1)), one_box(2, 11, (3, 2)), one_box(2, 11, (3, 2))], False)

    def test_all_rows_that_lead_to_a_place_are_joined(self):
        self.tells([("if", below(4), [("set", 1, [7, 0])], [UP])], one_box(0, 9, ALL), (0, [], 0), [
            one_box(0, 9, ALL), one_box(0, 3, ALL), one_box(7, 7, (0, 7)), one_box(4, 9, ALL), one_box(5, 10, ALL),
            one_box(5, 10, ALL)], False)
        self.tells([("if", below(4), [("set", 1, [7, 0])], [("set", 1, [1, 0])])], one_box(0, 9, ALL), (0, [], 0), [
            one_box(0, 9, ALL), one_box(0, 3, ALL), one_box(7, 7, (0, 7)), one_box(4, 9, ALL), one_box(1, 1, (0, 1)),
            one_box(1, 7, (6, 1))], False)

    def test_places_that_can_not_be_reached_are_never(self):
        self.tells([("if", below(4), [UP], [UP, UP])], one_box(0, 3, ALL), (2, [], 0), [
            one_box(0, 3, ALL), one_box(0, 3, ALL), one_box(1, 4, ALL), None, None, None, one_box(1, 4, ALL)], False)
        self.tells([("while", NOT_EVER, [UP])], NOUGHT, (2, [], 0), [NOUGHT, NOUGHT, None, None, NOUGHT], False)
        self.tells([("while", ALWAYS, []), UP], NOUGHT, (2, [], 0), [NOUGHT, NOUGHT, NOUGHT, None, None], False)

    def test_never_is_never_everywhere(self):
        for way in ((0, [], 0), (3, [1, 2], 3)):
            self.tells([UP, ("if", below(3), [], [UP]), count_to(9), SAY], None, way, [None] * 11, False)

    def counted(self, start, hi, top=3):
        """The table of a counting to top from start, at whose head hi is told."""
        behind = one_box(top, hi, (0, top) if hi == top else ALL)
        return [start, one_box(0, hi, ALL), one_box(0, top - 1, ALL), one_box(1, top, ALL), behind]

    def test_a_head_that_is_joined_as_often_as_is_asked_or_more_seldom(self):
        # 0 comes first, which is no joining, then 1, 2 and 3 are joined.
        for patience in (3, 4, 20):
            for marks in ([], [3], [0, 1, 2, 5]):
                self.tells([count_to(3)], NOUGHT, (patience, marks, 0), self.counted(NOUGHT, 3), False)

    def test_a_head_that_is_joined_patience_times_and_then_grown(self):
        for patience in (1, 2):
            self.tells([count_to(3)], NOUGHT, (patience, [], 0), self.counted(NOUGHT, None), True)

    def test_patience_0(self):
        self.tells([count_to(3)], NOUGHT, (0, [], 0), self.counted(NOUGHT, None), True)
        self.tells([count_to(3)], NOUGHT, (0, [5], 0), self.counted(NOUGHT, 5), True)
        # What is told first is no growing, and where nothing more comes there is none.
        self.tells([count_to(0)], NOUGHT, (0, [], 0), [NOUGHT, NOUGHT, None, None, NOUGHT], False)
        self.tells([("while", below(3), [])], NOUGHT, (0, [], 0), [NOUGHT, NOUGHT, NOUGHT, None], False)

    def test_marks(self):
        for patience in (0, 1, 2):
            for marks, hi in (([3], 3), ([4], 4), ([9, 4, 7], 4), ([9, 3, 4, 3], 3), ([2], None), ([-5, 0, 2], None),
                              ([GREAT], GREAT), ([-GREAT, GREAT, 3], 3)):
                self.tells([count_to(3)], NOUGHT, (patience, marks, 0), self.counted(NOUGHT, hi), True)

    def test_one_mark_behind_another(self):
        self.tells([count_to(9)], NOUGHT, (0, [2, 5, 1, 20], 0), self.counted(NOUGHT, 20, 9), True)
        self.tells([count_to(9)], NOUGHT, (0, [2, 5, 1], 0), self.counted(NOUGHT, None, 9), True)

    def test_marks_are_met_by_lower_ends_too(self):
        # Box 1 less nought is not below -5: nought less box 1 is not above 5.
        down = [("while", ("under", [-3, -1]), [("set", 1, [-1, 1])])]
        for marks, lo in (([], None), ([3], -3), ([5], -5), ([-5, -3], None)):
            self.tells(down, NOUGHT, (0, marks, 0), [
                NOUGHT, one_box(lo, 0, ALL), one_box(-2, 0, ALL), one_box(-3, -1, ALL),
                one_box(lo, -3, (0, -3) if lo == -3 else ALL)], True)

    def test_what_is_grown_is_not_sharpened(self):
        body = [("while", below(100), [("set", 1, [2, 1])])]
        self.tells(body, NOUGHT, (1, [5, 101], 0), [
            NOUGHT, one_box(0, 101, (2, 0)), one_box(0, 98, (2, 0)), one_box(2, 100, (2, 0)),
            one_box(100, 100, (0, 100))], True)

    def test_rests_that_are_grown(self):
        body = [("while", below(100), [("set", 1, [2, 1])])]
        self.tells(body, NOUGHT, (0, [5, 101], 0), [
            NOUGHT, one_box(0, 101, ALL), one_box(0, 99, ALL), one_box(2, 101, ALL), one_box(100, 101, ALL)], True)

    def test_it_has_grown_wide_wherever_it_was_grown(self):
        body = [count_to(2), ("set", 1, [0, 0]), count_to(3)]
        self.assertIs(settle(rows_of(body), NOUGHT, [], (1, [], 0))[1], True)
        self.assertIs(settle(rows_of(body), NOUGHT, [], (2, [], 0))[1], True)
        self.assertIs(settle(rows_of(body), NOUGHT, [], (3, [], 0))[1], False)
        self.assertIs(settle(rows_of(body[::-1]), NOUGHT, [], (2, [], 0))[1], True)

    def test_each_head_is_counted_by_itself(self):
        # Five joinings in all, but not more than three of one head.
        self.assertIs(settle(rows_of([count_to(2), ("set", 1, [0, 0]), count_to(3)]), NOUGHT, [], (3, [], 0))[1], False)

    def test_a_place_that_is_no_head_is_never_grown(self):
        body = [("while", below(9), [("if", ("even", [0, 1], 2), [UP], [UP])])]
        table, grew = settle(rows_of(body), NOUGHT, [], (20, [], 0))
        self.assertIs(grew, False)
        self.assertEqual(stretches_of(table[1]), [(0, 9)])

    def test_a_ring_within_a_ring_counts_its_head_since_the_table_was_begun(self):
        inner = ("while", ("under", [-2, 0, 1]), [("set", 2, [1, 0, 1])])
        body = [("while", ("under", [-3, 1, 0]), [("set", 2, [0, 0, 0]), inner, ("set", 1, [1, 1, 0])])]
        entry = of_stretches([(0, 0), (0, 0)])
        # The inner head is joined twice in the first turn, once in each of two more: never more than three at once.
        for patience, grew in ((2, True), (3, True), (4, False), (5, False)):
            told = settle(rows_of(body), entry, [], (patience, [], 0))
            self.assertIs(told[1], grew, patience)
            self.assertEqual(told, book.settle(rows_of(body), entry, [], (patience, [], 0)))
        self.assertEqual(stretches_of(settle(rows_of(body), entry, [], (4, [], 0))[0][4]), [(0, 2), (0, 2)])
        self.assertEqual(stretches_of(settle(rows_of(body), entry, [], (3, [], 0))[0][4]), [(0, None), (0, 2)])

    def test_places_behind_a_ring(self):
        self.tells([count_to(3), UP, SAY], NOUGHT, (3, [], 0),
                   self.counted(NOUGHT, 3) + [one_box(4, 4, (0, 4))] * 2, False)
        self.tells([count_to(3), UP, SAY], NOUGHT, (0, [], 0),
                   self.counted(NOUGHT, None) + [one_box(4, None, ALL)] * 2, True)

    def test_rings_one_behind_another(self):
        self.tells([count_to(2), count_to(4)], NOUGHT, (2, [], 0), [
            NOUGHT, one_box(0, 2, ALL), one_box(0, 1, ALL), one_box(1, 2, ALL), one_box(2, 2, (0, 2)),
            one_box(2, 4, ALL), one_box(2, 3, ALL), one_box(3, 4, ALL), one_box(4, 4, (0, 4))], False)

    def test_calls_by_their_summaries(self):
        body = [("call", 1, 1, [[0, 1]]), UP]
        more = over(2, {(2, 1): 1, (1, 2): -1})
        entry = one_box(0, 9, ALL)
        self.tells(body, entry, (0, [], 1), [entry, one_box(1, 10, ALL), one_box(2, 11, ALL)], False, (None, more))
        self.tells(body, entry, (0, [], 1), [entry, None, None], False, (more, None))

    def test_how_far_boxes_lie_apart(self):
        body = [("while", ("under", [0, 1, -1]), [("set", 1, [1, 1, 0])])]
        table, grew = settle(rows_of(body), of_stretches([(0, 0), (0, None)]), [], (0, [], 1))
        self.assertIs(grew, True)
        self.assertEqual(table[-1], over(2, {(1, 0): None, (0, 1): 0, (0, 2): 0, (1, 2): 0, (2, 1): 0}))

    def test_many_figures(self):
        self.tells([("while", below(10 ** 100), [("set", 1, [10 ** 100, 1])])], one_box(-GREAT, -GREAT, (0, -GREAT)),
                   (0, [GREAT], 1), [
            one_box(-GREAT, -GREAT, (0, -GREAT)), one_box(-GREAT, 2 * 10 ** 100 - 1, ALL),
            one_box(-GREAT, 10 ** 100 - 1, ALL), one_box(10 ** 100 - GREAT, 2 * 10 ** 100 - 1, ALL),
            one_box(10 ** 100, 2 * 10 ** 100 - 1, ALL)], True)


class GoingBack(Case):
    # Box 2 follows box 1, and box 3 box 2, one turn later each.
    FOLLOWED = [("while", ("even", [0, 1, 1, 1], 3), [
        ("set", 3, [0, 0, 1, 0]), ("set", 2, [0, 1, 0, 0]), ("rest", 1, [1, 1, 0, 0], 4)])]

    def test_none(self):
        table, grew = settle(rows_of([count_to(3)]), NOUGHT, [], (0, [], 0))
        self.assertEqual([stretches_of(told)[0] for told in table], [(0, 0), (0, None), (0, 2), (1, 3), (3, None)])
        self.assertIs(grew, True)

    def test_one_that_stands_and_narrows(self):
        for back in (1, 2, 20):
            table, grew = settle(rows_of([count_to(3)]), NOUGHT, [], (0, [], back))
            self.assertEqual(table, [NOUGHT, one_box(0, 3, ALL), one_box(0, 2, ALL), one_box(1, 3, ALL),
                                     one_box(3, 3, (0, 3))])
            # It has grown wide by the way, whatever was taken back.
            self.assertIs(grew, True)

    def test_one_by_one(self):
        tables = []
        for back in range(7):
            table, grew = settle(rows_of(self.FOLLOWED), of_stretches([(0, 0)] * 3), [], (0, [], back))
            self.assertIs(grew, True)
            self.assertTrue(stands(rows_of(self.FOLLOWED), of_stretches([(0, 0)] * 3), [], table))
            tables.append(table)
        heads_told = [stretches_of(table[1]) for table in tables]
        wide = (0, None)
        self.assertEqual(heads_told, [[wide] * 3, [(0, 3), wide, wide], [(0, 3), (0, 3), wide]] + [[(0, 3)] * 3] * 4)
        for narrower, wider in zip(tables[1:], tables):
            self.assertTrue(all(told_inside(one, other) for one, other in zip(narrower, wider)))

    def test_the_table_beside_is_told_by_itself_as_it_is_by_then(self):
        # One going back carries what is narrower to all places behind, but round the ring.
        table = settle(rows_of([count_to(3), UP, UP]), NOUGHT, [], (0, [], 1))[0]
        self.assertEqual([stretches_of(told)[0] for told in table[4:]], [(3, 3), (4, 4), (5, 5)])

    def test_what_was_joined_needlessly_is_left_out(self):
        # Ahead of the ring's last turn box 1 may hold what the grown head told by then.
        body = [("while", below(9), [("if", ("under", [-20, 1]), [UP], [("set", 1, [-100, 0])])])]
        for back in range(4):
            told = settle(rows_of(body), NOUGHT, [], (1, [4, 30], back))
            self.assertEqual(told, book.settle(rows_of(body), NOUGHT, [], (1, [4, 30], back)))

    def jumping(self, told, act, summaries):
        """No outcome as the document tells: by a narrower told thing it is wider."""
        if told is None or act[0] == "go":
            return told
        if act[2] is False:
            return told
        hi = told[0][1][0]
        return one_box(0, 5 if hi is None else hi + 1, ALL)

    def test_one_that_does_not_stand_is_left(self):
        # By outcomes as they are told each going back stands, so others stand in for them here.
        rows = rows_of([("while", below(9), [])])
        with mock.patch("seer.rings.outcome", self.jumping):
            left = [one_box(0, 0, ALL), one_box(0, None, ALL), one_box(0, 5, ALL), one_box(0, None, ALL)]
            for back in (0, 1, 2, 20):
                self.assertEqual(settle(rows, one_box(0, 0, ALL), [], (0, [], back)), (left, True))
            beside = [one_box(0, 0, ALL), one_box(0, 5, ALL), one_box(0, 6, ALL), one_box(0, 5, ALL)]
            self.assertIs(stands(rows, one_box(0, 0, ALL), [], left), True)
            self.assertIs(stands(rows, one_box(0, 0, ALL), [], beside), False)


class Cleared(Case):
    # Only where the counting is grown wide box 1 seems to be above 10 behind it.
    LOST = [count_to(10), ("if", ("under", [10, -1]), [count_to(20), UP], []), SAY]

    def test_places_that_are_not_reached_become_never(self):
        table = settle(rows_of(self.LOST), NOUGHT, [], (0, [], 0))[0]
        self.assertEqual([place for place, told in enumerate(table) if told is None], [])
        # Going back, the lost ring is still told by its own last place, so it does not go by itself.
        for back in (1, 2, 9, 20):
            table, grew = settle(rows_of(self.LOST), NOUGHT, [], (0, [], back))
            self.assertEqual([place for place, told in enumerate(table) if told is None], [5, 6, 7, 8, 9, 10])
            self.assertIs(grew, True)
            self.assertTrue(stands(rows_of(self.LOST), NOUGHT, [], table))
            self.assertEqual((table, grew), book.settle(rows_of(self.LOST), NOUGHT, [], (0, [], back)))

    def test_the_places_that_are_kept_are_as_they_were(self):
        ten = one_box(10, 10, (0, 10))
        # What came out of the lost ring was joined behind it, and stays there until the ring has come to its end.
        for back, behind in ((1, one_box(10, 21, (11, 10))), (9, one_box(10, 21, (11, 10))), (10, ten), (20, ten)):
            table = settle(rows_of(self.LOST), NOUGHT, [], (0, [], back))[0]
            self.assertEqual(table[:5], [NOUGHT, one_box(0, 10, ALL), one_box(0, 9, ALL), one_box(1, 10, ALL), ten])
            self.assertEqual(table[11:], [ten, behind, behind])

    def test_a_place_0_that_is_never(self):
        for back in (0, 1):
            self.assertEqual(settle(rows_of([UP]), None, [], (0, [], back)), ([None, None], False))
            self.assertEqual(settle([], None, [], (0, [], back)), ([None], False))


WAYS = [(0, [], 0), (0, [], 2), (1, [0, 7], 1), (2, [20, -3, 5], 0), (4, [], 20), (20, [0], 1), (3, [-8, 1, 1, 30], 3)]


class ByManyBodies(Case):
    def each(self, seeds):
        for seed in seeds:
            maker = Ringer(seed)
            for params, many, body in maker.program():
                boxes = [maker.dice.throw(9) - 4 for box in range(many)]
                entry = told_about(maker.dice, boxes)
                summaries = [None if maker.dice.throw(8) == 0 else over(3, {}) for f in range(5)]
                yield self.without_calls(body), entry, summaries, maker.dice.choice(WAYS)

    def without_calls(self, body):
        """Calls fit only the summaries of their own programs."""
        kept = []
        for one in body:
            if one[0] == "if":
                one = one[:2] + (self.without_calls(one[2]), self.without_calls(one[3]))
            if one[0] == "while":
                one = one[:2] + (self.without_calls(one[2]),)
            if one[0] != "call":
                kept.append(one)
        return kept

    def test_by_the_book(self):
        seen = set()
        for body, entry, summaries, way in self.each(range(90)):
            rows = rows_of(body)
            told = settle(rows, entry, summaries, way)
            self.assertEqual(told, book.settle(rows, entry, summaries, way), (body, entry, way))
            self.assertTrue(all(is_told(one) for one in told[0]))
            self.assertIs(stands(rows, entry, summaries, told[0]), True, (body, entry, way))
            self.assertEqual(heads(rows), book.heads(rows))
            seen.add((len(heads(rows)) > 1, told[1], None in told[0]))
        # The bodies are worth something only where they differ enough.
        self.assertEqual(seen, set(itertools.product((True, False), repeat=3)))

    def test_a_table_that_was_not_grown_is_inside_each_that_stands(self):
        many = 0
        for body, entry, summaries, way in self.each(range(100, 140)):
            rows = rows_of(body)
            table, grew = settle(rows, entry, summaries, (20, [], 0))
            if not grew:
                many += 1
                for other in WAYS:
                    wider = settle(rows, entry, summaries, other)[0]
                    self.assertTrue(all(told_inside(one, two) for one, two in zip(table, wider)), (body, entry, other))
        self.assertGreater(many, 30)

    def test_a_table_with_one_outcome_narrowed_does_not_stand(self):
        many = 0
        for body, entry, summaries, way in self.each(range(200, 230)):
            rows = rows_of(body)
            table = settle(rows, entry, summaries, way)[0]
            for here, act, there in rows:
                found = outcome(table[here], act, summaries)
                if found is not None:
                    many += 1
                    self.assertIs(stands(rows, entry, summaries, table[:there] + [None] + table[there + 1:]), False)
        self.assertGreater(many, 200)

    def test_tables_by_throws_stand_or_not_by_the_book(self):
        seen = []
        for dice, n, told in some_things(71, 400, (1, 2)):
            body = [("if", ("under", [0] + [1] * n), [("set", 1, [1] * (n + 1))], [("say", ("same", [0] * (n + 1)))])]
            table = [over(n, {}) for place in range(6)]
            table[dice.throw(6)] = told
            rows = rows_of(body)
            found = stands(rows, told, [], table)
            self.assertIs(found, book.stands(rows, told, [], table), (told, table))
            seen.append(found)
        self.assertGreater(min(seen.count(True), seen.count(False)), 50)

    def test_what_is_told_is_the_askers_own(self):
        for body, entry, summaries, way in itertools.islice(self.each(range(300, 320)), 40):
            check_own(self, settle, rows_of(body), entry, summaries, copy.deepcopy(way))
        more = over(2, {(2, 1): 1, (1, 2): -1})
        check_own(self, settle, rows_of([("call", 1, 0, [[0, 1]])]), one_box(0, 9, ALL), [more], (1, [3], 2))
        check_own(self, settle, [], one_box(0, 9, ALL), [], (1, [3], 2))

    def test_told_again_it_is_the_same(self):
        dice = Dice(72)
        asked = list(self.each(range(400, 410)))
        first = [settle(rows_of(body), entry, summaries, way) for body, entry, summaries, way in asked]
        for turn in range(60):
            k = dice.throw(len(asked))
            body, entry, summaries, way = asked[k]
            self.assertEqual(settle(rows_of(body), entry, summaries, way), first[k])


if __name__ == "__main__":
    unittest.main()
