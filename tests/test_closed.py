"""Point 40's neighbour `is_closed`: lists of standings that no start and no event leads out of."""

import copy
import unittest

from calledanew.books import Book, is_closed
from calledanew.calling import step
from calledanew.errors import InvalidBound
from calledanew.standings import all_events, is_standing
from deeds import BAD_BOUNDS, CALL, PASS, RULES
from plain import done
from samples import nested
from shelves import ALL, BACK, COUNTS, EMPTY, FULL, MIXED, NAMED, NEVER, SLIPS, STALE, TWO_INPUTS, WAITS


def all_behind(part, rule, standing):
    """The standing and all to which events lead from it."""
    rows = [standing]
    for at in rows:
        for event in all_events(part):
            deed = done(lambda: step(part, rule, at, event))[0]
            if deed is not None and deed.after not in rows:
                rows.append(deed.after)
    return rows


def strange(part, rule):
    """A standing that no run leads to: as one of the book, with other words that are shown."""
    standing = Book(part, rule).standings()[0]
    other = standing[:4] + (standing[4] + (part.words[1],) * 3,)
    assert is_standing(part, other)
    return other


class Closed(unittest.TestCase):

    def test_the_standings_of_a_book(self):
        for number, part in enumerate(ALL):
            rule = RULES[number % 4]
            standings = Book(part, rule).standings()
            kept = copy.deepcopy(standings)
            self.assertIs(is_closed(part, rule, standings), True)
            self.assertEqual(standings, kept)

    def test_another_order_and_duplicates(self):
        for part in NAMED.values():
            standings = Book(part, PASS).standings()
            for value in (standings[::-1], standings * 2, standings + standings[:1], standings[1:] + standings[:1]):
                self.assertIs(is_closed(part, PASS, value), True)

    def test_one_left_out(self):
        for part in (STALE, WAITS, FULL, MIXED, TWO_INPUTS, COUNTS, BACK, SLIPS, EMPTY):
            for rule in RULES:
                standings = Book(part, rule).standings()
                for at in range(len(standings)):
                    self.assertIs(is_closed(part, rule, standings[:at] + standings[at + 1:]), False)

    def test_starts_alone_and_events_alone_are_not_enough(self):
        # Only the second start leads to the second standing, and no event leads there.
        standings = Book(COUNTS, PASS).standings()
        self.assertFalse(is_closed(COUNTS, PASS, standings[:1]))
        for part in (WAITS, MIXED, FULL):
            starts = [standing for words, standing in Book(part, PASS).starts()]
            self.assertFalse(is_closed(part, PASS, starts))

    def test_one_more_that_no_run_leads_to(self):
        grown = 0
        for number, part in enumerate(ALL):
            rule = RULES[number % 4]
            standings = Book(part, rule).standings()
            if standings:
                other = strange(part, rule)
                behind = all_behind(part, rule, other)
                missing = [at for at in behind if at not in standings + [other]]
                grown += len(missing) > 0
                self.assertIs(is_closed(part, rule, standings + [other]), missing == [])
                self.assertIs(is_closed(part, rule, [other] + standings), missing == [])
                self.assertIs(is_closed(part, rule, standings + behind), True)
                for at in missing:
                    rest = [item for item in standings + behind if item != at]
                    self.assertIs(is_closed(part, rule, rest), False)
        self.assertGreater(grown, 5)

    def test_a_part_all_of_whose_starts_are_refused(self):
        self.assertIs(is_closed(NEVER, CALL, []), True)
        self.assertIs(is_closed(NEVER, PASS, []), False)
        standing = Book(NEVER, PASS).standings()[0]
        self.assertIs(is_closed(NEVER, CALL, [standing]), True)
        self.assertIs(is_closed(COUNTS, PASS, [], most=3), True)
        self.assertIs(is_closed(COUNTS, PASS, [], most=4), False)

    def test_the_empty_list(self):
        for part in NAMED.values():
            self.assertIs(is_closed(part, PASS, []), False)

    def test_the_bound_is_passed_on(self):
        standings = Book(BACK, PASS, most=1).standings()
        self.assertIs(is_closed(BACK, PASS, standings, most=1), True)
        for number, part in enumerate(ALL):
            for most in (1, 2):
                self.assertIs(is_closed(part, RULES[number % 4], Book(part, RULES[number % 4], most=most).standings(),
                                        most=most), True)
        # Without the bound of one call the press leads on.
        self.assertIs(is_closed(COUNTS, PASS, Book(COUNTS, PASS, most=3).standings(), most=4), False)


class OtherValues(unittest.TestCase):

    def test_values_that_are_no_list(self):
        standings = Book(STALE, PASS).standings()
        for value in [tuple(standings), {at: True for at in standings}, None, True, 0, "", "go", (), {}, standings[0],
                      *[deep for deep in nested(20) if not isinstance(deep, list)]]:
            self.assertIs(is_closed(STALE, PASS, value), False)
        self.assertIs(is_closed(NEVER, CALL, ()), False)

    def test_items_that_are_no_standing(self):
        for part in (STALE, WAITS, EMPTY):
            standings = Book(part, PASS).standings()
            for item in [None, True, 0, "", (), [], {}, list(standings[0]), standings[0][:4], standings[0] + ((),),
                         standings,
                         *nested(19)]:
                self.assertIs(is_closed(part, PASS, standings + [item]), False)
                self.assertIs(is_closed(part, PASS, [item] + standings), False)
                self.assertIs(is_closed(part, PASS, [item]), False)
        self.assertIs(is_closed(NEVER, CALL, [None]), False)

    def test_standings_of_another_part(self):
        self.assertIs(is_closed(STALE, PASS, Book(STALE, PASS).standings() + Book(WAITS, PASS).standings()), False)

    def test_wrong_bounds_come_first(self):
        for most in BAD_BOUNDS:
            for value in (Book(STALE, PASS).standings(), None, [], [None]):
                with self.assertRaises(InvalidBound) as caught:
                    is_closed(STALE, PASS, value, most=most)
                self.assertIs(caught.exception.value, most)
        for most in (1, 500):
            self.assertIs(is_closed(STALE, PASS, Book(STALE, PASS).standings(), most=most), True)


if __name__ == "__main__":
    unittest.main()
