"""Point 31, and points 4, 16, 19 and 48 as far as they speak of single histories."""

import itertools
import unittest

from calledanew.judge import faults
from calledanew.live import Live
from calledanew.parts import Part
from calledanew.standings import all_events, is_standing
from deeds import CALL, EACH, EACH_CALL, PASS, RULES, go_on, items, outcome, start, told
from random_parts import history_of, parts_of

STEADY = parts_of(1, 200, steady=True)
ANY = parts_of(2, 250)
EVERY = STEADY + ANY


def histories_of(parts):
    """List each part with each rule and the Steps of a history."""
    found = [(part, rule, history_of(part, rule, number)) for number, part in enumerate(parts) for rule in RULES]
    return [(part, rule, deeds) for part, rule, deeds in found if deeds]


OF_STEADY = histories_of(STEADY)
OF_EVERY = OF_STEADY + histories_of(ANY)


def faults_in(part, deeds):
    """The set of all faults of these Steps."""
    return {fault for deed in deeds for fault in faults(part, deed.before, deed.trace, deed.after)}


def function_rows(rows):
    """All rows of a function, at all depths and in its later rows."""
    found = []
    for row in rows:
        found.append(row)
        for inner in {"if": row[3:], "later": row[1:]}.get(row[0], ()):
            found.extend(function_rows(inner))
    return found


def effect_rows(part):
    return [part.row_at(path) for path in part.hooks() if part.row_at(path)[0] == "effect"]


def ways(rows):
    """The kinds of the rows on each way through the rows."""
    found = [()]
    for row in rows:
        if row[0] == "if":
            inner = [("if",) + way for half in row[3:] for way in ways(half)]
        else:
            inner = [(row[0],)]
        found = [way + more for way in found for more in inner]
    return found


def ends_with_its_change(rows):
    """Tell whether no way through the rows has a row behind a set or turn row."""
    return not any(kind in ("set", "turn") for way in ways(rows) for kind in way[:-1])


class Drawn(unittest.TestCase):

    def test_the_parts_and_histories_are_rich_enough(self):
        kinds = {}
        for part, rule, deeds in OF_EVERY:
            for kind, path in faults_in(part, deeds):
                kinds[kind] = kinds.get(kind, 0) + 1
        self.assertEqual(set(kinds), {"mixed", "old", "stale", "late", "missed", "needless", "crossed"})
        self.assertGreater(min(kinds.values()), 3, kinds)
        self.assertTrue(all(part.is_steady() for part in STEADY))
        self.assertGreater(len([part for part in ANY if not part.is_steady()]), 50)

    def test_each_standing_is_one_and_each_step_can_be_done_again(self):
        for part, rule, deeds in OF_EVERY:
            for deed in deeds:
                self.assertTrue(is_standing(part, deed.after))
                if deed.before is not None:
                    self.assertEqual(told(go_on(part, deed.before, deed.event, rule=rule)), told(deed))


class Facts(unittest.TestCase):

    def test_1_a_steady_part_has_no_slip_mixed_or_crossed(self):
        for part, rule, deeds in OF_STEADY:
            for kind, path in faults_in(part, deeds):
                self.assertNotIn(kind, ("mixed", "crossed"))
            for event in all_events(part):
                self.assertNotEqual(outcome(lambda: go_on(part, deeds[-1].after, event, rule=rule))[0], "slip")

    def test_2_rows_with_the_list_none_or_a_full_one(self):
        kinds = {"handler": ("stale", 2), "effect": ("missed", 1)}
        seen = []
        for part, rule, deeds in OF_EVERY:
            found = faults_in(part, deeds)
            for path in part.hooks():
                row = part.row_at(path)
                if row[0] in kinds:
                    kind, at = kinds[row[0]]
                    full = part.is_steady() and row[at] is not None and set(part.held(path + (0,))) <= set(row[at])
                    if row[at] is None or full:
                        seen.append(full)
                        self.assertNotIn((kind, path), found)
        self.assertGreater(min(seen.count(True), seen.count(False)), 100)

    def test_3_no_needless_runs_with_a_list_of_held_slots(self):
        count = 0
        for part, rule, deeds in OF_STEADY:
            found = faults_in(part, deeds)
            for path in part.hooks():
                row = part.row_at(path)
                if row[0] == "effect" and row[1] is not None and set(row[1]) <= set(part.held(path + (0,))):
                    count += 1
                    self.assertNotIn(("needless", path), found)
        self.assertGreater(count, 50)

    def test_4_no_old_word_if_the_list_contains_from(self):
        count = 0
        for part, rule, deeds in OF_STEADY:
            found = faults_in(part, deeds)
            for path in part.hooks():
                row = part.row_at(path)
                if row[0] == "kept" and row[2] in row[4]:
                    count += 1
                    self.assertNotIn(("old", path), found)
        self.assertGreater(count, 20)

    def test_5_an_effect_with_an_empty_list_is_run_once(self):
        count = 0
        for part, rule, deeds in OF_STEADY:
            done = [item[1] for deed in deeds for item in items(deed, "run")]
            for path in part.hooks():
                if part.row_at(path)[:2] == ("effect", ()):
                    count += 1
                    self.assertEqual([done.count(path + (0,)), done.count(path + (1,))], [1, 0])
                    self.assertIn(path + (0,), [item[1] for item in items(deeds[0], "run")])
        self.assertGreater(count, 50)

    def test_6_bodies_and_cleans_take_turns(self):
        count = 0
        for part, rule, deeds in OF_EVERY:
            words, waiting, cleaned = None, {}, {}
            for item in [item for deed in deeds for item in deed.trace]:
                if item[0] == "call":
                    words = dict(zip(part.slots(), item[2]))
                if item[0] == "run" and part.row_at(item[1][:-1])[0] == "effect":
                    path, number = item[1], item[2]
                    if path[-1] == 1:
                        count += 1
                        self.assertEqual((path, item[3]), waiting.pop(number))
                    else:
                        self.assertNotIn(number, waiting)
                        clean = path[:-1] + (1,)
                        if part.row_at(path[:-1])[3]:
                            waiting[number] = (clean, tuple([words[slot] for slot in part.held(clean)]))
        self.assertGreater(count, 200)

    def test_7_together_and_each(self):
        count = 0
        for number, part in enumerate(EVERY):
            functions = [part.row_at(path[:-1]) for path in part.functions()]
            bodies = [row[-1] for row in functions if row[0] in ("handler", "later")]
            if all(ends_with_its_change(rows) for rows in bodies):
                for first, second in ((PASS, EACH), (CALL, EACH_CALL)):
                    deeds = history_of(part, first, number)
                    self.assertEqual([told(deed) for deed in deeds],
                                     [told(deed) for deed in history_of(part, second, number)])
                    count += sum(len(items(deed, "cell")) for deed in deeds)
        self.assertGreater(count, 100)

    def test_8_pass_and_call(self):
        count = 0
        for number, part in enumerate(EVERY):
            if any(row[1] is None for row in effect_rows(part)):
                continue
            for first, second in ((PASS, CALL), (EACH, EACH_CALL)):
                deeds = history_of(part, first, number)
                begun = outcome(lambda: start(part, deeds[0].after[0][:len(part.inputs)],
                                              second)) if deeds else ("round",)
                standing = begun[2] if len(begun) > 2 else None
                for deed in deeds if standing else []:
                    if deed.event is not None:
                        other = outcome(lambda: go_on(part, standing, deed.event, rule=second))
                        if other == ("round", ()):
                            break
                        self.assertEqual([other[2], other[4]], [deed.after, deed.said])
                        standing = other[2]
                        count += 1
        self.assertGreater(count, 500)

    def test_9_parts_whose_effects_change_no_cell(self):
        count = 0
        for part, rule, deeds in OF_EVERY:
            rows = [row for effect in effect_rows(part) for row in function_rows(effect[2] + effect[3])]
            if any(row[0] in ("set", "turn") for row in rows):
                continue
            for deed in deeds:
                count += 1
                most = 1 if deed.event is None or deed.event[0] == "hand" or rule.batch == "together" else \
                    len(items(deed, "set", "turn"))
                self.assertLessEqual(deed.calls, most)
            self.assertEqual(deeds[0].calls, 1)
        self.assertGreater(count, 500)

    def test_10_no_start_with_call_for_an_effect_that_always_changes_a_cell(self):
        count = 0
        for part in STEADY:
            effects = effect_rows(part)
            if any(row[1] is None and any(inner[0] in ("set", "turn") for inner in row[2]) for row in effects):
                late = any(inner[0] == "later" for row in effects for inner in row[2])
                for rule in (CALL, EACH_CALL):
                    for words in itertools.product(part.words, repeat=len(part.inputs)):
                        count += 1
                        self.assertIn(outcome(lambda: start(part, words, rule))[0],
                                      ("round", "full") if late else ("round",))
        self.assertGreater(count, 20)


class KeptAndMap(unittest.TestCase):

    def test_a_kept_row_whose_list_contains_its_from_is_like_a_map_row(self):
        count = 0
        for number, part in enumerate(STEADY):
            for path in part.hooks():
                row = part.row_at(path)
                if row[0] == "kept" and row[2] in row[4]:
                    other = part.with_row(path, ("map",) + row[1:4])
                    for rule in RULES:
                        count += 1
                        first, second = history_of(part, rule, number), history_of(other, rule, number)
                        self.assertEqual([(deed.event, deed.shown, deed.said, deed.calls) for deed in first],
                                         [(deed.event, deed.shown, deed.said, deed.calls) for deed in second])
        self.assertGreater(count, 30)


def renamed(value, names):
    """The rows with each name replaced, whatever it stands for; the kinds of rows stay."""
    kind, *rest = value
    roles = {"cell": "sw", "box": "bw", "kept": "sstl", "effect": "lrr", "handler": "elr", "put": "sw", "map": "sst",
             "if": "swrr", "show": "s", "say": "s", "set": "ss", "turn": "st", "write": "bs", "fetch": "bs",
             "later": "r"}
    done = []
    for role, item in zip(roles[kind], rest):
        if role == "r":
            done.append(tuple([renamed(row, names) for row in item]))
        elif item is None:
            done.append(None)
        elif role in "tl":
            done.append(tuple([names["w" if role == "t" else "s"][name] for name in item]))
        else:
            done.append(names[role][item])
    return (kind, *done)


class Names(unittest.TestCase):
    """Names mean nothing: slots, boxes, events and words are told apart by where they stand."""

    def test_the_same_names_for_all(self):
        letters = "abcdefghijklmnopqrstuvwxyz"
        slots = {name: "slot" + name for name in letters}
        for number, part in enumerate(EVERY):
            for same in (("go", "up", "a"), ("slota", "slotb", "cell"), ("slotx", "off", "slotc")):
                names = {"s": slots, "b": {"a": same[0], "z": same[1]}, "w": dict(zip(part.words, same)),
                         "e": dict(zip(part.events, same[1:]))}
                if same[0] > same[1]:
                    names["b"] = {"a": same[1], "z": same[0]}
                other = Part(tuple([names["w"][word] for word in part.words]),
                             tuple([slots[name] for name in part.inputs]),
                             tuple([names["e"][name] for name in part.events]),
                             tuple([renamed(row, names) for row in part.rows]))
                rule = RULES[number % 4]
                first, second = history_of(part, rule, number), history_of(other, rule, number)
                self.assertEqual([tuple([names["w"][word] for word in deed.shown + deed.said]) for deed in first],
                                 [deed.shown + deed.said for deed in second])
                self.assertEqual([(deed.calls, deed.done, deed.after[1]) for deed in first],
                                 [(deed.calls, deed.done, deed.after[1]) for deed in second])
                self.assertEqual([faults(part, deed.before, deed.trace, deed.after) for deed in first],
                                 [faults(other, deed.before, deed.trace, deed.after) for deed in second])

    def test_a_slot_a_box_an_event_and_a_word_of_one_name(self):
        part = Part(("go", "x"), ("x",), ("go",), (
            ("cell", "go", "go"), ("box", "go", "go"), ("box", "x", "x"),
            ("handler", "go", None, (("write", "go", "x"), ("fetch", "x", "go"), ("say", "go"), ("set", "go", "x"),
                                     ("fetch", "go", "x"), ("say", "x"))),
            ("show", "go"), ("show", "x")))
        first = start(part, ("x",))
        deed = go_on(part, first.after, ("press", "go"))
        self.assertEqual([first.shown, deed.said, deed.shown], [("go", "x"), ("x", "x"), ("x", "x")])


    def test_names_of_kinds(self):
        part = Part(("cell", "tick"), ("press", "hand"), ("tick", "hand"), (
            ("cell", "cell", "cell"), ("box", "cell", "tick"),
            ("handler", "tick", None, (("say", "hand"), ("turn", "cell", ("tick", "cell")),
                                       ("later", (("say", "cell"),)))),
            ("handler", "hand", None, (("fetch", "cell", "box"), ("say", "box"))),
            ("show", "press"), ("show", "hand"), ("show", "cell")))
        live = Live(part, PASS, ("cell", "tick"))
        self.assertEqual([live.press("tick"), live.press("hand"), live.tick(), live.hand("press", "tick"),
                          live.screen()],
                         [["tick"], ["tick"], ["cell"], [], ("tick", "tick", "tick")])
        self.assertEqual([live.hand("hand", "cell"), live.screen()], [[], ("tick", "cell", "tick")])


class SameAnswers(unittest.TestCase):

    def test_asked_twice_and_between_questions_to_other_parts(self):
        first = [[told(deed) for deed in history_of(part, PASS, 7)] for part in EVERY]
        again = [[told(deed) for deed in history_of(part, PASS, 7)] for part in reversed(EVERY)]
        self.assertEqual(first, again[::-1])

    def test_an_equal_part_answers_the_same(self):
        for number, part in enumerate(EVERY[::5]):
            other = Part(part.words, part.inputs, part.events, part.rows)
            rule = RULES[number % 4]
            self.assertEqual([told(deed) for deed in history_of(part, rule, number)],
                             [told(deed) for deed in history_of(other, rule, number)])


if __name__ == "__main__":
    unittest.main()
