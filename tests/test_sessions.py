"""The examples of the document that use texts, books and what is built on them, each as a session of its own."""

import unittest

SESSIONS = """
>>> from calledanew.parts import Part
>>> from calledanew.texts import format_part
>>> part = Part(("off", "on"), (), ("go",), (("cell", "a", "off"), ("handler", "go", (), (("say", "a"), ("turn", "a", ("on", "off"))))))
>>> format_part(part)
'words off on\\ninputs\\nevents go\\ncell a off\\nhandler go :\\nsay a\\nturn a = on off\\nend\\n'

>>> from calledanew.texts import parse_part
>>> parse_part("words off on\\ninputs\\nevents\\nsay\\n")
raises InvalidText(4)

>>> from calledanew.texts import parse_events
>>> parse_events("press go\\ntick\\nhand x on\\n")
[('press', 'go'), ('tick',), ('hand', 'x', 'on')]

>>> from calledanew.parts import Part
>>> from calledanew.rules import Rule
>>> from calledanew.books import Book
>>> part = Part(("off", "on"), (), ("go",), (("cell", "c", "off"), ("handler", "go", (), (("map", "c", "c", ("on", "off")), ("set", "c", "c"))), ("show", "c")))
>>> rule = Rule("together", "pass")
>>> book = Book(part, rule)
>>> [len(book), book.faults()]
[2, [('stale', (1,))]]

>>> from calledanew.parts import Part
>>> from calledanew.rules import Rule
>>> from calledanew.books import Book
>>> part = Part(("off", "on"), (), ("go",), (("cell", "c", "off"), ("handler", "go", (), (("map", "c", "c", ("on", "off")), ("set", "c", "c"))), ("show", "c")))
>>> rule = Rule("together", "pass")
>>> Book(part, rule).least_fault("stale", (1,))
((), (('press', 'go'), ('press', 'go')))

>>> from calledanew.parts import Part
>>> from calledanew.rules import Rule
>>> from calledanew.books import Book
>>> part = Part(("off", "on"), (), ("go",), (("cell", "c", "off"), ("handler", "go", (), (("map", "c", "c", ("on", "off")), ("set", "c", "c"))), ("show", "c")))
>>> rule = Rule("together", "pass")
>>> Book(part, rule, limit=1)
raises LimitExceeded(1)

>>> from calledanew.parts import Part
>>> from calledanew.rules import Rule
>>> from calledanew.lists import full_list, missing_slots, least_lists
>>> part = Part(("off", "on"), (), ("go",), (("cell", "c", "off"), ("handler", "go", (), (("map", "c", "c", ("on", "off")), ("set", "c", "c"))), ("show", "c")))
>>> rule = Rule("together", "pass")
>>> [full_list(part, (1,)), missing_slots(part, (1,)), least_lists(part, rule, (1,), ["stale"])]
[('c',), ('c',), [('c',)]]

>>> from calledanew.parts import Part
>>> from calledanew.rules import Rule
>>> from calledanew.lists import with_list
>>> from calledanew.alike import difference
>>> part = Part(("off", "on"), (), ("go",), (("cell", "c", "off"), ("handler", "go", (), (("map", "c", "c", ("on", "off")), ("set", "c", "c"))), ("show", "c")))
>>> rule = Rule("together", "pass")
>>> difference((part, rule), (with_list(part, (1,), ("c",)), rule))
((), (('press', 'go'), ('press', 'go')))

>>> from calledanew.parts import Part
>>> from calledanew.rules import Rule
>>> from calledanew.books import Book
>>> from calledanew.alike import classes, parting
>>> part = Part(("off", "on"), (), ("go",), (("cell", "c", "off"), ("handler", "go", (), (("map", "c", "c", ("on", "off")), ("set", "c", "c"))), ("show", "c")))
>>> rule = Rule("together", "pass")
>>> book = Book(part, rule)
>>> standings = book.standings()
>>> [classes(book), parting(book, standings[0], standings[1])]
[[[0], [1]], ()]

>>> from calledanew.parts import Part
>>> from calledanew.rules import Rule
>>> from calledanew.books import Book
>>> from calledanew.counting import most_calls, most_runs
>>> part = Part(("off", "on"), (), ("go",), (("cell", "c", "off"), ("handler", "go", (), (("map", "c", "c", ("on", "off")), ("set", "c", "c"))), ("show", "c")))
>>> rule = Rule("together", "pass")
>>> book = Book(part, rule)
>>> [most_calls(book), most_runs(book, (1, 0))]
[(1, ((), ())), (1, ((), (('press', 'go'),)))]

>>> from calledanew.parts import Part
>>> from calledanew.rules import Rule
>>> from calledanew.counting import costs
>>> part = Part(("off", "on"), (), ("go",), (("cell", "c", "off"), ("handler", "go", (), (("map", "c", "c", ("on", "off")), ("set", "c", "c"))), ("show", "c")))
>>> costs(part, ((), (("press", "go"), ("press", "go"))))
[(2, 2), (3, 2), (2, 2), (3, 2)]

>>> from calledanew.parts import Part
>>> from calledanew.rules import Rule
>>> from calledanew.heals import heals
>>> part = Part(("off", "on"), (), ("go",), (("cell", "c", "off"), ("handler", "go", (), (("map", "c", "c", ("on", "off")), ("set", "c", "c"))), ("show", "c")))
>>> rule = Rule("together", "pass")
>>> heals(part, rule, "stale", [("list", (1,), ("c",)), ("none", (1,))])
[(('list', (1,), ('c',)),), (('none', (1,)),)]

>>> from calledanew.parts import Part
>>> from calledanew.rules import Rule
>>> from calledanew.heals import rules_free
>>> part = Part(("off", "on"), (), ("go",), (("cell", "c", "off"), ("handler", "go", (), (("map", "c", "c", ("on", "off")), ("set", "c", "c"))), ("show", "c")))
>>> rule = Rule("together", "pass")
>>> [len(rules_free(part, ["stale"])), len(rules_free(part, ["needless"]))]
[0, 4]

>>> from calledanew.parts import Part
>>> from calledanew.rules import Rule
>>> from calledanew.desk import Desk
>>> part = Part(("off", "on"), (), ("go",), (("cell", "c", "off"), ("handler", "go", (), (("map", "c", "c", ("on", "off")), ("set", "c", "c"))), ("show", "c")))
>>> rule = Rule("together", "pass")
>>> desk = Desk(part, [rule])
>>> desk |= "stale"
>>> desk[(1,)] = ("handler", "go", None, (("map", "c", "c", ("on", "off")), ("set", "c", "c")))
>>> [desk.verdicts()[0].pairs(), len(desk)]
[[], 1]

>>> from calledanew.verdicts import Verdict
>>> first = Verdict([("stale", (1,))])
>>> (first | Verdict([("slip", ()), ("mixed", (0,))])).pairs()
[('mixed', (0,)), ('stale', (1,)), ('slip', ())]

>>> from calledanew.parts import Part
>>> from calledanew.rules import Rule
>>> from calledanew.books import Book
>>> part = Part(("off", "on"), (), (), (("cell", "c", "off"), ("effect", None, (("set", "c", "c"),), ())))
>>> book = Book(part, Rule("together", "call"))
>>> [len(book), book.faults(), book.starts()]
[0, [('round', ())], [((), None)]]
"""


def play(session):
    """Do the lines of a session: the lines that are expected, and what the last call gave."""
    names, last, expected = {}, None, []
    for line in session.strip().split("\n"):
        if not line.startswith(">>> "):
            expected.append(line)
        elif last is None or not last.startswith("raises"):
            last = answer(line[4:], names)
    return "\n".join(expected), last


def answer(source, names):
    """The value of an expression as it would be shown, or the error that it raises."""
    try:
        code = compile(source, "session", "eval")
    except SyntaxError:
        exec(source, names)
        return None
    try:
        return repr(eval(code, names))
    except ValueError as error:
        return f"raises {error!r}"


class Sessions(unittest.TestCase):

    def test_each_session(self):
        sessions = SESSIONS.split("\n\n")
        self.assertEqual(len(sessions), 16)
        for session in sessions:
            with self.subTest(session):
                expected, last = play(session)
                self.assertEqual(last, expected)


if __name__ == "__main__":
    unittest.main()
