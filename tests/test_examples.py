"""The examples at the end of the document, word for word."""

import doctest
import unittest

EXAMPLES = """
>>> from statementlots.statements import Statement
>>> done = Statement({"open": ["done"]})
>>> [done.text(), done.reads(), done.writes(), (done | Statement({}, {"open": 2})).text()]
['open>done', ['open'], ['done'], 'open>done, +open 2']
>>> from statementlots.known import adding, falling, guarding, logging, ringing, telling
>>> from statementlots.runs import run
>>> from statementlots.tables import Table
>>> three = run(adding(), Table({"open": 3}, {"total": 3}), Statement({"open": ["done", "open"]}))
>>> [three.table == Table({"done": 3, "open": 3}, {"total": 6}), three.fired(), run(falling(4), Table({}), Statement({}, {"a": 1})).fired()]
[True, {'keep': 1}, {'falla': 1, 'fallb': 4, 'fallc': 16}]
>>> from statementlots.papers import outcome
>>> [outcome(guarding(1), Statement({}, {"open": 1}), (0, 1)), outcome(ringing(), Statement({}, {"a": 1}), (0, 0))]
[('refused', 'guard'), ('endless',)]
>>> from statementlots.cuts import uncuttable
>>> [uncuttable(logging(2), done) == (Table({"open": 2}), {"open": 1}, {"open": 1}), uncuttable(adding(), done)]
[True, None]
>>> from statementlots.sums import breaking, kept
>>> three = [done, Statement({}, {"open": 1}), Statement({"done": []})]
>>> always = kept(adding(), three, Table({}))
>>> [[form.text() for form in always], breaking(telling(), three, Table({}), always[0])]
[['1 done + 1 open + -1 total'], [1, 0, 2]]
>>> from statementlots.many import done_many
>>> done_many(telling(), [Statement({"open": ["open", "open"]})], Table({"open": 1}), 10 ** 20, 1000)
{'done': 0, 'open': 376, 'total': 376}
"""


class Examples(unittest.TestCase):
    def test_all_of_them(self):
        test = doctest.DocTestParser().get_doctest(EXAMPLES, {}, "examples", None, None)
        result = doctest.DocTestRunner().run(test)
        self.assertEqual((result.failed, result.attempted), (0, 18))


if __name__ == "__main__":
    unittest.main()
