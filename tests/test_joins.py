import random
import unittest

from samples import A, BEE, IN, IN_ONE, SHAPE, Pairs, chain, form, made_pairs, mix, s
from shapefree.given import follows
from shapefree.joins import paper_holds

# Given that x is what s does to it, s three times is x too; common nodes: x, (s x), (s (s x)), (s (s (s x))).
GIVENS = ((chain(0), chain(1)),)
QUESTION = (chain(3), chain(0))
PAPER = (("given", 0), ("like", 1, 2), ("like", 2, 3))


class TestPaperHolds(unittest.TestCase):
    def holds(self, paper, givens=GIVENS, question=QUESTION):
        self.assertIs(paper_holds(givens, question, paper), True, paper)

    def fails(self, paper, givens=GIVENS, question=QUESTION):
        self.assertIs(paper_holds(givens, question, paper), False, paper)

    def test_holds(self):
        self.holds(PAPER)
        self.holds((("given", 0), ("like", 2, 1), ("like", 3, 2)))
        self.holds((("given", 0), ("like", 1, 2), ("like", 1, 3)))
        self.holds((("given", 0), ("like", 2, 1), ("like", 3, 1)))

    def test_rows_more(self):
        self.holds(PAPER + PAPER)
        self.holds(PAPER + (("given", 0),))
        self.holds((("like", 3, 3),) + PAPER)
        self.holds((("given", 0), ("given", 0), ("like", 2, 2)) + PAPER)

    def test_a_row_left_out(self):
        for k in range(len(PAPER)):
            self.fails(PAPER[:k] + PAPER[k + 1:])
        self.fails(())

    def test_rows_exchanged(self):
        self.fails((PAPER[1], PAPER[0], PAPER[2]))
        self.fails((PAPER[0], PAPER[2], PAPER[1]))
        self.fails((PAPER[2], PAPER[1], PAPER[0]))

    def test_numbers_beyond(self):
        for k in (1, 2, -1, -2, 10 ** 9, -10 ** 9):
            self.fails(PAPER + (("given", k),))
            self.fails((("given", k),) + PAPER)
        for u in (4, 5, -1, -2, -4, -5, 10 ** 9, -10 ** 9):
            self.fails(PAPER + (("like", 3, u),))
            self.fails(PAPER + (("like", u, 3),))
            self.fails(PAPER + (("like", u, u),))

    def test_nodes_that_are_no_dos(self):
        for u in range(4):
            self.fails(PAPER + (("like", 0, u),))
            self.fails(PAPER + (("like", u, 0),))
        givens = ((form(IN), form(IN_ONE)), (form(A), form(BEE)))
        self.fails((("like", 0, 1),), givens, (form(IN), form(IN_ONE)))
        self.fails((("like", 2, 3),), givens, (form(A), form(BEE)))
        self.holds((("given", 0),), givens, (form(IN), form(IN_ONE)))
        self.holds((("given", 1),), givens, (form(A), form(BEE)))

    def test_unlike_deeds(self):
        question = (form(IN, s(0)), form(IN, mix(0, 0)))
        self.fails((("like", 1, 2),), (), question)
        self.fails((("like", 2, 1),), (), question)
        self.fails((("like", 1, 1), ("like", 2, 2)), (), question)

    def test_joined_by_way_of_others(self):
        givens = ((form(IN), form(IN_ONE)), (form(A), form(IN_ONE)), (form(A), form(BEE)))
        question = (form(IN, s(0)), form(BEE, s(0)))
        self.holds((("given", 0), ("given", 1), ("given", 2), ("like", 4, 5)), givens, question)
        self.holds((("given", 2), ("given", 0), ("given", 1), ("like", 5, 4)), givens, question)
        for k in range(3):
            paper = tuple(("given", j) for j in range(3) if j != k)
            self.fails(paper + (("like", 4, 5),), givens, question)
        self.holds((("given", 0), ("given", 1), ("given", 2)), givens, (form(IN), form(BEE)))
        self.fails((("given", 0), ("given", 2)), givens, (form(IN), form(BEE)))

    def test_all_places(self):
        givens = ((form(IN), form(A)), (form(IN_ONE), form(BEE)))
        question = (form(IN, IN_ONE, mix(0, 1)), form(A, BEE, mix(0, 1)))
        self.holds((("given", 0), ("given", 1), ("like", 4, 5)), givens, question)
        self.fails((("given", 0), ("like", 4, 5)), givens, question)
        self.fails((("given", 1), ("like", 4, 5)), givens, question)
        exchanged = (form(IN, IN_ONE, mix(0, 1)), form(BEE, A, mix(0, 1)))
        self.fails((("given", 0), ("given", 1), ("like", 4, 5)), givens, exchanged)

    def test_the_same_from_the_begin_on(self):
        question = (chain(2), chain(2))
        self.holds((), GIVENS, question)
        self.holds((), (), question)
        self.holds(PAPER[:2], GIVENS, question)
        self.fails((PAPER[1],), GIVENS, question)
        self.fails((("given", 0),), (), question)
        self.fails((("given", 1),), GIVENS, question)

    def test_no_givens(self):
        self.fails((), (), QUESTION)
        self.fails((("given", 0),), (), QUESTION)
        self.fails((("like", 1, 2),), (), QUESTION)

    def test_an_empty_paper(self):
        self.fails((), GIVENS, (chain(0), chain(1)))
        self.fails((), GIVENS, QUESTION)

    def test_whole_papers_beside_another_checker(self):
        chance = random.Random(20)
        held = 0
        for givens, question in made_pairs(21, 400):
            nodes = len(Pairs(givens, question).terms)
            told = follows(SHAPE, 2, givens, question)
            rows = list(told[1]) if told[0] == "follows" else []
            for k in range(6):
                paper = [row for row in rows if chance.randrange(5)]
                for j in range(chance.randrange(3)):
                    row = chance.choice((("given", chance.randrange(-1, 8)),
                                         ("like", chance.randrange(-2, nodes + 2), chance.randrange(-2, nodes + 2))))
                    paper.insert(chance.randrange(len(paper) + 1), row)
                expected = Pairs(givens, question).holds(paper)
                self.assertIs(paper_holds(givens, question, tuple(paper)), expected, (givens, question, paper))
                held += expected
        self.assertGreater(held, 200)

    def test_what_is_handed_in_stays(self):
        self.holds(PAPER)
        self.fails(PAPER[1:])
        self.holds(PAPER)

    def test_by_name(self):
        self.assertIs(paper_holds(givens=GIVENS, question=QUESTION, paper=PAPER), True)


if __name__ == "__main__":
    unittest.main()
