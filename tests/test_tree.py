"""Points 40 to 43: walks, ways, broken pages, pages of one's own, one keeper."""

import random
import unittest

from goodtill.pages import does_keep
from goodtill.runs import seen_by, walk_truth
from goodtill.tree import is_broken, is_fast, walk_view, way_to
from tests.build import Rows
from tests.slow_runs import full_past, lost_ids
from tests.some_houses import LABELS, Play, some_clocks
from tests.told import told


def page(house, *first):
    return ("page", house, first)


def row_of(*puts):
    """A row of node 0 that puts entries: (term, label, entry)."""
    rows = Rows()
    rows.start(0)
    for term, label, entry in puts:
        rows.put(0, term, label, entry)
    return rows.events()


class Walks(unittest.TestCase):
    def test_each_end(self):
        one, two = (0, 0, 2), (0, 0, 3)
        row = row_of(((), "v", ("value", 5)), ((), "p", page(3, ("n", ("name", ("v",))), ("v", ("value", 6)))), (one, "q", page(0)))
        cases = (
            (("v",), ("value", 5), (((), "v"),)),
            (("v", "x"), ("nothing",), (((), "v"),)),
            (("x",), ("nothing",), (((), "x"),)),
            (("x", "y"), ("nothing",), (((), "x"),)),
            (("p",), ("page", 3, one), (((), "p"),)),
            (("p", "v"), ("value", 6), (((), "p"), (one, "v"))),
            (("p", "x", "v"), ("nothing",), (((), "p"), (one, "x"))),
            (("p", "q"), ("page", 0, two), (((), "p"), (one, "q"))),
            (("p", "q", "z"), ("nothing",), (((), "p"), (one, "q"), (two, "z"))),
        )
        for name, found, way in cases:
            self.assertEqual(walk_view(row, name, 0), ((found, ()), way))
        self.assertEqual(walk_view(row, ("p", "n"), 1), ((("value", 5), (("v",),)), (((), "p"), (one, "n"), ((), "v"))))
        self.assertEqual(walk_view(row, ("p", "n"), 0), ((("far",), (("v",),)), (((), "p"), (one, "n"))))
        self.assertEqual(walk_view(row, ("p", "n", "x"), 8), ((("nothing",), (("v",),)), (((), "p"), (one, "n"), ((), "v"))))

    def test_no_events(self):
        self.assertEqual(walk_view((), ("a", "b"), 8), ((("nothing",), ()), (((), "a"),)))

    def test_nought_to_eight_other_names(self):
        labels = "abcdefghij"
        row = row_of(*[((), one, ("name", (two,))) for one, two in zip(labels, labels[1:])], ((), "j", ("value", 1)))
        names = tuple((label,) for label in labels[1:])
        for most in range(9):
            self.assertEqual(walk_view(row, ("a",), most), ((("far",), names[:most + 1]), tuple(((), one) for one in labels[:most + 1])))
            told_way = tuple(((), one) for one in labels[9 - most:])
            self.assertEqual(walk_view(row, (labels[9 - most],), most), ((("value", 1), names[9 - most:]), told_way))

    def test_each_place_once(self):
        row = row_of(((), "a", ("name", ("b",))), ((), "b", ("name", ("a",))))
        answer, way = walk_view(row, ("a",), 8)
        self.assertEqual(way, (((), "a"), ((), "b")))
        self.assertEqual(answer, (("far",), (("b",), ("a",)) * 4 + (("b",),)))

    def test_names_of_six_labels_and_longer_ones(self):
        row = row_of(((), "a", ("name", ("b", "c", "d"))), ((), "b", ("name", ("z",) * 6)))
        taken = (("b", "c", "d"),)
        self.assertEqual(walk_view(row, ("a", "e", "f", "g"), 1)[0], (("far",), taken + (("z",) * 6,)))
        self.assertEqual(walk_view(row, ("a", "e", "f", "g"), 2)[0], (("long",), taken + (("z",) * 6,)))
        self.assertEqual(walk_view(row, ("a", "e", "f", "g", "h"), 1), ((("long",), taken), (((), "a"),)))
        self.assertEqual(walk_view(row, ("a", "e", "f", "g", "h"), 0)[0], (("far",), taken))
        self.assertEqual(walk_view(row, ("b",), 1), ((("nothing",), (("z",) * 6,)), (((), "b"), ((), "z"))))
        self.assertEqual(walk_view(row, ("b", "a"), 1)[0], (("long",), (("z",) * 6,)))

    def test_five_pages_and_the_most_places(self):
        puts, term = [((), "n", ("name", ("p",) * 5 + ("v",)))], ()
        for number in range(5):
            puts.append((term, "p", page(0)))
            term = (0, 0, number + 2)
        row = row_of(*puts, (term, "v", ("value", 9)))
        way = (((), "p"),) + tuple(((0, 0, number + 2), "p") for number in range(4)) + ((term, "v"),)
        self.assertEqual(walk_view(row, ("p",) * 5 + ("v",), 0), ((("value", 9), ()), way))
        self.assertEqual(walk_view(row, ("p",) * 5, 0), ((("page", 0, term), ()), way[:5]))
        self.assertEqual(walk_view(row, ("n",), 1), ((("value", 9), (("p",) * 5 + ("v",),)), (((), "n"),) + way))

    def test_what_was_taken_out_or_put_again(self):
        row = row_of(((), "p", page(0, ("v", ("value", 1)))), ((0, 0, 1), "v", ("value", 2)), ((), "p", None), ((), "p", page(0)))
        self.assertEqual(walk_view(row[:2], ("p", "v"), 0)[0], (("value", 1), ()))
        self.assertEqual(walk_view(row[:3], ("p", "v"), 0)[0], (("value", 2), ()))
        self.assertEqual(walk_view(row[:4], ("p", "v"), 0), ((("nothing",), ()), (((), "p"),)))
        self.assertEqual(walk_view(row, ("p", "v"), 0), ((("nothing",), ()), (((), "p"), ((0, 0, 4), "v"))))


class Ways(unittest.TestCase):
    def test_ways_of_five_pages(self):
        rows = Rows()
        rows.start(0)
        self.assertEqual(way_to(rows.events(), (), "q"), (((), "q"),))
        term, way = (), ()
        for label in "abcde":
            way += ((term, label),)
            term = rows.put(0, term, label, page(0))
            self.assertEqual(way_to(rows.events(), term, "zz"), way + ((term, "zz"),))

    def test_terms_that_are_no_page(self):
        row = row_of(((), "v", ("value", 5)))
        for wrong in ((0, 0, 0), (0, 0, 1), (0, 0, 2), (9, 9, 9)):
            self.assertEqual(told(way_to, row, wrong, "a"), ("Refused", wrong))
            self.assertEqual(told(is_broken, row, wrong), ("Refused", wrong))
            self.assertEqual(told(is_fast, row, 0, wrong), ("Refused", wrong))
            self.assertEqual(told(is_fast, row, 1, wrong), ("Refused", 1))
        self.assertEqual(way_to((), (), "a"), (((), "a"),))

    def test_broken_above(self):
        rows = Rows()
        rows.start(0)
        one = rows.put(0, (), "a", page(0))
        two = rows.put(0, one, "b", page(0))
        three = rows.put(0, two, "c", page(0))
        self.assertEqual([is_broken(rows.events(), term) for term in ((), one, two, three)], [False] * 4)
        again = rows.put(0, one, "b", page(0))
        self.assertEqual([is_broken(rows.events(), term) for term in ((), one, two, three, again)], [False, False, True, True, False])
        rows.put(0, two, "d", ("value", 1))
        self.assertIs(is_broken(rows.events(), two), True)
        rows.put(0, (), "a", None)
        self.assertEqual([is_broken(rows.events(), term) for term in ((), one, two, again)], [False, True, True, True])
        self.assertEqual(way_to(rows.events(), three, "x"), (((), "a"), (one, "b"), (two, "c"), (three, "x")))

    def test_the_same_again_breaks_too(self):
        row = row_of(((), "a", page(3)), ((), "a", page(3)))
        self.assertEqual([is_broken(row, term) for term in ((), (0, 0, 1), (0, 0, 2))], [False, True, False])


class Own(unittest.TestCase):
    def test_the_root_is_never_unknown(self):
        rows = Rows()
        rows.start(1)
        rows.start(0)
        self.assertEqual([is_fast(rows.events(), node, ()) for node in (0, 1)], [True, False])
        self.assertEqual(told(is_fast, rows.events(), 2, ()), ("Refused", 2))

    def test_handed_over_and_not_yet_seen(self):
        rows = Rows()
        rows.start(0)
        rows.do(0, "hand", (), 1)
        self.assertIs(is_fast(rows.events(), 0, ()), True)
        self.assertIs(does_keep(rows.events(), 0, ()), False)
        rows.do(0, "send", 2)
        self.assertIs(is_fast(rows.events(), 0, ()), False)

    def test_a_page_for_another_house(self):
        rows = Rows()
        rows.start(0)
        rows.start(1)
        term = rows.put(0, (), "p", page(1))
        self.assertIs(is_fast(rows.events(), 0, term), True)
        self.assertEqual(told(is_fast, rows.events(), 1, term), ("Refused", term))
        rows.letter(0, 1)
        self.assertEqual([is_fast(rows.events(), node, term) for node in (0, 1)], [False, True])
        rows.do(1, "hand", term, 0)
        self.assertIs(is_fast(rows.events(), 1, term), True)
        rows.letter(1, 0)
        self.assertEqual([is_fast(rows.events(), node, term) for node in (0, 1)], [True, False])

    def test_a_later_life_may_have_left(self):
        rows = Rows()
        rows.start(0)
        hand = rows.do(0, "hand", (), 1)
        self.assertIs(is_fast(rows.events(), 0, ()), True)
        rows.start(0, hand)
        self.assertIs(is_fast(rows.events(), 0, ()), False)

    def test_by_the_view_alone(self):
        rows = Rows()
        rows.start(0)
        rows.start(1)
        rows.letter(0, 1)
        rows.do(0, "hand", (), 1)
        rows.do(0, "send", 1)
        row = rows.events()
        self.assertIs(is_fast(row, 0, ()), False)
        self.assertIs(is_fast(row, 1, ()), False)
        self.assertIs(is_fast(row + (rows.event(1, "hear", (0, 0, 3)),), 1, ()), True)


def is_kept(run, lost):
    """Whether no event of another node has a lost deed in its past."""
    row = [event for event, _ in run]
    return not any(one[0] != event[0][0] for event in row for one in lost & full_past(row, event))


def made_by(view, term, label):
    """The put, or the page, of which the content of a place is."""
    puts = [event[0] for event in view if event[2][:3] == ("put", term, label)]
    return puts[-1] if puts else term


class Theorems(unittest.TestCase):
    """One keeper, and walks that are true, in kept runs in which lives have lost what others have not seen."""

    def kept_runs(self, many, seed):
        for number in range(many):
            dice = random.Random(seed + number)
            nodes = dice.randint(2, 4)
            run = Play(dice, some_clocks(dice, nodes), nodes, lives=0.15, losses=True).grow(dice.randint(10, 40))
            lost = lost_ids(run)
            if is_kept(run, lost):
                yield dice, run, lost

    def test_one_keeper(self):
        lossy = 0
        for dice, run, lost in self.kept_runs(400, 4300):
            lossy += bool(lost)
            terms = [()] + [event[0] for event, _ in run if event[2][0] == "put" and event[2][3] and event[2][3][0] == "page"]
            for place in dice.sample(range(len(run) + 1), 6):
                views = [seen_by(run, place, node) for node in range(5)]
                for term in terms:
                    self.assertLessEqual(sum(does_keep(view, node, term) for node, view in enumerate(views)), 1)
        self.assertGreater(lossy, 10)

    def test_walks_by_pages_that_the_node_keeps(self):
        own = 0
        for dice, run, lost in self.kept_runs(200, 4400):
            for place in dice.sample(range(len(run) + 1), 6):
                node = dice.randrange(4)
                view = seen_by(run, place, node)
                for _ in range(5 if view else 0):
                    name = tuple(dice.choice(LABELS) for _ in range(dice.choice((1, 1, 2, 3))))
                    answer, way = walk_view(view, name, 2)
                    if all(does_keep(view, node, term) and made_by(view, term, label) not in lost for term, label in way):
                        own += 1
                        self.assertEqual(answer, walk_truth(run, place, name, 2))
        self.assertGreater(own, 200)


if __name__ == "__main__":
    unittest.main()
