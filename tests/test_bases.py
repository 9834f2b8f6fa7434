import itertools
import unittest

from evenmeet.bases import bases_for
from evenmeet.counts import pairs_told
from evenmeet.turning import developed, differences


def plain_row(n, base):
    """For each d from 1 on how often one number of the base less another is d or d less n."""
    row = [0] * n
    for a, b in itertools.permutations(base, 2):
        row[(a - b) % n] += 1
    return tuple(row[1:])


def promised():
    """All (n, k, l, many) such that many bases, one, two or three, have the right number of differences."""
    told = []
    for n, k, many in itertools.product(range(2, 14), range(2, 5), range(1, 4)):
        if many * k * (k - 1) % (n - 1) == 0:
            told.append((n, k, many * k * (k - 1) // (n - 1), many))
    return told


def can_be(n, k, l, many):
    """Whether some such bases have all differences l: by the rows of differences of all bases there are."""
    rows = {plain_row(n, base) for base in itertools.combinations(range(n), k)}
    for others in itertools.combinations_with_replacement(sorted(rows), many - 1):
        last = tuple(l - sum(row[place] for row in others) for place in range(n - 1))
        if last in rows:
            return True
    return False


def can_be_of_all(n, k, l, many):
    """The same by going through all choices of so many bases."""
    choices = itertools.product(itertools.combinations(range(n), k), repeat=many)
    rows = ([plain_row(n, base) for base in bases] for bases in choices)
    return any(all(sum(counts) == l for counts in zip(*told)) for told in rows)


def many_choices(n, k, many):
    return len(list(itertools.combinations(range(n), k))) ** many


class BasesFor(unittest.TestCase):
    def check(self, n, k, l, many):
        told = bases_for(n, k, l)
        self.assertIs(type(told), tuple)
        if told == ("none",):
            return "none"
        word, bases = told
        self.assertEqual(word, "bases")
        self.assertIs(type(bases), list)
        self.assertEqual(len(bases), many, (n, k, l))
        for base in bases:
            self.assertIs(type(base), list)
            self.assertEqual([type(number) for number in base], [int] * k)
            self.assertTrue(all(0 <= number < n for number in base), base)
            self.assertEqual(len(set(base)), k)
        self.assertEqual([sum(counts) for counts in zip(*(plain_row(n, base) for base in bases))], [l] * (n - 1))
        self.assertEqual(differences(n, bases), [l] * (n - 1))
        self.assertEqual(pairs_told(developed(n, bases)), ("same", l))
        return "bases"

    def test_known_ones(self):
        for n, k, l, many in ((7, 3, 1, 1), (13, 4, 1, 1), (7, 4, 2, 1), (13, 3, 1, 2), (5, 2, 1, 2), (7, 2, 1, 3)):
            self.assertEqual(self.check(n, k, l, many), "bases")
        self.assertEqual(bases_for(10, 3, 2), ("none",))
        told = bases_for(2, 2, 6)
        self.assertEqual((told[0], [sorted(base) for base in told[1]]), ("bases", [[0, 1]] * 3))

    def test_all_that_is_promised(self):
        words = []
        for n, k, l, many in promised():
            words.append(self.check(n, k, l, many))
            self.assertEqual(words[-1] == "bases", can_be(n, k, l, many), (n, k, l, many))
        self.assertEqual(set(words), {"bases", "none"})
        self.assertGreater(len(words), 40)

    def test_against_all_choices_where_they_are_few(self):
        few = [told for told in promised() if many_choices(told[0], told[1], told[3]) <= 50000]
        self.assertGreater(len(few), 25)
        for n, k, l, many in few:
            self.assertEqual(self.check(n, k, l, many) == "bases", can_be_of_all(n, k, l, many), (n, k, l, many))

    def test_none_where_a_base_has_more_numbers_than_there_are(self):
        for n, k, l in ((2, 3, 6), (2, 3, 12), (2, 3, 18), (2, 4, 12), (2, 4, 36), (3, 4, 6), (3, 4, 12), (3, 4, 18)):
            self.assertEqual(bases_for(n, k, l), ("none",))

    def test_none_where_no_whole_number_of_bases_has_so_many_differences(self):
        for n, k in itertools.product(range(2, 14), range(2, 5)):
            asked = [l for l in range(1, 80) if l * (n - 1) % (k * (k - 1)) != 0]
            for l in asked + [l * 10 ** 4 + 1 for l in asked if (l * 10 ** 4 + 1) * (n - 1) % (k * (k - 1)) != 0]:
                self.assertEqual(bases_for(n, k, l), ("none",), (n, k, l))

    def test_each_told_list_is_a_new_one(self):
        for n, k, l, many in promised():
            told = bases_for(n, k, l)
            if told[0] == "bases":
                kept = [list(base) for base in told[1]]
                self.assertEqual(len({id(base) for base in told[1]}), many)
                for base in told[1]:
                    base.clear()
                told[1].append([])
                self.assertEqual(bases_for(n, k, l), ("bases", kept))


if __name__ == "__main__":
    unittest.main()
