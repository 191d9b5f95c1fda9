"""Points 2, 4 and 5: forms, their worths, and what is reckoned with them."""

import copy
import random
import unittest

from midlanes.forms import is_form, is_plain, less, of_word, plain, plus, put_in, times, worth

GREAT = 10 ** 59 + 7
GREATEST = 10 ** 60 - 1


def long_form(c, many, a=1, first=0, step=1):
    return (c, tuple((a, first + step * k) for k in range(many)))


def some_form(chance, many):
    words = sorted(chance.sample(range(many), chance.randint(0, many)))
    return (chance.randint(-9, 9), tuple((chance.choice((-3, -2, -1, 1, 2, 3)), w) for w in words))


class FormCase(unittest.TestCase):
    def assert_told(self, told, expected):
        """told is the expected form, and of a form's kinds: tuples, and ints that are no truths."""
        self.assertEqual(told, expected)
        self.assert_formed(told)

    def assert_formed(self, told):
        self.assertIs(type(told), tuple)
        self.assertEqual(len(told), 2)
        self.assertIs(type(told[0]), int)
        self.assertIs(type(told[1]), tuple)
        for pair in told[1]:
            self.assertIs(type(pair), tuple)
            self.assertEqual([type(part) for part in pair], [int, int])
            self.assertNotEqual(pair[0], 0)
        words = [w for a, w in told[1]]
        self.assertEqual(words, sorted(set(words)))
        self.assertTrue(all(w >= 0 for w in words))


class Worths(FormCase):
    def assert_worth(self, form, words, expected):
        told = worth(form, words)
        self.assertEqual(told, expected)
        self.assertIs(type(told), int)

    def test_the_number_and_the_words_together(self):
        self.assert_worth((3, ((1, 0), (-2, 4))), [10, 0, 0, 0, 6], 3 + 10 - 12)
        self.assert_worth((0, ((5, 1),)), [9, -7], -35)
        self.assert_worth((-4, ((2, 0), (3, 1), (4, 2))), [1, 10, 100], -4 + 2 + 30 + 400)

    def test_a_plain_form_is_its_number_under_any_words(self):
        self.assert_worth((-8, ()), [], -8)
        self.assert_worth((-8, ()), [1, 2, 3], -8)
        self.assert_worth((0, ()), [5], 0)

    def test_words_that_stand_in_no_pair_do_not_count(self):
        self.assert_worth((1, ((2, 1),)), [1000, 3, 1000], 7)

    def test_words_of_0_and_below(self):
        self.assert_worth((5, ((-1, 0), (7, 1))), [-3, 0], 8)

    def test_great_numbers(self):
        self.assert_worth((GREAT, ((GREATEST, 0),)), [GREATEST], GREAT + GREATEST * GREATEST)
        self.assert_worth((-GREAT, ((1, 0),)), [GREAT], 0)
        long_word = -(10 ** 300 - 1)
        self.assert_worth((1, ((2, 0),)), [long_word], 1 + 2 * long_word)

    def test_four_hundred_pairs(self):
        words = [k * k - 1000 for k in range(400)]
        self.assert_worth(long_form(9, 400, a=-3), words, 9 - 3 * sum(words))

    def test_the_words_stay_as_they_were_and_are_read_anew(self):
        form = (1, ((2, 0), (3, 1)))
        words = [10, 20]
        self.assert_worth(form, words, 81)
        self.assertEqual(words, [10, 20])
        words[1] = -20
        self.assert_worth(form, words, -39)
        words.insert(0, 5)
        self.assert_worth(form, words, 41)
        self.assertEqual(words, [5, 10, -20])


class Plain(unittest.TestCase):
    def test_without_pairs(self):
        for c in (0, 1, -1, GREAT):
            self.assertIs(is_plain((c, ())), True)

    def test_with_pairs(self):
        self.assertIs(is_plain((0, ((1, 0),))), False)
        self.assertIs(is_plain((5, ((-1, 7),))), False)
        self.assertIs(is_plain((0, ((1, 0), (-1, 1)))), False)
        self.assertIs(is_plain(long_form(0, 400)), False)


class IsForm(unittest.TestCase):
    def test_forms(self):
        self.assertIs(is_form((0, ()), 3), True)
        self.assertIs(is_form((-GREAT, ()), 3), True)
        self.assertIs(is_form((3, ((1, 0), (-2, 4))), 5), True)
        self.assertIs(is_form((0, ((-GREATEST, 0), (1, 1), (99, 2))), 3), True)

    def test_words_at_the_count_and_beside_it(self):
        for many in (1, 2, 40, 400):
            self.assertIs(is_form((0, ((1, many - 1),)), many), True)
            self.assertIs(is_form((0, ((1, many),)), many), False)
            self.assertIs(is_form((0, ((1, many + 1),)), many), False)
            self.assertIs(is_form((0, ((1, 0), (1, many))), many), False)

    def test_any_word_may_be_out_of_the_count(self):
        self.assertIs(is_form((0, ((1, 0), (1, 3), (1, 4))), 4), False)
        self.assertIs(is_form((0, ((1, 0), (1, 3), (1, 4))), 5), True)
        self.assertIs(is_form((0, ((1, 5), (1, 6))), 5), False)

    def test_a_count_of_0(self):
        self.assertIs(is_form((12, ()), 0), True)
        self.assertIs(is_form((12, ((1, 0),)), 0), False)

    def test_numbers_that_are_0(self):
        self.assertIs(is_form((0, ((0, 0),)), 3), False)
        self.assertIs(is_form((0, ((0, 0), (1, 1), (1, 2))), 3), False)
        self.assertIs(is_form((0, ((1, 0), (0, 1), (1, 2))), 3), False)
        self.assertIs(is_form((0, ((1, 0), (1, 1), (0, 2))), 3), False)

    def test_words_that_do_not_rise(self):
        self.assertIs(is_form((0, ((1, 1), (1, 0))), 3), False)
        self.assertIs(is_form((0, ((1, 0), (1, 2), (1, 1))), 3), False)
        self.assertIs(is_form((0, ((1, 1), (1, 0), (1, 2))), 3), False)

    def test_words_that_stand_twice(self):
        self.assertIs(is_form((0, ((1, 0), (1, 0))), 3), False)
        self.assertIs(is_form((0, ((1, 0), (2, 1), (-2, 1))), 3), False)
        self.assertIs(is_form((0, ((1, 1), (1, 2), (1, 2))), 3), False)

    def test_words_below_0(self):
        self.assertIs(is_form((0, ((1, -1),)), 3), False)
        self.assertIs(is_form((0, ((1, -1), (1, 0))), 3), False)
        self.assertIs(is_form((0, ((1, -GREAT), (1, 2))), 3), False)

    def test_very_many_pairs(self):
        form = long_form(1, 50000)
        self.assertIs(is_form(form, 50000), True)
        self.assertIs(is_form(form, 49999), False)
        self.assertIs(is_form((1, form[1] + ((1, 49999),)), 60000), False)
        self.assertIs(is_form((1, form[1] + ((0, 50000),)), 60000), False)
        self.assertIs(is_form((1, form[1] + ((1, 50000),)), 60000), True)


class Told(FormCase):
    def test_the_form_of_a_number(self):
        for n in (0, 1, -5, GREATEST, -GREATEST):
            self.assert_told(plain(n), (n, ()))

    def test_the_form_of_a_word(self):
        for w in (0, 1, 39, 400, GREAT):
            self.assert_told(of_word(w), (0, ((1, w),)))

    def test_sums(self):
        one = (3, ((1, 0), (-2, 4)))
        other = (10, ((5, 1), (7, 4), (1, 6)))
        self.assert_told(plus(one, other), (13, ((1, 0), (5, 1), (5, 4), (1, 6))))
        self.assert_told(plus(other, one), (13, ((1, 0), (5, 1), (5, 4), (1, 6))))
        self.assert_told(plus(one, (0, ())), one)
        self.assert_told(plus((0, ()), one), one)
        self.assert_told(plus((2, ()), (-2, ())), (0, ()))

    def test_differences(self):
        one = (3, ((1, 0), (-2, 4)))
        other = (10, ((5, 1), (7, 4), (1, 6)))
        self.assert_told(less(one, other), (-7, ((1, 0), (-5, 1), (-9, 4), (-1, 6))))
        self.assert_told(less(other, one), (7, ((-1, 0), (5, 1), (9, 4), (1, 6))))
        self.assert_told(less(one, (0, ())), one)
        self.assert_told(less((0, ()), one), (-3, ((-1, 0), (2, 4))))

    def test_products(self):
        form = (3, ((1, 0), (-2, 4)))
        self.assert_told(times(form, 1), form)
        self.assert_told(times(form, 7), (21, ((7, 0), (-14, 4))))
        self.assert_told(times(form, -1), (-3, ((-1, 0), (2, 4))))
        self.assert_told(times(form, -99), (-297, ((-99, 0), (198, 4))))
        self.assert_told(times((0, ()), -5), (0, ()))

    def test_a_product_by_0_has_no_pairs(self):
        self.assert_told(times((3, ((1, 0), (-2, 4))), 0), (0, ()))
        self.assert_told(times((3, ()), 0), (0, ()))

    def test_pairs_that_cancel_one_another_are_gone(self):
        one = (3, ((1, 0), (-2, 4), (6, 5)))
        self.assert_told(plus(one, (1, ((2, 4),))), (4, ((1, 0), (6, 5))))
        self.assert_told(plus(one, (-3, ((-1, 0), (2, 4), (-6, 5)))), (0, ()))
        self.assert_told(less(one, (0, ((1, 0), (6, 5)))), (3, ((-2, 4),)))
        self.assert_told(less(one, one), (0, ()))

    def test_forms_put_in(self):
        form = (3, ((1, 0), (-2, 2)))
        forms = [(5, ((1, 1),)), (1000, ((1000, 0),)), (-1, ((4, 0), (1, 3)))]
        self.assert_told(put_in(form, forms), (3 + 5 + 2, ((-8, 0), (1, 1), (-2, 3))))

    def test_words_put_in_are_not_put_in_again(self):
        form = (0, ((1, 0), (1, 1)))
        self.assert_told(put_in(form, [of_word(1), of_word(0)]), form)
        self.assert_told(put_in((0, ((2, 0), (3, 1))), [of_word(1), of_word(0)]), (0, ((3, 0), (2, 1))))
        self.assert_told(put_in((0, ((1, 0),)), [of_word(1), plain(7)]), of_word(1))

    def test_forms_put_in_that_cancel_one_another(self):
        self.assert_told(put_in((9, ((1, 0), (-1, 1))), [of_word(3), of_word(3)]), (9, ()))
        self.assert_told(put_in((0, ((2, 0), (1, 1))), [(1, ((1, 0),)), (0, ((-2, 0), (1, 5)))]), (2, ((1, 5),)))

    def test_plain_forms_put_in_and_put_into(self):
        self.assert_told(put_in((9, ()), []), (9, ()))
        self.assert_told(put_in((9, ()), [of_word(4)]), (9, ()))
        self.assert_told(put_in((9, ((2, 0), (3, 1))), [plain(10), plain(-100)]), (-271, ()))
        self.assert_told(put_in((9, ((2, 0), (3, 1))), [plain(0), plain(0)]), (9, ()))

    def test_each_word_put_in_for_itself(self):
        form = (3, ((1, 0), (-2, 4)))
        self.assert_told(put_in(form, [of_word(w) for w in range(5)]), form)

    def test_words_far_apart_rise(self):
        self.assert_told(plus(of_word(GREAT), of_word(2)), (0, ((1, 2), (1, GREAT))))
        self.assert_told(less(of_word(300), of_word(9)), (0, ((-1, 9), (1, 300))))


class Great(FormCase):
    def test_numbers_of_sixty_figures(self):
        form = (GREAT, ((GREATEST, 0), (-GREAT, 1)))
        self.assert_told(plus(form, form), (2 * GREAT, ((2 * GREATEST, 0), (-2 * GREAT, 1))))
        self.assert_told(less(form, (1, ((1, 0), (1, 1)))), (GREAT - 1, ((GREATEST - 1, 0), (-GREAT - 1, 1))))
        self.assert_told(less(form, (GREAT - 1, ((GREATEST, 0), (1 - GREAT, 1)))), (1, ((-1, 1),)))
        product = (GREAT * GREATEST, ((GREATEST * GREATEST, 0), (-GREAT * GREATEST, 1)))
        self.assert_told(times(form, GREATEST), product)
        self.assert_told(put_in((1, ((GREATEST, 0),)), [form]), plus(plain(1), product))

    def test_forms_of_four_hundred_pairs(self):
        one = long_form(1, 400)
        other = long_form(2, 400, a=5, first=1, step=2)
        numbers = {w: 1 for w in range(400)}
        for w in range(1, 801, 2):
            numbers[w] = numbers.get(w, 0) + 5
        self.assert_told(plus(one, other), (3, tuple((numbers[w], w) for w in sorted(numbers))))
        self.assert_told(less(one, long_form(1, 399)), (0, ((1, 399),)))
        self.assert_told(times(one, -6), long_form(-6, 400, a=-6))

    def test_four_hundred_forms_of_four_hundred_pairs_put_in(self):
        form = long_form(1, 400, a=2)
        self.assert_told(put_in(form, [long_form(k, 400) for k in range(400)]), long_form(1 + 2 * 79800, 400, a=800))
        forms = [long_form(0, 400, first=400 * k) for k in range(400)]
        self.assert_told(put_in(form, forms), long_form(1, 160000, a=2))


class HandedIn(FormCase):
    def test_the_list_of_forms_stays_as_it_was_and_is_read_anew(self):
        form = (3, ((1, 0), (-2, 1)))
        forms = [(5, ((1, 1),)), of_word(0)]
        before = copy.deepcopy(forms)
        self.assert_told(put_in(form, forms), (8, ((-2, 0), (1, 1))))
        self.assertEqual(forms, before)
        forms[1] = plain(4)
        self.assert_told(put_in(form, forms), (0, ((1, 1),)))
        forms.insert(0, plain(100))
        self.assert_told(put_in(form, forms), (93, ((-2, 1),)))
        self.assertEqual(forms, [plain(100), (5, ((1, 1),)), plain(4)])

    def test_asked_again_they_tell_the_same(self):
        one = (3, ((1, 0), (-2, 4)))
        other = (10, ((5, 1), (2, 4)))
        for told in (lambda: plus(one, other), lambda: less(one, other), lambda: times(one, -2)):
            self.assertEqual(told(), told())
        self.assertEqual(one, (3, ((1, 0), (-2, 4))))
        self.assertEqual(other, (10, ((5, 1), (2, 4))))


class WorthsOfTold(FormCase):
    def setUp(self):
        self.chance = random.Random(20)

    def some_words(self, many):
        return [self.chance.randint(-50, 50) for k in range(many)]

    def test_sums_differences_and_products(self):
        for k in range(300):
            one = some_form(self.chance, 5)
            other = some_form(self.chance, 5)
            n = self.chance.randint(-4, 4)
            words = self.some_words(5)
            for told, expected in (
                (plus(one, other), worth(one, words) + worth(other, words)),
                (less(one, other), worth(one, words) - worth(other, words)),
                (times(one, n), worth(one, words) * n),
            ):
                self.assert_formed(told)
                self.assertIs(is_form(told, 5), True)
                self.assertEqual(worth(told, words), expected)

    def test_forms_put_in(self):
        for k in range(300):
            form = some_form(self.chance, 4)
            forms = [some_form(self.chance, 6) for w in range(4)]
            words = self.some_words(6)
            told = put_in(form, forms)
            self.assert_formed(told)
            self.assertIs(is_form(told, 6), True)
            self.assertEqual(worth(told, words), worth(form, [worth(one, words) for one in forms]))

    def test_forms_of_like_worths_are_one_form_however_they_came_about(self):
        for k in range(300):
            one, other, third = [some_form(self.chance, 4) for j in range(3)]
            n = self.chance.randint(-4, 4)
            self.assertEqual(plus(plus(one, other), third), plus(third, plus(other, one)))
            self.assertEqual(less(plus(one, other), other), one)
            self.assertEqual(less(one, other), plus(one, times(other, -1)))
            self.assertEqual(times(plus(one, other), n), plus(times(one, n), times(other, n)))
            self.assertEqual(times(one, 2), plus(one, one))
            forms = [one, other, third, plain(n)]
            pieces = plain(third[0])
            for a, w in third[1]:
                pieces = plus(times(forms[w], a), pieces)
            self.assertEqual(put_in(third, forms), pieces)
            self.assertEqual(put_in(of_word(2), forms), third)


if __name__ == "__main__":
    unittest.main()
