"""Forms: sums of words, tuples (c, parts) with parts a tuple of pairs (a, w), the w's rising.

Each sum is written in one way only, so forms of like worths under all words are equal tuples.
"""

from midlanes.wholes import is_whole


def plain(n):
    return (n, ())


def of_word(w):
    return (0, ((1, w),))


def plus(one, other):
    return joined(one, other, 1)


def less(one, other):
    return joined(one, other, -1)


def times(form, n):
    numbers = {}
    gather(numbers, form, n)
    return with_numbers(form[0] * n, numbers)


def put_in(form, forms):
    c = form[0]
    # One dict for all the forms: adding them up form by form would sort the whole sum again each time.
    numbers = {}
    for a, w in form[1]:
        c = c + a * forms[w][0]
        gather(numbers, forms[w], a)
    return with_numbers(c, numbers)


def worth(form, words):
    return form[0] + sum([a * words[w] for a, w in form[1]])


def is_plain(form):
    return len(form[1]) == 0


def is_form(thing, many):
    if not (is_two(thing) and is_whole(thing[0]) and isinstance(thing[1], tuple)):
        return False
    least = 0
    for pair in thing[1]:
        if not (is_two(pair) and is_whole(pair[0]) and is_whole(pair[1])):
            return False
        if pair[0] == 0 or not least <= pair[1] < many:
            return False
        least = pair[1] + 1
    return True


def is_two(thing):
    return isinstance(thing, tuple) and len(thing) == 2


def joined(one, other, n):
    """The form one and n times the other, together."""
    numbers = {}
    gather(numbers, one, 1)
    gather(numbers, other, n)
    return with_numbers(one[0] + n * other[0], numbers)


def gather(numbers, form, n):
    """Adds n times each of the form's pairs to the numbers, a dict from words to numbers."""
    for a, w in form[1]:
        numbers[w] = numbers.get(w, 0) + a * n


def with_numbers(c, numbers):
    """The form of c and of the numbers; words whose pairs have cancelled one another are dropped."""
    return (c, tuple([(numbers[w], w) for w in sorted(numbers) if numbers[w] != 0]))
