"""Kinds: what values a field may have."""

LETTERS = "abcdefghijklmnopqrstuvwxyz"
MOST_LETTERS = 8
MOST_WORDS = 12


def is_whole(value):
    # To Python the truths are ints; to a table they are no numbers.
    return isinstance(value, int) and not isinstance(value, bool)


def is_letters(value, fewest):
    if not isinstance(value, str) or not fewest <= len(value) <= MOST_LETTERS:
        return False
    return all([letter in LETTERS for letter in value])


def is_name(value):
    return is_letters(value, 1)


def has_parts(value, many):
    return isinstance(value, tuple) and len(value) == many


def is_number_kind(value):
    if not has_parts(value, 3) or value[0] != "number":
        return False
    return is_whole(value[1]) and is_whole(value[2]) and value[1] <= value[2]


def is_word_kind(value):
    return has_parts(value, 2) and value[0] == "word" and are_words(value[1])


def are_words(value):
    if not isinstance(value, tuple) or not 1 <= len(value) <= MOST_WORDS:
        return False
    if not all([is_letters(word, 0) for word in value]):
        return False
    return all([value[k] < value[k + 1] for k in range(len(value) - 1)])


def kinds_of(form):
    return tuple([field[1] for field in form[0] + form[1]])


def both(one, other):
    if one[0] != other[0]:
        return None
    if one[0] == "number":
        return both_numbers(one, other)
    if one[0] == "word":
        return both_words(one, other)
    return None


def both_numbers(one, other):
    low = max(one[1], other[1])
    high = min(one[2], other[2])
    return ("number", low, high) if low <= high else None


def both_words(one, other):
    words = tuple([word for word in one[1] if word in other[1]])
    return ("word", words) if words else None


def single(kind):
    if kind[0] == "number":
        return kind[1] == kind[2]
    if kind[0] == "word":
        return len(kind[1]) == 1
    # A table that may be empty has always a second value: that of the least row.
    return kind[2] and all([single(inner) for inner in kinds_of(kind[1])])


def least(kind):
    if kind[0] == "number":
        return kind[1]
    if kind[0] == "word":
        return kind[1][0]
    if not kind[2]:
        return ()
    return (tuple([least(inner) for inner in kinds_of(kind[1])]),)
