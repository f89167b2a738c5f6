"""What a word, a count and an ascending list are, and words to count by, for all modules."""

from kindtwice.errors import InvalidCount

LETTERS = "abcdefghijklmnopqrstuvwxyz"
LONGEST_WORD = 8


def is_word(value):
    """Whether any object is a string of one to eight letters from a to z."""
    if not isinstance(value, str) or not 1 <= len(value) <= LONGEST_WORD:
        return False
    return all([letter in LETTERS for letter in value])


def is_count(value):
    """Whether any object is a whole number of at least 0."""
    # True and False are integers for Python, but no counts here.
    return isinstance(value, int) and not isinstance(value, bool) and value >= 0


def check_count(number, least):
    """Raise InvalidCount unless a number is a count of so much at least."""
    if not is_count(number) or number < least:
        raise InvalidCount(number)


def is_ascending(words):
    """Whether a list of words is in order and has no doubles."""
    return all([one < other for one, other in zip(words, words[1:])])


def counting_words(many):
    """The first so many of the words a, b, .., z, aa, ab, .., in this order."""
    words = []
    longest = [""]
    while len(words) < many:
        longest = [word + letter for word in longest for letter in LETTERS]
        words = words + longest
    return words[:many]
