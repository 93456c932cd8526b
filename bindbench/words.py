"""Names, numbers and words.

Each question that is asked of anything asks first of which kind the thing is,
and of nothing else: to compare, measure or hash a thing of another kind might
run its own code, or go too deep.
"""

FIRST_NUMBER = 1
LAST_NUMBER = 99999
MOST_FIGURES = 7
MOST_LETTERS = 8
MOST_STEP_HOURS = 240
NO_NAMES = ("style", "job", "round", "sew", "glue", "cover", "letter", "press", "hand", "haste")
KINDS = ("hand", "press")
KIND_OF_WORK = {"sew": "hand", "glue": "hand", "cover": "hand", "letter": "hand", "press": "press"}


def is_whole(thing, least, most=10 ** 6):
    """Whether anything is a whole number from least to most."""
    return type(thing) is int and least <= thing <= most


def is_number(thing):
    """Whether anything is a NUMBER."""
    return is_whole(thing, FIRST_NUMBER, LAST_NUMBER)


def is_hour(thing, first=0):
    """Whether anything is an HOUR, not less than first."""
    return is_whole(thing, first)


def is_truth(thing):
    """Whether anything is True or False."""
    return thing is True or thing is False


def is_name(thing):
    """Whether anything is a NAME."""
    if type(thing) is not str or not 1 <= len(thing) <= MOST_LETTERS:
        return False
    return all(["a" <= sign <= "z" for sign in thing]) and thing not in NO_NAMES


def is_kind(thing):
    """Whether anything is a KIND of WORK."""
    return type(thing) is str and thing in KINDS


def is_step(thing):
    """Whether anything is a STEP."""
    if type(thing) is not tuple or len(thing) != 3:
        return False
    work, hours, rest = thing
    if kind_of(work) is None:
        return False
    return is_whole(hours, 1, MOST_STEP_HOURS) and is_whole(rest, 0, MOST_STEP_HOURS)


def kind_of(work):
    """The KIND of a WORK, None of what is none."""
    if type(work) is not str:
        return None
    return KIND_OF_WORK.get(work)


def number_of(word):
    """The whole number that a word tells by figures, or None."""
    # The length is asked first: int would refuse, or be long over, thousands of figures.
    if type(word) is not str or not 1 <= len(word) <= MOST_FIGURES:
        return None
    if not all(["0" <= sign <= "9" for sign in word]):
        return None
    if word[0] == "0" and word != "0":
        return None
    return int(word)


def words_of(row):
    """The words of a row, None where not just one blank stands between them."""
    if type(row) is not str:
        return None
    # A row is split at blanks alone: a line end is a sign of a word.
    words = row.split(" ")
    if "" in words:
        return None
    return words
