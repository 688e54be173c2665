"""Words of a program's text: names and numbers."""

MOST_SIGNS = 8
MOST_FIGURES = 18

# Each of these has a meaning of its own where a name could stand.
KEPT_WORDS = ("function", "call", "dye", "wash", "if", "to", "return", "back", "here")


def is_name(text):
    """Whether a text is one to eight small letters and none of the words that are kept."""
    return 1 <= len(text) <= MOST_SIGNS and text not in KEPT_WORDS and all_between(text, "a", "z")


def number_of(text):
    """The number that one to eighteen figures without a nought ahead write, or None."""
    if not (1 <= len(text) <= MOST_FIGURES and all_between(text, "0", "9")):
        return None
    if text[0] == "0" and text != "0":
        return None
    return int(text)


def all_between(text, first, last):
    # Asked sign by sign, since Python's own letters and figures go beyond the plain ones.
    return all([first <= sign <= last for sign in text])
