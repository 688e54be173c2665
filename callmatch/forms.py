"""The forms that a row of a function can have, told by its words alone."""

from callmatch.words import is_name, number_of

OPS = ("+", "-", "*")


def sort_of(words):
    """Which sort of row the words are, or None where they have none of the forms."""
    if len(words) > 1 and words[1] == "=":
        return sort_of_value(words[2:]) if is_name(words[0]) else None
    return sort_of_deed(words)


def sort_of_value(words):
    """Which sort of row has these words behind its `=`."""
    if len(words) == 1 and number_of(words[0]) is not None:
        return "number"
    if len(words) == 1 and is_name(words[0]):
        return "copy"
    if len(words) == 3 and is_name(words[0]) and words[1] in OPS and is_name(words[2]):
        return "does"
    if len(words) > 1 and words[0] == "call" and all([is_name(word) for word in words[1:]]):
        return "call"
    return None


def sort_of_deed(words):
    """Which sort of row has these words and no `=` behind the first."""
    if len(words) == 2 and words[0] in ("dye", "wash", "return") and is_name(words[1]):
        return words[0]
    if len(words) == 2 and words[0] == "to" and number_of(words[1]) is not None:
        return "to"
    if len(words) == 4 and words[0] == "if" and is_name(words[1]):
        return "if" if words[2] == "to" and number_of(words[3]) is not None else None
    return None


def variables_in(sort, words):
    """The names of variables in a row of this sort, from left to right, each as often as it stands there."""
    if sort == "call":
        # The fourth word is the called function's name.
        return words[:1] + words[4:]
    return [word for word in words if is_name(word)]
