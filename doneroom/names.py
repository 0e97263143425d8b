"""Names of boxes, words and parts [4]."""

KEPT = ("pair", "first", "second", "none", "tell", "back", "either", "or", "again", "end", "do", "part")
MOST_LETTERS = 8


def is_name(thing):
    if not isinstance(thing, str):
        return False
    if not 1 <= len(thing) <= MOST_LETTERS:
        return False
    return all([is_small_letter(sign) for sign in thing]) and thing not in KEPT


# Python's own islower takes letters beyond z as well.
def is_small_letter(sign):
    return "a" <= sign <= "z"
