"""The words of a desk's rows, by their forms [33]."""

from doneroom.names import is_name

FIGURES = "0123456789"
MOST_FIGURES = 4
MOST_CHOICES = 60
NO_CHOICES = "-"


# Whether the words behind the row's first one have these forms, one each.
def have_forms(words, forms):
    return len(words) == len(forms) and all([has_form(word, form) for word, form in zip(words, forms)])


def has_form(word, form):
    if form == "name":
        return is_name(word)
    return is_number(word) if form == "number" else is_choices(word)


def is_number(word):
    if not 1 <= len(word) <= MOST_FIGURES or not has_only(word, FIGURES):
        return False
    return word == "0" or word[0] != "0"


def is_choices(word):
    return word == NO_CHOICES or (1 <= len(word) <= MOST_CHOICES and has_only(word, "01"))


def has_only(word, signs):
    return all([sign in signs for sign in word])


def choices_in(word):
    return [] if word == NO_CHOICES else [int(sign) for sign in word]
