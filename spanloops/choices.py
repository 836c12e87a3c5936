"""Options, sets of them, and which sets are the least ones."""

LETTERS = "abcdefghijklmnopqrstuvwxyz"


def is_name(value, most):
    """Whether any object is a string of one to `most` small letters."""
    return isinstance(value, str) and 1 <= len(value) <= most and all([letter in LETTERS for letter in value])


def is_option(value):
    """Whether any object is an option."""
    return is_name(value, 8)


def choices_of(options):
    """All sets of the options, which ascend; those with fewer options first, equally many in ascending order."""
    found = [()]
    for option in options:
        found = found + [chosen + (option,) for chosen in found]
    return sorted(found, key=lambda chosen: (len(chosen), chosen))


def is_within(some, others):
    """Whether all members of a set of options are among others."""
    return all([option in others for option in some])


def remedies_among(options, is_right):
    """Those sets of the options that are right, while no proper subset of them is."""
    found = []
    for chosen in choices_of(options):
        if not any([is_within(remedy, chosen) for remedy in found]) and is_right(chosen):
            found.append(chosen)
    return tuple(found)
