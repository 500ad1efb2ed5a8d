"""Questions about the kinds of values that the other files share."""


def is_whole(thing):
    """Whether thing is a whole number."""
    # A truth is an int for Python, but no number for the document.
    return isinstance(thing, int) and not isinstance(thing, bool)


def is_whole_from(thing, least):
    """Whether thing is a whole number from least on."""
    return is_whole(thing) and thing >= least


def is_rising(items):
    """Whether each item is less than the one behind it."""
    return all([items[at] < items[at + 1] for at in range(len(items) - 1)])
