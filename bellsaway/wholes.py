"""Whole numbers, told apart from all other things."""


def is_whole(thing):
    # To Python a truth is an int too; to the document it is no whole number.
    return isinstance(thing, int) and not isinstance(thing, bool)


def is_whole_between(thing, least, most):
    return is_whole(thing) and least <= thing and thing <= most


def is_whole_from(thing, least):
    return is_whole(thing) and least <= thing
