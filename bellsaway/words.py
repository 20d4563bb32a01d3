"""What the other modules need of names."""

from bellsaway.happenings import LETTERS, is_name


def are_unlike_names(thing):
    if not isinstance(thing, list) or not all([is_name(name) for name in thing]):
        return False
    return len(set(thing)) == len(thing)


def counted_name(number):
    name = LETTERS[number % len(LETTERS)]
    while number >= len(LETTERS):
        number = number // len(LETTERS)
        name = LETTERS[number % len(LETTERS)] + name
    return name


def unused_name(taken):
    number = 0
    while counted_name(number) in taken:
        number += 1
    return counted_name(number)
