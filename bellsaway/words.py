"""What the other modules need of names and words: lists of names, numbers as words, a text word by word."""

from bellsaway.errors import NoText
from bellsaway.happenings import LETTERS, is_name

FIGURES = "0123456789"
MOST_FIGURES = 60


def are_unlike_names(thing):
    if not isinstance(thing, list) or not all([is_name(name) for name in thing]):
        return False
    return len(set(thing)) == len(thing)


def counted_name(number):
    name = LETTERS[number % len(LETTERS)]
    while number >= len(LETTERS):
        number = number // len(LETTERS)
        name = LETTERS[number % len(LETTERS)] + name
    return name


def unused_name(taken):
    number = 0
    while counted_name(number) in taken:
        number += 1
    return counted_name(number)


def is_figures(word):
    if len(word) < 1 or len(word) > MOST_FIGURES or not all([sign in FIGURES for sign in word]):
        return False
    return word == "0" or not word.startswith("0")


def is_number(word):
    if word.startswith("-"):
        return is_figures(word[1:]) and word != "-0"
    return is_figures(word)


class Words:
    def __init__(self, text):
        if not isinstance(text, str):
            raise NoText()
        self.words = text.split(" ")
        self.at = 0

    def is_ended(self):
        return self.at == len(self.words)

    def look(self):
        # Behind the last word as between two blanks stands a word without signs, which is right nowhere.
        return self.words[self.at] if self.at < len(self.words) else ""

    def take(self):
        word = self.look()
        self.at += 1
        return word

    def takes(self, word):
        if self.look() != word:
            return False
        self.at += 1
        return True

    def expect(self, word):
        if not self.takes(word):
            raise NoText()

    def expect_end(self):
        if not self.is_ended():
            raise NoText()

    def take_number(self):
        word = self.take()
        if not is_number(word):
            raise NoText()
        return int(word)

    def take_count(self):
        count = self.take_number()
        if count < 0:
            raise NoText()
        return count

    def take_name(self):
        word = self.take()
        if not is_name(word):
            raise NoText()
        return word

    def take_one_of(self, choices):
        word = self.take()
        if word not in choices:
            raise NoText()
        return word

    def take_names(self):
        names = []
        while is_name(self.look()):
            names.append(self.take())
        return names

    def take_some(self, count):
        if count < 0 or count > len(self.words) - self.at:
            raise NoText()
        some = self.words[self.at:self.at + count]
        self.at += count
        return some

    def take_rest(self):
        return self.take_some(len(self.words) - self.at)
