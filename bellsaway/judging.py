"""The judge: the first line of a book that no right house could have written there."""

from bellsaway.bells import NOT, PERHAPS, TOOK
from bellsaway.errors import BellError
from bellsaway.rows import is_row
from bellsaway.tower import Tower
from bellsaway.wholes import is_whole


def judge(roads, pause, lines):
    return first_wrong(Tower(roads, pause), lines)


def first_wrong(tower, lines):
    # Behind right lines the tower is as that of the house that wrote them.
    if not isinstance(lines, list):
        return 0
    for number, line in enumerate(lines):
        if not follows(tower, line):
            return number
    return None


def follows(tower, line):
    if tower.is_trying():
        return follows_as_end(tower, line)
    if is_row(line):
        return follows_as_row(tower, line)
    # Where no letter is open, a try may come however late, but for what goes out first as time goes on.
    tower.go_up_to(None)
    return follows_as_try(tower, line)


def follows_as_end(tower, line):
    for what in (TOOK, NOT, PERHAPS):
        if is_same(line, ("end", tower.time, what)):
            tower.end_try(what)
            return True
    return False


def follows_as_row(tower, line):
    try:
        borne = tower.borne_by(line)
    except BellError:
        return False
    tower.go_up_to(line[1])
    # One that isn't ended yet, or one that goes out by the row's moment.
    if tower.letter is not None:
        return False
    tower.do_row(line, borne)
    return True


def follows_as_try(tower, line):
    if tower.letter is None or not is_same(line, tower.letter.next_try()):
        return False
    tower.letter.begin_try()
    return True


def is_same(thing, told):
    # `==` alone would take True for 1.
    if isinstance(told, tuple):
        if not isinstance(thing, tuple) or len(thing) != len(told):
            return False
        return all([is_same(part, wanted) for part, wanted in zip(thing, told)])
    if isinstance(told, str):
        return isinstance(thing, str) and thing == told
    return is_whole(thing) and thing == told
