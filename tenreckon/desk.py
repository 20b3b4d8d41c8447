"""The desk: lines of words, each answered by a text."""

from tenreckon.comparing import compared, greater, lesser
from tenreckon.contexts import Context
from tenreckon.dividing import over, rest_of, whole_over
from tenreckon.errors import BadContext, BadCount, NoText, Trapped
from tenreckon.others import next_down, next_up, same_power, scaled, to_whole, trimmed
from tenreckon.powers import root, to_power
from tenreckon.sums import fused, minus, plus, times
from tenreckon.texts import are_figures, read, written

NUMBERS_OF = {
    "plus": 2, "minus": 2, "times": 2, "fused": 3, "over": 2, "whole over": 2, "rest": 2, "root": 1, "same power": 2,
    "to whole": 1, "trimmed": 1, "next up": 1, "next down": 1, "lesser": 2, "greater": 2, "compare": 2,
}


class Desk:
    def __init__(self):
        self.context = Context()


def played(lines):
    desk = Desk()
    return [answer_of(desk, line.split(" ")) for line in lines]


def answer_of(desk, words):
    if "" in words:
        return "no line"
    try:
        return line_done(desk, words)
    except NoText:
        return "no number"
    except BadCount:
        return "no count"
    except BadContext:
        return "bad context"
    except Trapped as refusal:
        return "trapped " + refusal.signal


def line_done(desk, words):
    if words[0] in ("room", "way", "bounds"):
        return context_changed(desk, words[0], words[1:])
    if words[0] in ("trap", "flags", "clear"):
        return signals_handled(desk.context, words[0], words[1:])
    if words[0] in ("power", "scaled"):
        return counted(desk.context, words[0], words[1:])
    return reckoned(desk.context, words)


def context_changed(desk, name, rest):
    old = desk.context
    rule = old.way().name()
    if name == "room" and len(rest) == 1:
        changed = Context(count_read(rest[0]), rule, old.least, old.most)
    elif name == "way" and len(rest) in (1, 2):
        changed = Context(old.room, " ".join(rest), old.least, old.most)
    elif name == "bounds" and len(rest) == 2:
        changed = Context(old.room, rule, count_read(rest[0]), count_read(rest[1]))
    else:
        return "no line"
    # Flags ahead of traps, else raising them would be refused.
    changed.raised(old.flags())
    changed.trap(old.traps())
    desk.context = changed
    return "done"


def signals_handled(context, name, rest):
    if name == "trap":
        context.trap(rest)
        return "done"
    if rest != []:
        return "no line"
    if name == "clear":
        context.clear()
        return "done"
    names = context.flags()
    return "none up" if names == [] else " ".join(names)


def counted(context, name, rest):
    if len(rest) != 2:
        return "no line"
    number = read(rest[0])
    count = count_read(rest[1])
    if name == "power":
        return written(to_power(context, number, count))
    return written(scaled(context, number, count))


def count_read(word):
    digits = word[1:] if word.startswith("-") else word
    if not are_figures(digits) or len(digits) > 4:
        raise BadCount("this is no count")
    return -int(digits) if word.startswith("-") else int(digits)


def reckoned(context, words):
    # No name of one word is the first word of another name.
    size = 1 if words[0] in NUMBERS_OF else 2
    name = " ".join(words[:size])
    if NUMBERS_OF.get(name) != len(words) - size:
        return "no line"
    numbers = [read(word) for word in words[size:]]
    if name == "compare":
        return order_written(compared(numbers[0], numbers[1]))
    if name == "fused":
        return written(fused(context, numbers[0], numbers[1], numbers[2]))
    if len(numbers) == 1:
        return written(of_one(context, name, numbers[0]))
    return written(of_two(context, name, numbers[0], numbers[1]))


def order_written(order):
    if order is None:
        return "none"
    if order == 0:
        return "alike"
    return "less" if order < 0 else "more"


def of_one(context, name, one):
    if name == "root":
        return root(context, one)
    if name == "to whole":
        return to_whole(context, one)
    if name == "trimmed":
        return trimmed(context, one)
    if name == "next up":
        return next_up(context, one)
    return next_down(context, one)


def of_two(context, name, one, other):
    if name == "plus":
        return plus(context, one, other)
    if name == "minus":
        return minus(context, one, other)
    if name == "times":
        return times(context, one, other)
    if name == "over":
        return over(context, one, other)
    if name == "whole over":
        return whole_over(context, one, other)
    if name == "rest":
        return rest_of(context, one, other)
    if name == "same power":
        return same_power(context, one, other)
    if name == "lesser":
        return lesser(context, one, other)
    return greater(context, one, other)
