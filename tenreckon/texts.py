"""Numbers written as texts, and texts read as numbers."""

from tenreckon.errors import BadNumber, NoText
from tenreckon.numbers import end, lead_of, need_number, nothing, plain


def written(number):
    need_number(number)
    if number.kind == "none":
        return "none"
    mark = "-" if number.sign == 1 else ""
    if number.kind == "end":
        return mark + "end"
    return mark + worth_written(number)


def worth_written(number):
    lead = number.power if number.figures == 0 else lead_of(number)
    digits = str(number.figures)
    if number.power <= 0 and lead >= -6:
        return with_point(digits, -number.power)
    return with_lead(digits, lead)


def with_point(digits, behind):
    if behind == 0:
        return digits
    filled = digits.zfill(behind + 1)
    ahead = len(filled) - behind
    return filled[:ahead] + "." + filled[ahead:]


def with_lead(digits, lead):
    others = "." + digits[1:] if len(digits) > 1 else ""
    mark = "-" if lead < 0 else "+"
    return digits[0] + others + "e" + mark + str(abs(lead))


def read(text):
    if not isinstance(text, str):
        raise NoText("this is no text")
    word = text.strip(" ").lower()
    if word == "none":
        return nothing()
    body = without_sign(word)
    if body == "end":
        return end(sign_of(word))
    return plain_read(sign_of(word), body)


def sign_of(word):
    return 1 if word.startswith("-") else 0


def without_sign(word):
    return word[1:] if word.startswith(("+", "-")) else word


def plain_read(sign, body):
    parts = body.partition("e")
    halves = parts[0].partition(".")
    figures = figures_read(halves[0] + halves[2])
    shift = shift_read(parts[2]) if parts[1] == "e" else 0
    try:
        return plain(sign, figures, shift - len(halves[2]))
    except BadNumber:
        raise NoText("the power is beyond the bounds") from None


def figures_read(digits):
    need_figures(digits)
    counted = digits.lstrip("0")
    # Counted ahead of int, which fails in its own way at some thousand digits.
    if len(counted) > 60:
        raise NoText("more than 60 figures")
    return int("0" + counted)


def shift_read(tail):
    digits = without_sign(tail)
    need_figures(digits)
    if len(digits) > 3:
        raise NoText("more than three figures behind e")
    return -int(digits) if sign_of(tail) == 1 else int(digits)


def need_figures(digits):
    if not are_figures(digits):
        raise NoText("this is no number")


def are_figures(digits):
    # Not isdigit, which holds of signs beyond 0 to 9, too.
    return digits != "" and digits.strip("0123456789") == ""
