"""Texts: what a file's text may be, what it becomes by putting and cutting, and numbers written by plain figures."""

from overfold.errors import TooLong

LONGEST_TEXT = 200
FIGURES = "0123456789"
# The one sign between the blank and the tilde that no text has, told by its number.
PERCENT = 37


def is_sign(sign):
    return " " <= sign <= "~" and ord(sign) != PERCENT


def is_text(text):
    return len(text) <= LONGEST_TEXT and all([is_sign(sign) for sign in text])


def put_text(old, place, text):
    end = place + len(text)
    if max(len(old), end) > LONGEST_TEXT:
        raise TooLong(f"the text would have more than {LONGEST_TEXT} signs")
    return old[:place].ljust(place) + text + old[end:]


def cut_text(text, size):
    return text[:size].ljust(size)


def number_in(text, most):
    # The length is asked ahead, so that no number is made that is far above the bound.
    if text == "" or len(text) > len(str(most)) or not all([sign in FIGURES for sign in text]):
        return None
    if text != "0" and text.startswith("0"):
        return None
    number = int(text)
    return number if number <= most else None
