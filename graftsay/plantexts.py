"""Plans written by words, and read."""

from graftsay.books import is_key
from graftsay.errors import NoText

PLACE_FIGURES = ("0", "1", "2", "3", "4", "5", "6", "7")


def plan_text(plan):
    """The text that writes a plan."""
    return " ".join(plan_words(plan))


def plan_words(plan):
    """The words that write a plan."""
    key, puts = plan
    words = ["(", key]
    for place, put in puts:
        words.append(place_word(place))
        words.extend(plan_words(put))
    words.append(")")
    return words


def place_word(place):
    """The word that writes a place."""
    if len(place) == 0:
        return "."
    return ".".join([str(number) for number in place])


def read_plan(text):
    """The plan that a text writes, whichever the book."""
    words = text.split(" ")
    plan, after = take_plan(words, 0)
    if after < len(words):
        raise NoText(after)
    return plan


def take_plan(words, at):
    """The plan that words write from the word number at on, and the number of the word behind it."""
    if words[at:at + 1] != ["("]:
        raise NoText(at)
    key, behind_key = take_key(words, at + 1)
    puts, after = take_puts(words, behind_key)
    return (key, puts), after


def take_key(words, at):
    """The key that is the word number at, and the number of the word behind it."""
    if at == len(words) or not is_key(words[at]):
        raise NoText(at)
    return words[at], at + 1


def take_puts(words, at):
    """The puts that words write from the word number at on, and the number of the word behind their bracket."""
    puts = []
    while words[at:at + 1] != [")"]:
        place, behind_place = take_place(words, at)
        plan, at = take_plan(words, behind_place)
        puts.append((place, plan))
    return tuple(puts), at + 1


def take_place(words, at):
    """The place that the word number at writes, and the number of the word behind it."""
    if words[at:at + 1] == ["."]:
        return (), at + 1
    if at == len(words):
        raise NoText(at)
    figures = words[at].split(".")
    if not all(figure in PLACE_FIGURES for figure in figures):
        raise NoText(at)
    return tuple([int(figure) for figure in figures]), at + 1
