"""Texts as nests."""

from nestsets.errors import NoText
from nestsets.nests import gathered

NEIGHBOURS = ("{{", "{}", "}}", "},", ",{")


# The whole text is looked at before a nest is made, so that a text that goes
# wrong at its end is refused however deep it went before.
def read(text):
    if not tells_nest(text):
        raise NoText("the text tells no nest")
    return nest_told(text)


def tells_nest(text):
    return text.startswith("{") and has_right_neighbours(text) and closes_at_end(text)


def has_right_neighbours(text):
    return all([text[place - 1:place + 1] in NEIGHBOURS for place in range(1, len(text))])


def closes_at_end(text):
    still_open = 0
    for place, sign in enumerate(text):
        if sign == "{":
            still_open = still_open + 1
        elif sign == "}":
            still_open = still_open - 1
        if still_open == 0:
            return place == len(text) - 1
    return False


def nest_told(text):
    # One row of members for each nest that is open, the outermost first; the
    # row at the bottom takes the whole nest.
    rows = [[]]
    for sign in text:
        if sign == "{":
            rows.append([])
        elif sign == "}":
            members = rows.pop()
            rows[-1].append(gathered(members))
    return rows[0][0]
