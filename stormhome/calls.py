"""The form of the calls: how each is taken out of a list, and the ranges of its numbers."""

# The whole numbers of each call, by the letters that the document gives them; x stands for strict.
FORMS = {
    0: "", 1: "", 2: "psb", 3: "psbf", 4: "psbf", 5: "psf", 6: "psbftq", 7: "", 8: "", 9: "psbf",
    10: "psbf", 11: "psbf", 12: "psb", 13: "psbfx", 14: "tq", 15: "k", 16: "", 17: "", 18: "tq",
}
# The greatest value of each of these letters; the least is always 0.
TOPS = {"p": 6, "s": 15, "b": 8, "f": 60, "t": 15, "q": 6, "k": 12, "x": 1}
# The calls that have a row behind their whole numbers: its greatest length, its numbers' greatest value,
# and how many of its numbers belong together.
ROWS = {0: (2000, 255, 1), 7: (2000, 255, 1), 11: (40, 12, 1), 12: (24, 15, 2)}


class Call:
    """One call: its number, its whole numbers by their letters, its row, and where the next call begins."""

    def __init__(self, number, told, row, behind):
        self.number = number
        self.told = told
        self.row = row
        self.behind = behind


def call_at(calls, at):
    """Take the call that begins at this place out of the list."""
    number = calls[at]
    at += 1
    told = {}
    for letter in FORMS[number]:
        told[letter] = calls[at]
        at += 1
    row = []
    if number in ROWS:
        row = calls[at + 1:at + 1 + calls[at]]
        at += 1 + len(row)
    return Call(number, told, row, at)


def is_row_in_range(number, row):
    most_numbers = ROWS[number][0]
    top = ROWS[number][1]
    together = ROWS[number][2]
    if len(row) > most_numbers or len(row) % together != 0:
        return False
    return all([0 <= value <= top for value in row])


def is_in_ranges(call):
    for letter in call.told:
        if call.told[letter] < 0 or call.told[letter] > TOPS[letter]:
            return False
    return call.number not in ROWS or is_row_in_range(call.number, call.row)
