"""Texts as lists of bytes: their lines, words, names and numbers."""

LINE_END = 10
BLANK = 32
REMARK = 35

LETTERS = "abcdefghijklmnopqrstuvwxyz"
FIRST_LETTER = 97
# The signs of the bytes 48 to 62, as far as a right word may have them.
DIGITS_AND_MARKS = "0123456789:?<=>"
FIRST_DIGIT = 48
FOREIGN = "?"

LONGEST_NAME = 8
LONGEST_NUMBER = 3
WORDS_OF_LINES = ("place", "leg", "way", "cache", "limit", "storms", "at", "food", "have", "lack", "take", "go")


def sign_of(byte):
    """Give the byte's sign; all bytes that no right word has share one, which makes their word wrong."""
    if byte == BLANK:
        return " "
    if FIRST_LETTER <= byte < FIRST_LETTER + len(LETTERS):
        return LETTERS[byte - FIRST_LETTER]
    if FIRST_DIGIT <= byte < FIRST_DIGIT + len(DIGITS_AND_MARKS):
        return DIGITS_AND_MARKS[byte - FIRST_DIGIT]
    return FOREIGN


def split_lines(row):
    lines = []
    line = []
    for byte in row:
        if byte == LINE_END:
            lines.append(line)
            line = []
        else:
            line.append(byte)
    lines.append(line)
    return lines


def words_of(line):
    signs = []
    for byte in line:
        if byte == REMARK:
            break
        signs.append(sign_of(byte))
    return [word for word in "".join(signs).split(" ") if word != ""]


def first_wrong_line(row, whole, take_line):
    """Hand each line's words to take_line, which adds them to the whole or answers False.

    The number (from 1) of the first wrong line is given back, or 0.
    """
    for index, line in enumerate(split_lines(row)):
        words = words_of(line)
        if len(words) > 0 and not take_line(whole, words):
            return index + 1
    return 0


def is_name(word):
    # Of the signs that sign_of gives, only small letters and digits are letters and digits to Python.
    return len(word) <= LONGEST_NAME and word.isalnum() and word[0].isalpha() and word not in WORDS_OF_LINES


def number_within(word, least, most):
    """Give the word's number, or None if it's no number from least to most."""
    if len(word) > LONGEST_NUMBER or not word.isdigit():
        return None
    number = int(word)
    if number < least or number > most:
        return None
    return number


def bytes_of_lines(lines):
    """Give the bytes of lines of words: one blank between words, a line's end behind each line."""
    text = "".join([" ".join(words) + "\n" for words in lines])
    return [ord(sign) for sign in text]
