"""The words of [123], line by line, to hold the program against."""

import re

NUMBER = r"(?:0|[1-9][0-9]{0,17})"


def bad_line(text, checks):
    """The first line that is not as told, None if all are; checks tells of the words of each line, one by one.

    checks is a function from the number of a line and the rows of words ahead to a check of words, or None behind
    the last line.
    """
    if not isinstance(text, str):
        return 0
    lines = re.findall(r"[^\n]*\n|[^\n]+\Z", text)
    rows = []
    while True:
        check = checks(rows)
        at = len(rows)
        if check is None:
            return None if at == len(lines) else at + 1
        if at == len(lines) or not lines[at].endswith("\n"):
            return at + 1
        words = lines[at][:-1].split(" ")
        if not check(words):
            return at + 1
        rows.append(words)


def are_numbers(words):
    """Whether each word is a number in figures."""
    return all(re.fullmatch(NUMBER, word) for word in words)


def web_checks(rows):
    """The check of the next line of a web's text."""
    if not rows:
        return is_head
    if len(rows) == 1:
        return is_begin
    if len(rows) == 2 + int(rows[0][3]):
        return None
    return lambda words: is_payment(rows, words)


def is_head(words):
    if len(words) != 4 or words[0] != "bank" or not are_numbers(words[1:]):
        return False
    members, lies, many = [int(word) for word in words[1:]]
    return 3 * lies + 1 <= members <= 13 and many <= 400


def is_begin(words):
    if words[0] != "begin" or not 1 <= len(words) - 1 <= 8 or not are_numbers(words[1:]):
        return False
    return sum(int(word) for word in words[1:]) < 10 ** 18


def is_payment(rows, words):
    purses, place = len(rows[1]) - 1, len(rows) - 2
    if len(words) != 5 + purses or words[0] not in ("sealed", "bare") or not are_numbers(words[1:5]):
        return False
    purse, number, to, amount = [int(word) for word in words[1:5]]
    if purse >= purses or to >= purses or number < 1 or amount < 1:
        return False
    for word in words[5:]:
        if word != "-" and not (are_numbers([word]) and int(word) < place):
            return False
    return words[1:] not in [row[1:] for row in rows[2:]]


def steps_checks(members, places):
    """The function that tells the check of the next line of a text of steps."""
    def checks(rows):
        if not rows:
            return lambda words: (len(words) == 2 and words[0] == "steps" and are_numbers(words[1:])
                                  and int(words[1]) <= 3000)
        if len(rows) == 1 + int(rows[0][1]):
            return None
        return lambda words: is_ask(words, rows)

    def is_ask(words, rows):
        if len(words) != 3 or words[0] != "ask" or not are_numbers(words[1:]):
            return False
        return int(words[1]) < members and int(words[2]) < places and words not in rows
    return checks


def bent_texts(text):
    """All texts that come of it by one change: a sign, a line."""
    signs = " \n-0159abkse~"
    for at in range(len(text) + 1):
        for sign in signs:
            yield text[:at] + sign + text[at:]
        if at < len(text):
            yield text[:at] + text[at + 1:]
            for sign in signs:
                yield text[:at] + sign + text[at + 1:]
    lines = text.splitlines(keepends=True)
    for at, line in enumerate(lines):
        yield "".join(lines[:at] + lines[at + 1:])
        for to in range(len(lines) + 1):
            yield "".join(lines[:to] + [line] + lines[to:])
            rest = lines[:at] + lines[at + 1:]
            yield "".join(rest[:to] + [line] + rest[to:])
        yield "".join(lines[:at])
