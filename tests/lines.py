"""Calls as whole numbers, and their answers, one list a call."""

from tableclaims.claims import answers


def codes(text):
    return list(text.encode("latin-1")) if isinstance(text, str) else list(text)


def row(text):
    numbers = codes(text)
    return [len(numbers)] + numbers


def table(text):
    return [0] + row(text)


def rows(name, text):
    return [1] + row(name) + row(text)


def found(name):
    return [2] + row(name)


def told(k, name):
    return [3, k] + row(name)


def support(k, name):
    return [4, k] + row(name)


def holds(text):
    return [5] + row(text)


def still(name, text):
    return [6] + row(name) + row(text)


def keys(name):
    return [7] + row(name)


def fixed(name, columns):
    return [8] + row(name) + row(columns)


def cover(name):
    return [9] + row(name)


def follows(k, name):
    return [10, k] + row(name)


def parted(numbers):
    answered = []
    place = 0
    while place < len(numbers):
        size = numbers[place]
        answered.append(numbers[place + 1:place + 1 + size])
        place += 1 + size
    return answered


def run(*calls):
    answered = parted(answers([number for call in calls for number in call]))
    if len(answered) != len(calls):
        raise AssertionError(f"{len(calls)} calls, {len(answered)} answers")
    return answered


def last(*calls):
    return run(*calls)[-1]


def text_of(numbers):
    return bytes(numbers).decode("ascii")


def found_texts(name, *calls):
    """The found claims, one by one by told, checked against the text that found answers."""
    answer = last(*calls, found(name))
    texts = []
    for start in range(0, answer[0], 30):
        part = range(start, min(start + 30, answer[0]))
        texts += [text_of(a) for a in run(*calls, *[told(k, name) for k in part])[len(calls):]]
    if text_of(answer[1:]) != " ".join(texts):
        raise AssertionError("found and told differ")
    return texts


def supports(name, *calls):
    count = last(*calls, found(name))[0]
    answered = []
    for k in range(count):
        (number,) = last(*calls, support(k, name))
        answered.append(number)
    return answered
