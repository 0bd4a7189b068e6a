"""Trees, read from bytes and written: a number is an int, a word a str, a list a tuple."""

from tableclaims.refusals import NotReadable, TextTooLong

LETTERS = "abcdefghijklmnopqrstuvwxyzABCDEFGHIJKLMNOPQRSTUVWXYZ"
SIGNS_OF_TREES = "abcdefghijklmnopqrstuvwxyzABCDEFGHIJKLMNOPQRSTUVWXYZ0123456789-.()"
BLANK_BYTES = (32, 10)
STRAY = "?"
MOST_BYTES_READ = 4000
MOST_BYTES_ANSWERED = 12000
DEEPEST = 40
GREATEST_NUMBER = 1000000
LONGEST_NUMBER = 7
LONGEST_WORD = 20


def text_of(codes):
    signs = {}
    for sign in SIGNS_OF_TREES:
        signs[ord(sign)] = sign
    for code in BLANK_BYTES:
        signs[code] = " "
    # No tree has the stray sign in it, so all other bytes may share it.
    return "".join([signs.get(code, STRAY) for code in codes])


def read_number(piece):
    # The length is asked first, so that no number of thousands of digits is ever made.
    if len(piece) > LONGEST_NUMBER:
        raise NotReadable()
    if piece.startswith("0") and piece != "0":
        raise NotReadable()
    number = int(piece)
    if number > GREATEST_NUMBER:
        raise NotReadable()
    return number


def read_word(piece):
    if len(piece) > LONGEST_WORD or piece[0] not in LETTERS or STRAY in piece:
        raise NotReadable()
    return piece


def read_leaf(piece):
    if piece.isdigit():
        return read_number(piece)
    return read_word(piece)


def begin_list(unclosed):
    # The lowest one gathers what stands in no list.
    if len(unclosed) > DEEPEST:
        raise NotReadable()
    unclosed.append([])


def end_list(unclosed):
    if len(unclosed) == 1:
        raise NotReadable()
    ended = tuple(unclosed.pop())
    unclosed[-1].append(ended)


def read_trees(codes):
    if len(codes) > MOST_BYTES_READ:
        raise NotReadable()
    unclosed = [[]]
    for piece in text_of(codes).replace("(", " ( ").replace(")", " ) ").split():
        if piece == "(":
            begin_list(unclosed)
        elif piece == ")":
            end_list(unclosed)
        else:
            unclosed[-1].append(read_leaf(piece))
    if len(unclosed) != 1:
        raise NotReadable()
    return unclosed[0]


def read_one_tree(codes):
    trees = read_trees(codes)
    if len(trees) != 1:
        raise NotReadable()
    return trees[0]


def written(tree):
    if isinstance(tree, tuple):
        inside = written_row(tree)
        return f"({inside})"
    return str(tree)


def written_row(trees):
    return " ".join([written(tree) for tree in trees])


def answered_bytes(trees):
    text = written_row(trees)
    if len(text) > MOST_BYTES_ANSWERED:
        raise TextTooLong()
    return [ord(sign) for sign in text]
