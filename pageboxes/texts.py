"""Texts: rows of bytes to the outside, Python's texts within, and how they are taken apart."""

SIGNS = ' \n":0123456789ABCDEFGHIJKLMNOPQRSTUVWXYZabcdefghijklmnopqrstuvwxyz'
SMALL_LETTERS = "abcdefghijklmnopqrstuvwxyz"
QUOTE = '"'
# Stands for every byte that no page, no rules and no id can have: a text with one of these fits nothing.
STRANGE = "?"


def text_of(numbers):
    signs = dict([(ord(sign), sign) for sign in SIGNS])
    return "".join([signs.get(number, STRANGE) for number in numbers])


def counted(text):
    return [len(text)] + [ord(sign) for sign in text]


def counted_all(texts):
    numbers = [len(texts)]
    for text in texts:
        numbers.extend(counted(text))
    return numbers


def ended_lines(text):
    lines = text.split("\n")
    # Behind the last line's end stands nothing, or else a line that isn't ended.
    if lines.pop() != "":
        return None
    return lines


def is_small_word(word, most):
    return 1 <= len(word) <= most and all([sign in SMALL_LETTERS for sign in word])


def split_words(line):
    words = []
    word = ""
    quoted = False
    for sign in line:
        if sign == QUOTE:
            quoted = not quoted
        if sign == " " and not quoted:
            words.append(word)
            word = ""
        else:
            word = word + sign
    words.append(word)
    return words


class Words:
    # The words of a line, taken one after the other.

    def __init__(self, line):
        self.words = split_words(line)
        self.place = 0

    def peek(self):
        # Behind the last word there's an empty one, which nothing takes for a word of its own.
        if self.place < len(self.words):
            return self.words[self.place]
        return ""

    def take(self):
        word = self.peek()
        self.place = self.place + 1
        return word

    def skip(self, word):
        if self.peek() != word:
            return False
        self.place = self.place + 1
        return True

    def all_taken(self):
        return self.place == len(self.words)
