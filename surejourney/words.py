"""The lines of a text and their words, with the places at which they stand."""

from surejourney.refusals import TextFault

NEW_LINE = 10
BLANK = 32
SMALL_A = 97
SMALL_Z = 122
DIGIT_0 = 48
DIGIT_9 = 57
LONGEST_NAME = 12
LONGEST_NUMBER = 6
WRONG_WORD = 1


class Word:
    def __init__(self, signs, place):
        self.signs = signs
        self.place = place


# the words of one line, taken from the left to the right
class Line:
    def __init__(self, words, behind):
        self.words = words
        self.behind = behind
        self.taken = 0

    def has_more(self):
        return self.taken < len(self.words)

    def take(self):
        if not self.has_more():
            raise TextFault(WRONG_WORD, self.behind)
        word = self.words[self.taken]
        self.taken += 1
        return word

    def close(self):
        if self.has_more():
            raise TextFault(WRONG_WORD, self.words[self.taken].place)


def words_between(text, begin, behind):
    words = []
    first = begin
    for place in range(begin, behind + 1):
        if place == behind or text[place] == BLANK:
            if first < place:
                words.append(Word(text[first:place], first))
            first = place + 1
    return words


def lines_of(text):
    lines = []
    begin = 0
    for place in range(len(text) + 1):
        if place == len(text) or text[place] == NEW_LINE:
            lines.append(Line(words_between(text, begin, place), place))
            begin = place + 1
    return lines


def bytes_of(written):
    return [ord(sign) for sign in written]


def is_letter(sign):
    return SMALL_A <= sign and sign <= SMALL_Z


def is_digit(sign):
    return DIGIT_0 <= sign and sign <= DIGIT_9


def is_name(signs):
    if len(signs) == 0 or len(signs) > LONGEST_NAME or not is_letter(signs[0]):
        return False
    return all([is_letter(sign) or is_digit(sign) for sign in signs])


def is_number(signs):
    if len(signs) == 0 or len(signs) > LONGEST_NUMBER:
        return False
    if len(signs) > 1 and signs[0] == DIGIT_0:
        return False
    return all([is_digit(sign) for sign in signs])


def number_told(signs):
    number = 0
    for sign in signs:
        number = number * 10 + sign - DIGIT_0
    return number


def take_name(line):
    word = line.take()
    if not is_name(word.signs):
        raise TextFault(WRONG_WORD, word.place)
    return word


def take_number(line):
    word = line.take()
    if not is_number(word.signs):
        raise TextFault(WRONG_WORD, word.place)
    return word
