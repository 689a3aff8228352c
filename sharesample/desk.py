"""The desk: lines that make a drawing, give worths and ask, each answered with a line."""

from sharesample.drawings import is_lot, lot_shares, pair_shares
from sharesample.errors import NoLine
from sharesample.fracs import frac_times, frac_total
from sharesample.guesses import guess_mean, right_weights, whole_of
from sharesample.making import alone_drawing, line_drawing, pairs_drawing, taken_drawing
from sharesample.moved import full_weights, moved_spread, nought_guess
from sharesample.spreads import blind_worths, guess_spread, spread_guess
from sharesample.texts import read_fraction, read_whole, shown_drawing, shown_fraction, shown_list

LONGEST = 12
MAKING = ("shares", "taken", "pairs", "alone")


def words_of(line):
    if not isinstance(line, str):
        raise NoLine("no text")
    return line.split(" ")


def check_count(words, many):
    if len(words) != many:
        raise NoLine("too many words or too few")


def fraction_in(word):
    told = read_fraction(word, LONGEST)
    if told is None:
        raise NoLine("no fraction")
    return told


def house_in(word, many):
    house = read_whole(word, LONGEST)
    if house is None or house >= many:
        raise NoLine("no house that is there")
    return house


def lot_in(words, many):
    lot = tuple([house_in(word, many) for word in words])
    if not is_lot(lot, many):
        raise NoLine("houses that don't rise")
    return lot


def shares_in(words):
    if words == []:
        raise NoLine("no shares")
    return [fraction_in(word) for word in words]


def worths_in(words, many):
    check_count(words, many)
    return [fraction_in(word) for word in words]


def made_drawing(word, shares):
    if word == "shares":
        return line_drawing(shares)
    if word == "taken":
        return taken_drawing(shares)
    if word == "pairs":
        return pairs_drawing(shares)
    return alone_drawing(shares)


def share_told(drawing, words):
    check_count(words, 1)
    return lot_shares(drawing)[house_in(words[0], drawing[0])]


def pair_told(drawing, words):
    check_count(words, 2)
    one = house_in(words[0], drawing[0])
    other = house_in(words[1], drawing[0])
    return pair_shares(drawing)[one][other]


def base_told(drawing, worths, words):
    base = worths_in(words, drawing[0])
    return moved_spread(drawing, nought_guess(drawing, base), worths)


def lot_told(drawing, worths, words):
    lot = lot_in(words, drawing[0])
    weights = right_weights(drawing)
    # First what refuses: behind it each house has a weight.
    spread = spread_guess(drawing, weights, lot, worths)
    return [frac_total([frac_times(weights[house], worths[house]) for house in lot]), spread]


def blind_told(drawing):
    blind = blind_worths(drawing)
    if blind is None:
        return "none"
    return " ".join([str(house) for house, worth in enumerate(blind[0]) if worth[0] != 0])


def told_with(drawing, worths, word, words):
    # None where the word is none that numbers follow.
    if word == "share":
        return shown_fraction(share_told(drawing, words))
    if word == "pair":
        return shown_fraction(pair_told(drawing, words))
    if word == "base":
        return shown_fraction(base_told(drawing, worths, words))
    if word == "ask":
        return shown_list(lot_told(drawing, worths, words))
    return None


def told_alone(drawing, worths, word):
    if word == "mean":
        return shown_fraction(guess_mean(drawing, full_weights(drawing), worths))
    if word == "spread":
        return shown_fraction(guess_spread(drawing, full_weights(drawing), worths))
    if word == "whole":
        return shown_fraction(whole_of(worths))
    if word == "text":
        return shown_drawing(drawing).replace("\n", " ; ")
    if word == "blind":
        return blind_told(drawing)
    raise NoLine("no such word")


class Desk:
    def __init__(self):
        self.drawing = (1, [((1, 1), (0,))])
        self.worths = [(1, 1)]

    def tell(self, line):
        words = words_of(line)
        if words[0] in MAKING:
            return self.draw(words[0], words[1:])
        if words[0] == "worths":
            return self.take_worths(words[1:])
        if words[0] == "put":
            return self.put_worth(words[1:])
        told = told_with(self.drawing, self.worths, words[0], words[1:])
        if told is not None:
            return told
        check_count(words, 1)
        return told_alone(self.drawing, self.worths, words[0])

    def draw(self, word, words):
        # A refusal comes ahead of any change.
        drawing = made_drawing(word, shares_in(words))
        self.drawing = drawing
        self.worths = [(1, 1)] * drawing[0]
        return "lots " + str(len(drawing[1]))

    def take_worths(self, words):
        self.worths = worths_in(words, self.drawing[0])
        return "worths"

    def put_worth(self, words):
        check_count(words, 2)
        house = house_in(words[0], self.drawing[0])
        worth = fraction_in(words[1])
        self.worths = self.worths[:house] + [worth] + self.worths[house + 1:]
        return "put"
