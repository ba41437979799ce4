"""Questions that find out which guess is right ([9.10], [9.11])."""

from anyworths.errors import CannotAnswer, TooMany
from anyworths.guessing import known_guesses
from anyworths.pools import counted
from anyworths.splits import coins_of

MOST_GUESSES = 5


class Found:
    """The questions and their answers, and the split that is left."""

    def __init__(self, asked, purses):
        self.asked = asked
        self.purses = purses

    def __eq__(self, other):
        return isinstance(other, Found) and self.asked == other.asked and self.purses == other.purses


def best_question(pool, worths, seens):
    """The question that parts the guesses best, or None if there is one guess ([9.10])."""
    return best_among(known_guesses(pool, worths, seens))


def best_among(guesses):
    """The first question with the least greater side, or None for one guess."""
    if len(guesses) == 1:
        return None
    questions = questions_of(guesses)
    sides = [greater_side(guesses, question) for question in questions]
    return questions[sides.index(min(sides))]


def questions_of(guesses):
    """All questions about the pool of the guesses, ascending."""
    kinds = counted(coins_of(guesses[0]))
    persons = range(len(guesses[0]))
    return [(person, coin, count) for person in persons for coin, many in kinds for count in range(1, many + 1)]


def is_answer(purses, question):
    """The answer to a question for a split."""
    person, coin, count = question
    return purses[person].count(coin) >= count


def greater_side(guesses, question):
    """How many guesses at most are left behind a question."""
    agreeing = len([purses for purses in guesses if is_answer(purses, question)])
    return max(agreeing, len(guesses) - agreeing)


def find_out(pool, worths, seens, answer):
    """Asks the best questions until one guess is left ([9.10])."""
    guesses = known_guesses(pool, worths, seens)
    asked = []
    while len(guesses) > 1:
        question = best_among(guesses)
        told = answer(question)
        if told is not True and told is not False:
            raise CannotAnswer(len(asked))
        asked.append((question, told))
        # The best question always parts unlike guesses, so some are left.
        guesses = [purses for purses in guesses if is_answer(purses, question) == told]
    return Found(tuple(asked), guesses[0])


def fewest_questions(pool, worths, seens):
    """How many questions always find the split now, if they are chosen best ([9.11])."""
    guesses = known_guesses(pool, worths, seens)
    if len(guesses) > MOST_GUESSES:
        raise TooMany(MOST_GUESSES)
    return fewest_for(guesses)


def fewest_for(guesses):
    """What fewest_questions returns for these guesses."""
    if len(guesses) == 1:
        return 0
    needed = []
    for question in questions_of(guesses):
        agreeing = [purses for purses in guesses if is_answer(purses, question)]
        others = [purses for purses in guesses if not is_answer(purses, question)]
        if len(agreeing) > 0 and len(others) > 0:
            needed.append(1 + max(fewest_for(agreeing), fewest_for(others)))
    return min(needed)
