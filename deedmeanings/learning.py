"""A flow told back from answers: whether rows are its rows, and rows that other flows get wrong.

A WORD is a tuple of symbols: a beginning of rows but for its last truths. Words are of one CLASS as long as
no answer tells them apart; the first word of each class stands for the others. What tells words apart are
ENDINGS, told by the numbers of truths and deeds by turns, with truths first and last.
"""

from deedmeanings.charts import Chart, machine_of
from deedmeanings.flows import Flow
from deedmeanings.names import mask_of, members
from deedmeanings.rows import row_by_numbers, row_told

# Rows with more deeds are not asked for if it can be helped.
LONGEST = 300


class Learner:
    """What is known of a flow of a book from answers.

    The KEY of a word tells the mask of the truths with which it is a row, and then, as long as there is an
    ending for the key so far, whether it is a row with this ending. Words of one key are of one class.
    """

    def __init__(self, book, ask):
        self._book = book
        self._width = len(book.deeds())
        self._asking = ask
        self._answers = {}
        self._firsts = []
        self._keys = []
        self._classes = {}
        self._endings = {}
        self._leads = {}
        self.look_up(self.class_of(()))

    def may_follow(self, word):
        """The mask of the truths that may stand behind a word."""
        return self._book.steps()[word[-1]] if word else (1 << len(self._book.truths())) - 1

    def is_told(self, word, ending):
        """Whether a word with an ending is a row of the flow that is to be found."""
        if not self.may_follow(word) >> ending[0] & 1:
            return False
        row = tuple([number for symbol in word for number in divmod(symbol, self._width)]) + tuple(ending)
        if row not in self._answers:
            ask = self._asking
            self._answers[row] = bool(ask(row_told(self._book, row)))
        return self._answers[row]

    def class_of(self, word):
        """The class of a word; it is a new one if there is none for its key."""
        ends = mask_of([rank for rank in members(self.may_follow(word)) if self.is_told(word, (rank,))])
        key = (ends,)
        while key in self._endings:
            key = key + (self.is_told(word, self._endings[key]),)
        if key not in self._classes:
            self._classes[key] = len(self._firsts)
            self._firsts.append(word)
            self._keys.append(key)
        return self._classes[key]

    def look_up(self, start):
        """Finds where the first words from a class on lead, also those of classes that are found by this."""
        steps = self._book.steps()
        while start < len(self._firsts):
            first = self._firsts[start]
            for rank in members(self.may_follow(first)):
                for symbol in range(rank * self._width, (rank + 1) * self._width):
                    if steps[symbol]:
                        self._leads[(start, symbol)] = self.class_of(first + (symbol,))
            start += 1

    def guess(self):
        """The flow that is thought to be the one."""
        symbols = range(len(self._book.steps()))
        nexts = [[self._leads.get((number, symbol), -1) for symbol in symbols] for number in range(len(self._firsts))]
        return Flow(self._book, machine_of(Chart(self._width, [key[0] for key in self._keys], nexts)))

    def path(self, row):
        """The list of the classes by which a row is thought to lead, -1 where nothing is led to any more."""
        found = [0]
        for at in range(0, len(row) - 1, 2):
            found.append(self._leads.get((found[-1], row[at] * self._width + row[at + 1]), -1))
        return found

    def is_guessed(self, row):
        """Whether a row is thought to be one of the flow."""
        last = self.path(row)[-1]
        return last >= 0 and self._keys[last][0] >> row[-1] & 1 == 1

    def learn(self, row):
        """Tells words apart by a row of which the guess is wrong, again and again until it is right."""
        row = self.without_rings(row)
        wrong = self.is_guessed(row)
        self.learn_once(row, wrong)
        while self.is_guessed(row) == wrong and len(row) // 2 <= self.most_deeds():
            self.learn_once(row, wrong)

    def learn_once(self, row, wrong):
        """Tells two words apart that were thought to be of one class, by a row and a wrong guess of it."""
        path = self.path(row)
        for at in reversed(range(len(path) - 1)):
            # With the first truths alone ahead of it the whole row is told otherwise than was guessed.
            now = not wrong if at == 0 else self.is_row_behind(path[at], row[2 * at:])
            if now != wrong:
                symbol = row[2 * at] * self._width + row[2 * at + 1]
                self.tell_apart(path[at + 1], self._firsts[path[at]] + (symbol,), row[2 * at + 2:])
                return

    def is_row_behind(self, number, ending):
        """Whether the first word of a class with an ending is a row."""
        return number >= 0 and self.is_told(self._firsts[number], ending)

    def tell_apart(self, number, word, ending):
        """Tells a word apart from those of a class by an ending."""
        key = self._keys[number]
        self._endings[key] = ending
        self._keys[number] = key + (self.is_told(self._firsts[number], ending),)
        self._classes[self._keys[number]] = number
        start = len(self._firsts)
        self.class_of(word)
        again = [pair for pair in self._leads if self._leads[pair] == number]
        for pair in again:
            self._leads[pair] = self.class_of(self._firsts[pair[0]] + (pair[1],))
        self.look_up(start)

    def most_deeds(self):
        """The number of deeds up to which each ending of a row may be asked for behind each first word."""
        return LONGEST - max([len(first) for first in self._firsts])

    def without_rings(self, row):
        """A row of which the guess is wrong, too, that has so few deeds that all may be asked, if there is one."""
        shorter = row
        while shorter is not None and len(shorter) // 2 > self.most_deeds():
            row = shorter
            shorter = self.without_ring(row)
        return row if shorter is None else shorter

    def without_ring(self, row):
        """A shorter row of which the guess is wrong, too, None if none was found."""
        path = self.path(row)
        for at in range(len(path)):
            for end in reversed(range(at + 1, len(path))):
                shorter = row[:2 * at] + row[2 * end:]
                if path[at] == path[end] and row[2 * at] == row[2 * end] and len(shorter) // 2 <= LONGEST:
                    if self.is_told((), shorter) != self.is_guessed(shorter):
                        return shorter
        return None


def told_back(book, ask, differ):
    """The flow of a book of which only answers are known."""
    learner = Learner(book, ask)
    flow = learner.guess()
    row = differ(flow)
    while row is not None:
        learner.learn(row_by_numbers(book, row))
        flow = learner.guess()
        row = differ(flow)
    return flow
