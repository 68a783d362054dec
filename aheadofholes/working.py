"""What a form comes to when it is worked out."""
from aheadofholes.editions import ROWS, VERBS, key_of
from aheadofholes.heads import match
from aheadofholes.houses import answers
from aheadofholes.trees import is_hole, taken_off, trees_from_right

MOST_NAMES = 2000
MOST_DEEP = 200


def worked(book, form, most):
    """("told", tree, asks); or ("none", form, asks), ("many", form, asks), ("great", form, asks) of where it ends."""
    work = Work(book, most)
    work.ask(form)
    while work.end is None:
        work.go_on()
    return (*work.end, tuple(work.asks))


class Answer:
    """An answer that is being made of a row, for a form.

    left has the answer's trees that aren't made yet, the last one being the next; made has what was made so far and
    doesn't stand in its tree yet.
    """

    def __init__(self, form, row):
        head, answer = row
        self.form = form
        self.put = {hole: tree for hole, tree in match(head, form)}
        self.left = trees_from_right(answer)
        self.made = []


class Work:
    """All that is being worked out: answers, each for an ask within the one ahead.

    asks has what was answered so far; end is what is told once all is worked out or it can't go on, or None.
    """

    def __init__(self, book, most):
        self.asks = []
        self.end = None
        self._book = book
        self._most = most
        self._rows = {key_of(edition): edition[ROWS] for edition in book}
        self._verbs = {verb[0]: True for edition in book for verb in edition[VERBS]}
        self._answers = []

    def ask(self, form):
        """Begins the answer of a form that is due, or ends there."""
        if is_great(form):
            self.end = ("great", form)
            return
        found = answers(self._book, form)
        if found is None:
            self.end = ("none", form)
        elif len(self.asks) >= self._most:
            self.end = ("many", form)
        else:
            key, number = found
            self.asks.append((form, key, number))
            self._answers.append(Answer(form, self._rows[key][number]))

    def go_on(self):
        """Makes the next tree of the innermost answer, or puts what it came to in its place."""
        answer = self._answers[-1]
        if answer.left:
            self._make(answer, answer.left.pop())
        elif is_great(answer.made[0]):
            self.end = ("great", answer.form)
        else:
            self._answers.pop()
            self._put_in_place(answer.made[0])

    def _make(self, answer, tree):
        if is_hole(tree):
            # What stands for a hole has words alone: nothing in it is an ask.
            answer.made.append(answer.put[tree])
            return
        made = (tree[0], *taken_off(answer.made, len(tree) - 1))
        if made[0] in self._verbs:
            self.ask(made)
        else:
            answer.made.append(made)

    def _put_in_place(self, tree):
        if self._answers:
            self._answers[-1].made.append(tree)
        else:
            self.end = ("told", tree)


def is_great(form):
    """Whether a form has more names, or is nested deeper, than what is worked on."""
    many = 0
    left = [(form, 1)]
    while left:
        tree, deep = left.pop()
        many += 1
        if many > MOST_NAMES or deep > MOST_DEEP:
            return True
        left.extend([(part, deep + 1) for part in tree[1:]])
    return False
