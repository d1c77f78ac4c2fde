"""Answers of readers, compared by `==`."""


class AnswerBook:
    """Gives each answer a number, and equal answers the same number."""

    def __init__(self):
        self.numbers = {}

    def number(self, answer):
        """Returns the number of an answer; a list stands for the tuple of its items."""
        key = answer
        if isinstance(answer, (list, tuple)):
            # Numbers of the items keep the key flat, however deep the answer is.
            parts = []
            for part in answer:
                parts.append(self.number(part))
            key = tuple(parts)
        if key not in self.numbers:
            self.numbers[key] = len(self.numbers)
        return self.numbers[key]


def wished_states(reader, wished):
    """Returns, for each state of the reader, whether it has no name left and its answer is a wished one."""
    book = AnswerBook()
    numbers = {book.number(answer): True for answer in wished}
    return [left == 0 and book.number(answer) in numbers for left, answer in zip(reader.lefts, reader.answers)]
