"""Goes over one row's text from left to right."""

from asktally.errors import NoText

WORD_ENDS = " ()"


class Scan:
    def __init__(self, text, row, most_within, most_parts):
        self.text = text
        self.row = row
        self.most_within = most_within
        self.most_parts = most_parts
        self.place = 0
        self.parts = 0

    # Asked ahead of each part, so that a text of any depth is refused before the calls grow deep.
    def enter(self, within):
        self.parts = self.parts + 1
        if within > self.most_within or self.parts > self.most_parts:
            raise NoText(self.row)

    def sees(self, signs):
        return self.text.startswith(signs, self.place)

    def take(self, signs):
        if not self.sees(signs):
            raise NoText(self.row)
        self.place = self.place + len(signs)

    def word(self):
        start = self.place
        while self.place < len(self.text) and self.text[self.place] not in WORD_ENDS:
            self.place = self.place + 1
        return self.text[start:self.place]

    def finish(self):
        if self.place != len(self.text):
            raise NoText(self.row)
