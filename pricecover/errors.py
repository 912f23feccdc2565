"""The refusals of the program, each a class of its own under CoverError."""


class CoverError(ValueError):
    pass


class NoTerm(CoverError):
    pass


class NoBox(CoverError):
    pass


class BadCover(CoverError):
    pass


class NoCover(CoverError):
    pass


class BadRow(CoverError):
    def __init__(self, row):
        CoverError.__init__(self, row)
        self.row = row


class NoValue(CoverError):
    def __init__(self, word):
        CoverError.__init__(self, word)
        self.word = word


class Twice(CoverError):
    def __init__(self, word):
        CoverError.__init__(self, word)
        self.word = word


class NoName(CoverError):
    def __init__(self, word):
        CoverError.__init__(self, word)
        self.word = word


class BadShape(CoverError):
    def __init__(self, word):
        CoverError.__init__(self, word)
        self.word = word


class BadDeed(CoverError):
    def __init__(self, word):
        CoverError.__init__(self, word)
        self.word = word


class Unsound(CoverError):
    def __init__(self, word, worths):
        # A copy, so that a later change of the dict handed in does not reach the error.
        kept = dict(worths)
        CoverError.__init__(self, word, kept)
        self.word = word
        self.worths = kept
