"""All errors of the package, under the one base class MailError."""


class MailError(ValueError):
    """The base class of all errors."""


class BadLetter(MailError):
    """A text is no letter, or lines are no coding; line 0 is the whole."""

    def __init__(self, line, reason):
        super().__init__(f"line {line}: {reason}")
        self.line = line
        self.reason = reason


class BadQuery(MailError):
    """A text is no query; place is the number of a word, 0 for the whole."""

    def __init__(self, place, reason):
        super().__init__(f"word {place}: {reason}")
        self.place = place
        self.reason = reason


class BadFilter(MailError):
    """A text is no filter; line 0 is the whole."""

    def __init__(self, line, reason):
        super().__init__(f"line {line}: {reason}")
        self.line = line
        self.reason = reason


class BadText(MailError):
    """A text or another argument does not fit, or names nothing."""

    def __init__(self, reason):
        super().__init__(f"{reason}")
        self.reason = reason


class BadPlain(MailError):
    """A text is no plain value; place is that of the first wrong sign."""

    def __init__(self, place):
        super().__init__(f"sign {place}")
        self.place = place


class BadHouse(MailError):
    """A house cannot be made."""

    def __init__(self, reason):
        super().__init__(f"{reason}")
        self.reason = reason


class BadLine(MailError):
    """A line between houses or devices is not as the call needs it."""

    def __init__(self, reason):
        super().__init__(f"{reason}")
        self.reason = reason


class BadTurn(MailError):
    """A turn is beyond its bounds, or not behind the one before."""


class BadDeed(MailError):
    """A deed cannot be done."""

    def __init__(self, reason):
        super().__init__(f"{reason}")
        self.reason = reason
