"""The errors that the functions of this package raise for their arguments."""


class ClauseError(ValueError):
    """What all errors of this package are derived from."""


class InvalidKinds(ClauseError):
    """An argument that has to be kinds and is none."""

    def __init__(self, value=None):
        super().__init__("these are no kinds")
        self.value = value


class InvalidKind(ClauseError):
    """An argument that has to be the name of one of the kinds and is none."""

    def __init__(self, value=None):
        super().__init__("this is no name of one of the kinds")
        self.value = value


class InvalidValue(ClauseError):
    """An argument that has to be a value of the kind and is none."""

    def __init__(self, value=None):
        super().__init__("this is no value of the kind")
        self.value = value


class InvalidSize(ClauseError):
    """A size that is no count."""

    def __init__(self, value=None):
        super().__init__("this size is no count")
        self.value = value


class InvalidNumber(ClauseError):
    """A number of a value that is no count."""

    def __init__(self, value=None):
        super().__init__("this number is no count")
        self.value = value


class InvalidPattern(ClauseError):
    """An argument that has to be a pattern of the kind and is none."""

    def __init__(self, value=None):
        super().__init__("this is no pattern of the kind")
        self.value = value


class InvalidClause(ClauseError):
    """An argument that has to be a clause and is none."""

    def __init__(self, value=None):
        super().__init__("this is no clause of the kind")
        self.value = value


class InvalidClauses(ClauseError):
    """An argument that has to be a list of clauses and is none."""

    def __init__(self, value=None):
        super().__init__("this is no list of clauses of the kind")
        self.value = value


class InvalidPosition(ClauseError):
    """A position that the function or method does not let."""

    def __init__(self, value=None):
        super().__init__("this is no position that can be taken here")
        self.value = value


class NothingToUndo(ClauseError):
    """There is no change that could be taken back."""
