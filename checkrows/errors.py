"""The refusals, each directly under CheckError so that catching one never catches another."""


class CheckError(ValueError):
    """Any refusal."""


class NoRow(CheckError):
    """What should be a row is none."""


class NoNumber(CheckError):
    """There is no such number here."""


class NoFit(CheckError):
    """Things that are right by themselves do not fit together."""


class NoDivisor(CheckError):
    """What should divide is nothing that divides."""


class NoStyle(CheckError):
    """What should be a style is none."""


class NoSheet(CheckError):
    """What should be a sheet is none."""


class NoPlace(CheckError):
    """There is no such place in the row."""


class NoBack(CheckError):
    """There is no deed to take back or to do again."""


class NoText(CheckError):
    """What should be a text of a told form is none."""


class NoWord(CheckError):
    """What is said is nothing that is understood."""
