"""What the functions refuse with: each class stands straight under StepError."""


class StepError(ValueError):
    """Something was refused."""


class NoSteps(StepError):
    """These are no steps."""


class NoPair(StepError):
    """These are no two steps."""


class NoPoint(StepError):
    """This is no point, or one of another width."""


class NoNumber(StepError):
    """This is no whole number as it is asked for."""


class NoMoves(StepError):
    """These are no moves, or no folds."""


class NoShape(StepError):
    """This is no shape."""


class NoKeeper(StepError):
    """This is no keeper of the pair."""


class NoThree(StepError):
    """These are no three steps."""


class NoFour(StepError):
    """This is no four of the steps."""


class NoPart(StepError):
    """The one grid is no part of the other one."""


class NoText(StepError):
    """This is no text of steps."""


class NoLine(StepError):
    """This is no line that a desk is told."""
