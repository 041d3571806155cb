"""Reading the texts of webs and plans."""

from everframe.plans import Plan
from everframe.webs import Web


def read_web(text):
    """The web with this text."""
    return Web.read(text)


def read_plan(text):
    """The plan with this text."""
    return Plan.read(text)
