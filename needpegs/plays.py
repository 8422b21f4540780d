"""Plays: items that a company carries out, with blocks among them."""

from needpegs.deeds import do_deed
from needpegs.errors import Broken, NoPeg, NoWalker, PegError
from needpegs.forms import has_form, is_deed

BLOCKS = ("held", "trial", "guarded")
TRIALS = ("keep", "paid")


def play(company, items):
    """Carries out items, one after another, and returns the tuple of their answers."""
    answers = []
    try:
        carry_out(company, items, None, answers)
    except (PegError, NoPeg, NoWalker):
        answers.append(("ended", len(answers)))
    return tuple(answers)


def carry_out(company, items, trial, answers):
    """Carries out items and appends their answers, until one is wrong; the trial is the innermost one, or None."""
    for at, item in enumerate(items):
        if not has_form(item) or (item[0] in TRIALS and trial is None):
            raise Broken(at)
        answers.append(answer(company, item, trial))


def answer(company, item, trial):
    """Carries out an item of a right form and returns its answer."""
    if is_deed(item):
        return do_deed(company, item)
    if item[0] in BLOCKS:
        return block_answer(company, item, trial)
    if item[0] in TRIALS:
        return trial_answer(item[0], trial)
    return company_answer(company, item)


def block_answer(company, item, trial):
    """Carries out an item that begins a block and returns the tuple of the answers within it."""
    block = block_of(company, item)
    inner = trial if item[0] == "held" else block
    answers = []
    try:
        with block:
            carry_out(company, item[-1], inner, answers)
    except (PegError, NoPeg, NoWalker):
        answers.append(("ended", len(answers)))
    return tuple(answers)


def block_of(company, item):
    """The object for the block that an item begins."""
    if item[0] == "trial":
        return company.trial()
    pegs = item[1]
    return company.held(*pegs) if item[0] == "held" else company.guarded(*pegs)


def trial_answer(word, trial):
    """What the innermost trial answers to a word."""
    return trial.keep() if word == "keep" else trial.paid


def company_answer(company, item):
    """What a company answers to an item that is no deed and begins no block."""
    word = item[0]
    if word == "undo":
        return company.undo()
    if word == "spent":
        return company.spent
    if word == "held_pegs":
        return company.held_pegs
    if word == "log":
        return tuple(company.log())
    if word == "stand":
        return company.stand(item[1]).pegs
    company.budget = item[1]
    return None


def within(block, call):
    """Calls a function within a block, with what the block gives, and returns what the function returned."""
    with block as given:
        return call(given)
