"""A console: commands and their answers as texts."""

from twospeeds.errors import InvalidCommand
from twospeeds.session import Session
from twospeeds.texts import format_program

NEWLINE = " | "
BEFORE_EXPRESSION = " : "
LONGEST_INTEGER = 40
# That is 10^10.
LARGEST_ROOT = 10000000000
LARGEST_COUNT = 40
LARGEST_DEPTH = 8


class Console:
    """Runs commands on the session of the program that was loaded last."""

    def __init__(self):
        self.session = None

    def execute(self, line):
        """Run one command and return its answer."""
        word, space, argument = line.partition(" ")
        if word == "load" and space == " ":
            self.session = Session(argument.replace(NEWLINE, "\n"))
            return "ok"
        if self.session is None:
            raise InvalidCommand("no program is loaded")
        if space == "":
            return answer(self.session, word)
        return answer_with(self.session, word, argument)


def answer(session, word):
    """Run a command without an argument and return its answer."""
    if word == "show":
        return format_program(session.program()).replace("\n", NEWLINE)
    if word == "state":
        return state_text(session, session.state())
    if word == "done":
        return str(session.acts_done())
    if word == "lasting":
        return ", ".join([state_text(session, state) for state in session.lasting_states()])
    if word == "shares":
        return ", ".join([f"{state_text(session, state)}: {number_text(share)}" for state, share in session.shares()])
    if word == "mark":
        return str(session.mark())
    if word == "history":
        return ", ".join([f"{done}: {reason}" for done, reason in session.history()])
    raise InvalidCommand("no such command without an argument")


def answer_with(session, word, argument):
    """Run a command with an argument and return its answer."""
    if word == "at":
        return state_text(session, session.state_after(natural_of(argument)))
    if word == "next":
        found = session.next_act(argument)
        return "never" if found is None else str(found)
    if word == "regions":
        count, text = count_and_text(argument, 1, LARGEST_COUNT)
        return parts_text(session.regions(text, count))
    if word == "verdicts":
        depth, text = count_and_text(argument, 0, LARGEST_DEPTH)
        return parts_text(session.verdicts(text, depth))
    change(session, word, argument)
    return state_text(session, session.state())


def change(session, word, argument):
    """Run a command that is answered with the state behind it."""
    if word == "run":
        session.run(natural_of(argument))
    elif word == "set":
        name, _, value = argument.partition(" ")
        session.set_value(name, integer_of(value))
    elif word == "replace":
        session.replace_program(argument.replace(NEWLINE, "\n"))
    elif word == "ratio":
        session.change_ratio(ratio_of(argument))
    elif word == "back":
        session.back(natural_of(argument))
    else:
        raise InvalidCommand("no such command with an argument")


def natural_of(text):
    """Return the number that a NUMBER stands for."""
    if not 1 <= len(text) <= LONGEST_INTEGER or (text[0] == "0" and text != "0"):
        raise InvalidCommand("no number of this form")
    # isdigit would take other signs than these, too.
    if any([sign < "0" or sign > "9" for sign in text]):
        raise InvalidCommand("no number of this form")
    return int(text)


def integer_of(text):
    """Return the number that an INTEGER stands for."""
    if not text.startswith("-"):
        return natural_of(text)
    size = natural_of(text[1:])
    if size == 0:
        raise InvalidCommand("a 0 has no sign")
    return -size


def ratio_of(argument):
    """Return the four integers of a ratio as a tuple."""
    found = tuple([integer_of(part) for part in argument.split(" ")])
    if len(found) != 4 or found[2] > LARGEST_ROOT:
        raise InvalidCommand("not four integers with a third one that is small enough")
    return found


def count_and_text(argument, least, most):
    """Return the number, within its limits, and the expression of an argument."""
    count, between, text = argument.partition(BEFORE_EXPRESSION)
    found = natural_of(count)
    if between == "" or not least <= found <= most:
        raise InvalidCommand("no number within the limits in front of an expression")
    return found, text


def state_text(session, state):
    """Return the text of a state."""
    return " ".join([f"{variable[0]}={value}" for variable, value in zip(session.program()[0], state)])


def number_text(one):
    """Return the text of a number."""
    return " ".join([str(part) for part in one])


def parts_text(parts):
    """Return the text of regions or verdicts."""
    return ", ".join([f"{border_text(low)} to {border_text(high)}: {said_text(said)}" for low, high, said in parts])


def border_text(border):
    """Return the text of a border."""
    return "none" if border is None else f"{border[0]}/{border[3]}"


def said_text(said):
    """Return the text of what holds in a region or a cell."""
    return "never" if said is None else str(said)
