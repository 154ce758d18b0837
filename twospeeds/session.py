"""Sessions: a run whose program, ratio and state may be changed on the way, and what is ahead of it."""

from twospeeds.errors import Incompatible, InvalidNumber, NoMark, NotReached, NoVariable, OutOfRange
from twospeeds.machine import all_states, index_of, maps_of, start_state, states_where
from twospeeds.numbers import is_number, sign
from twospeeds.patterns import lasting, next_act
from twospeeds.quotients import whole
from twospeeds.regions import regions, verdicts
from twospeeds.runs import state_after
from twospeeds.shares import shares
from twospeeds.texts import parse_program


class Segment:
    """The part of a history from one change to the next."""

    def __init__(self, begin, reason, form, speeds, first):
        # How many acts are done in front of it.
        self.begin = begin
        self.reason = reason
        self.form = form
        self.speeds = speeds
        self.maps = maps_of(form)
        # The index of its first state.
        self.first = first


class Session:
    """A run, its history and its marks."""

    def __init__(self, text):
        form = parse_program(text)
        # Segments are never changed and the tuples only replaced, so marks may keep them.
        self.segments = (Segment(0, "start", form, whole(1), index_of(form, start_state(form))),)
        self.done = 0
        self.marks = ()

    def program(self):
        """Return the present program."""
        return self.segments[-1].form

    def ratio(self):
        """Return the present ratio."""
        return self.segments[-1].speeds

    def acts_done(self):
        """Return the number of all acts done so far."""
        return self.done

    def state(self):
        """Return the present state."""
        return self.state_after(self.done)

    def run(self, count):
        """Do some acts more and return the state."""
        self.done += count
        return self.state()

    def state_after(self, count):
        """Return the state behind the first acts of the history."""
        if count > self.done:
            raise NotReached(f"only {self.done} acts are done")
        part = [segment for segment in self.segments if segment.begin <= count][-1]
        return all_states(part.form)[index_behind(part, count)]

    def set_value(self, name, value):
        """Give a variable a value and return the state."""
        variables = self.program()[0]
        names = [variable[0] for variable in variables]
        if name not in names:
            raise NoVariable("there is no such variable")
        at = names.index(name)
        if not is_integer(value) or not variables[at][1] <= value <= variables[at][2]:
            raise OutOfRange(f"no integer of the range of {name}")
        state = list(self.state())
        state[at] = value
        self.begin_segment(f"set {name} {value}", self.program(), self.ratio(), tuple(state))
        return self.state()

    def replace_program(self, text):
        """Go on with another program from the present state."""
        form = parse_program(text)
        if ranges_of(form) != ranges_of(self.program()):
            raise Incompatible("the variables are not those of the present program")
        self.begin_segment("program", form, self.ratio(), self.state())

    def change_ratio(self, ratio):
        """Go on with another ratio."""
        if not is_number(ratio) or sign(ratio) != 1:
            raise InvalidNumber("no number above 0")
        self.begin_segment("ratio", self.program(), ratio, self.state())

    def begin_segment(self, reason, form, speeds, state):
        """Begin a segment at the present moment."""
        earlier = self.segments
        if earlier[-1].begin == self.done:
            reason = earlier[-1].reason + "; " + reason
            earlier = earlier[:-1]
        self.segments = earlier + (Segment(self.done, reason, form, speeds, index_of(form, state)),)

    def next_act(self, text):
        """Return the least number of all acts, from the present one on, behind which an expression holds, or None."""
        part = self.segments[-1]
        targets = states_where(part.form, text)
        found = next_act(part.speeds, part.maps, part.first, self.done - part.begin, targets)
        return None if found is None else part.begin + found

    def lasting_states(self):
        """Return the ascending list of the states that stand again and again if the run goes on."""
        part = self.segments[-1]
        states = all_states(part.form)
        return [states[index] for index in lasting(part.speeds, part.maps, part.first)]

    def shares(self):
        """Return the list of the pairs (state, share) of the run since the last change, for shares above 0."""
        part = self.segments[-1]
        found = shares(part.speeds, part.maps, part.first)
        return [(state, share) for state, share in zip(all_states(part.form), found) if sign(share) == 1]

    def regions(self, text, count):
        """Return the regions of an expression from the present state."""
        part = self.segments[-1]
        targets = states_where(part.form, text)
        return regions(part.maps, index_behind(part, self.done), targets, count)

    def verdicts(self, text, depth):
        """Return the verdicts of an expression from the present state."""
        part = self.segments[-1]
        targets = states_where(part.form, text)
        return verdicts(part.maps, index_behind(part, self.done), targets, depth)

    def history(self):
        """Return the list of the pairs (acts done, reason) of all segments."""
        return [(segment.begin, segment.reason) for segment in self.segments]

    def mark(self):
        """Mark the present moment and return the number of the mark."""
        self.marks = self.marks + ((self.segments, self.done),)
        return len(self.marks) - 1

    def back(self, number):
        """Make the moment of a mark the present one, and remove all later marks."""
        if not is_integer(number) or not 0 <= number < len(self.marks):
            raise NoMark("there is no such mark")
        self.segments, self.done = self.marks[number]
        self.marks = self.marks[:number + 1]


def index_behind(segment, count):
    """Return the index of the state behind the first acts of the history, count of them, in a segment."""
    return state_after(segment.speeds, segment.maps, segment.first, count - segment.begin)


def is_integer(thing):
    """Return whether any object is an integer."""
    return isinstance(thing, int) and not isinstance(thing, bool)


def ranges_of(form):
    """Return the names and ranges of a program's variables, in order."""
    return [(name, low, high) for name, low, high, _ in form[0]]
