"""A bench: a web that deeds change, which can be taken back and done again."""

from viewkin.commons import alike
from viewkin.drafts import Draft
from viewkin.errors import BadDeed, NothingLeft


class State:
    """What a bench is at some time; it never changes.

    now is the web, done the deeds that stand, backs what takes each of them back, and undone
    the deeds that can be done again, the next one last.
    """

    def __init__(self, now, done, backs, undone):
        self.now = now
        self.done = done
        self.backs = backs
        self.undone = undone


class Kept:
    """The state of a bench when a block began, and what was kept before it."""

    def __init__(self, state, before):
        self.state = state
        self.before = before


class Trial:
    """A bench that is to be what it was, once a block ends; blocks may stand in each other."""

    def __init__(self, bench):
        self.bench = bench
        self.kept = None

    def __enter__(self):
        self.kept = Kept(self.bench.state, self.kept)
        return self.bench

    def __exit__(self, kind, value, trace):
        self.bench.state = self.kept.state
        self.kept = self.kept.before


class Bench:
    """A web that deeds change."""

    def __init__(self, web):
        self.first = web
        self.state = State(web, (), (), ())

    @property
    def web(self):
        """The web as it is now."""
        return self.state.now

    def __len__(self):
        return len(self.state.done)

    def __eq__(self, other):
        return isinstance(other, Bench) and self.first == other.first and self.state.done == other.state.done

    def deeds(self):
        """A tuple of the deeds that stand."""
        return self.state.done

    def do(self, deed):
        """Does a deed; the new web."""
        return self.do_all((deed,))

    def do_all(self, deeds):
        """Does the deeds of a list or tuple, all or none; the new web."""
        if not isinstance(deeds, (list, tuple)):
            raise BadDeed(None)
        state = self.state
        draft = Draft(state.now)
        backs = []
        for number, deed in enumerate(deeds):
            if not draft.is_deed(deed):
                raise BadDeed(number)
            backs.append(draft.back_of(deed))
            draft.carry_out(deed)
        if len(backs) > 0:
            self.state = State(draft.made(), state.done + tuple(deeds), state.backs + tuple(backs), ())
        return self.state.now

    def undo(self):
        """Takes back the last deed that stands; this deed."""
        state = self.state
        if len(state.done) == 0:
            raise NothingLeft()
        draft = Draft(state.now)
        draft.carry_out(state.backs[-1])
        deed = state.done[-1]
        self.state = State(draft.made(), state.done[:-1], state.backs[:-1], state.undone + (deed,))
        return deed

    def redo(self):
        """Does the last deed again that was taken back; this deed."""
        state = self.state
        if len(state.undone) == 0:
            raise NothingLeft()
        deed = state.undone[-1]
        draft = Draft(state.now)
        back = draft.back_of(deed)
        draft.carry_out(deed)
        self.state = State(draft.made(), state.done + (deed,), state.backs + (back,), state.undone[:-1])
        return deed

    def is_alike(self):
        """Whether the web as it is now and the first one look alike."""
        return alike(self.state.now, self.first)

    def trial(self):
        """What a with statement takes: behind its block the bench is what it was ahead of it."""
        return Trial(self)


def tried(bench, function):
    """What function(bench) returns, which is called in a trial."""
    with bench.trial() as same:
        result = function(same)
    return result
