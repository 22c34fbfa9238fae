"""A draw that is kept: a web, and a past that is told further and further back."""

from walksago.moves.done import led_by, met_by, ways_of


class KeptDraw:
    """A web and a past, at first none."""

    def __init__(self, web):
        self.web = web
        self.past = ()

    def put_back(self, name):
        """One move more, ahead of all; or NoName, and nothing changes."""
        self.keep((name, *self.past))

    def put_now(self, name):
        """One move more at the end, now; or NoName, and nothing changes."""
        self.keep((*self.past, name))

    def keep(self, past):
        """Take another past; or NoName, and nothing changes."""
        ways_of(self.web, past)
        self.past = past

    def past_now(self):
        """The past."""
        return self.past

    def leads_now(self):
        """Where the past leads each state."""
        return led_by(self.web, self.past)

    def met_now(self):
        """Where all meet by the past, and how many of its last moves are enough; or None."""
        return met_by(self.web, self.past)
