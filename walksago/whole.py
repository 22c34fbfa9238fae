"""The desk: a web and a kept draw, asked by lines."""

from walksago.draws.backward import drawn_by
from walksago.errors import NoAsk
from walksago.kept import KeptDraw
from walksago.meets.ever import shortest_past
from walksago.meets.howlong import back_on_average
from walksago.moves.texts import is_name, rows_shown, web_in
from walksago.shares.chains import resting, table_of
from walksago.watched.few import fewest
from walksago.wrong.lopped import lopped_ahead

FIRST_WEB = (("a",), (("a", 1, ("a",)),))
LONGEST_PAST = 60
FARTHEST_BACK = 60
# What is solved for groups of states grows too fast to be told of more.
MOST_STATES = 5


def share_shown(share):
    """A fraction as a text."""
    above, below = share
    return str(above) if below == 1 else f"{above}/{below}"


def shares_shown(shares):
    """Fractions in one row."""
    return " ".join([share_shown(share) for share in shares])


def refuse_many(web):
    """Refuse webs of more states than can be reckoned with."""
    if len(web[0]) > MOST_STATES:
        raise NoAsk(f"this is told of at most {MOST_STATES} states")


def tell_show(kept):
    """The web's rows."""
    return rows_shown(kept.web)


def tell_past(kept):
    """The past in one row, or no row."""
    past = kept.past_now()
    return [" ".join(past)] if past else []


def tell_leads(kept):
    """Where the past leads each state."""
    return [" ".join(kept.leads_now())]


def tell_met(kept):
    """Where all meet, and by how many moves."""
    met = kept.met_now()
    return ["none" if met is None else f"{met[0]} {met[1]}"]


def tell_table(kept):
    """The shares from state to state."""
    return [shares_shown(row) for row in table_of(kept.web)]


def tell_rest(kept):
    """The resting shares; or NoRest."""
    return [shares_shown(resting(kept.web))]


def tell_shortest(kept):
    """The shortest past by which all meet."""
    past = shortest_past(kept.web)
    return ["never" if past is None else " ".join(past)]


def tell_average(kept):
    """How many moves back are needed on average; or NoAsk."""
    refuse_many(kept.web)
    average = back_on_average(kept.web)
    return ["never" if average is None else share_shown(average)]


def tell_lopped(kept):
    """The shares by moves from now on; or NoAsk."""
    refuse_many(kept.web)
    shares = lopped_ahead(kept.web)
    return ["never" if shares is None else shares_shown(shares)]


def tell_enough(kept):
    """The least set of states that is enough to watch."""
    return [" ".join(fewest(kept.web))]


TELLS = {
    "show": tell_show,
    "past": tell_past,
    "leads": tell_leads,
    "met": tell_met,
    "table": tell_table,
    "rest": tell_rest,
    "shortest": tell_shortest,
    "average": tell_average,
    "lopped": tell_lopped,
    "enough": tell_enough,
}


def is_far(word):
    """Whether a word is a number of moves back, in figures, without a nought ahead."""
    return word in [str(many) for many in range(FARTHEST_BACK + 1)]


class Desk:
    """A web and a kept draw, at first those of one state alone."""

    def __init__(self):
        self.kept = KeptDraw(FIRST_WEB)

    def ask(self, line):
        """What a line tells, a list of texts; or a refusal, and nothing changes."""
        word, blank, rest = line.partition(" ")
        if word == "web" and blank:
            self.kept = KeptDraw(web_in(rest.split(";")))
            return []
        if word in ("back", "now") and is_name(rest):
            self.put(word, rest)
            return []
        if word == "drawn" and is_far(rest):
            shares, left = drawn_by(self.kept.web, int(rest))
            return [shares_shown(shares), share_shown(left)]
        if line not in TELLS:
            raise NoAsk("there is no such line")
        tell = TELLS[line]
        return tell(self.kept)

    def put(self, word, name):
        """One move more, longest ago or now; or NoAsk, then NoName."""
        if len(self.kept.past_now()) >= LONGEST_PAST:
            raise NoAsk(f"the past has {LONGEST_PAST} moves")
        if word == "back":
            self.kept.put_back(name)
        else:
            self.kept.put_now(name)
