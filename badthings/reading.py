"""Reading the one list in which the calls stand one behind another."""

# For each call, by its place: how many whole numbers it has, and how many rows behind them.
FORMS = (
    (0, 0),  # clear
    (3, 0),  # thing
    (2, 2),  # step
    (1, 0),  # release
    (1, 0),  # value
    (2, 0),  # bad
    (1, 0),  # good
    (0, 0),  # recall
    (0, 0),  # quick
    (1, 0),  # witness
    (1, 0),  # spread
    (1, 0),  # why
    (0, 0),  # cut
    (2, 0),  # again
    (1, 0),  # as was
    (0, 1),  # replay
    (0, 0),  # uses
    (1, 0),  # looks
    (0, 0),  # counts
)


class Call:
    def __init__(self, place, arguments, rows):
        self.place = place
        self.arguments = arguments
        self.rows = rows


def read_calls(told):
    calls = []
    at = 0
    while at < len(told):
        place = told[at]
        form = FORMS[place]
        at += 1
        arguments = told[at:at + form[0]]
        at += form[0]
        rows = []
        while len(rows) < form[1]:
            size = told[at]
            rows.append(told[at + 1:at + 1 + size])
            at += 1 + size
        calls.append(Call(place, arguments, rows))
    return calls
