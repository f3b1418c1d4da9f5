"""What hangs on what: the steps that hang on what is bad, and the rows that lead to them."""

from badthings.day import bad_uses, steps_looked_at


def steps_with_bad_uses(day):
    """As the keys of a dict."""
    used = {}
    for use in bad_uses(day):
        used[use.step] = True
    return used


def hanging_steps(day):
    """The steps that hang on what is bad, rising, as the keys of a dict."""
    hanging = {}
    used = steps_with_bad_uses(day)
    for k, step in enumerate(day.steps):
        reached = k in used or any([j in hanging for j in steps_looked_at(step)])
        if reached and k not in day.run_again:
            hanging[k] = True
    return hanging


def length_then_steps(row):
    return (len(row), row)


def shortest_rows(day):
    """For each step that has one its shortest row: of several, the one with the lesser step where they differ."""
    rows = {}
    used = steps_with_bad_uses(day)
    for k, step in enumerate(day.steps):
        if k in used:
            rows[k] = [k]
        elif k not in day.run_again:
            # Rows to k end alike, so the best one goes through the best row to a step that k looks at.
            ahead = [rows[j] for j in steps_looked_at(step) if j in rows]
            if len(ahead) > 0:
                rows[k] = min(ahead, key=length_then_steps) + [k]
    return rows
