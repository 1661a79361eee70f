"""Belongings: rows that have all own rows and that no deed leads out of."""

from shapefree.points import deed_tables, led_by, own_rows


def breach(shape, points, rows):
    """None where the rows are a belonging, else the first by which they are none."""
    for k in range(1, len(rows)):
        if not rows[k - 1] < rows[k]:
            return ("order", k)
    known = dict([(row, True) for row in rows])
    for k, row in enumerate(own_rows(shape, points)):
        if row not in known:
            return ("own", k)
    for d, places in shape[1]:
        out = first_out(deed_tables(shape, points, d), places, rows, known)
        if out is not None:
            return ("deed", d, out)
    return None


def first_out(tables, places, rows, known):
    """The first of the rows, as many as places, that a deed's tables lead out of what is known, or None."""
    for row in rows:
        led = led_by(tables, row)
        if places > 1:
            rest = first_out(led, places - 1, rows, known)
            if rest is not None:
                return (row,) + rest
        elif tuple(led) not in known:
            return (row,)
    return None
