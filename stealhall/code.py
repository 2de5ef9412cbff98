"""The code of a work: its rows one behind the other, with places to go on at instead of rows within rows."""


def code_of(work):
    """Tell the code of a work."""
    return rows_code(work[4], 0) + [("give", ("number", 0))]


def rows_code(rows, place):
    """Tell the code of rows that begins at that place."""
    code = []
    for row in rows:
        behind = place + len(code)
        code.extend(if_code(row, behind) if row[0] == "if" else [row])
    return code


def if_code(row, place):
    """Tell the code of an if that begins at that place."""
    word, condition, first_rows, second_rows = row
    first = rows_code(first_rows, place + 1)
    behind = place + 1 + len(first)
    if not second_rows:
        return [(word, condition, behind)] + first
    # The jump takes one place itself.
    behind += 1
    second = rows_code(second_rows, behind)
    return [(word, condition, behind)] + first + [("jump", behind + len(second))] + second
