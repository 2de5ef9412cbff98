"""How works and expressions are written."""

BLANKS = "  "

# A comparison binds least and a leaf, which is no key here, binds most.
BINDING = {"<": 1, "==": 1, "+": 2, "-": 2, "*": 3}
COMPARISON_BINDING = 1
LEAF_BINDING = 4


def show_expression(tree):
    """Tell the text of an expression, with brackets only where they are wanted."""
    if tree[0] == "number":
        return str(tree[1])
    if tree[0] == "name":
        return tree[1]
    sign, left, right = tree
    return f"{show_left(left, sign)} {sign} {show_right(right, sign)}"


def binding_of(tree):
    return BINDING.get(tree[0], LEAF_BINDING)


def show_left(part, sign):
    """Tell the text of the part to the left of a sign."""
    binding = binding_of(part)
    # What stands left goes first anyhow, so an equal binding needs no brackets; only a comparison always has them.
    return show_part(part, binding < BINDING[sign] or binding == COMPARISON_BINDING)


def show_right(part, sign):
    """Tell the text of the part to the right of a sign."""
    return show_part(part, binding_of(part) <= BINDING[sign])


def show_part(part, in_brackets):
    text = show_expression(part)
    return f"({text})" if in_brackets else text


def show_work(work, *, depth=0):
    """Tell the text of a work, each line so many times two blanks further in."""
    word, name, names, room, rows = work
    head = f"{BLANKS * depth}{word} {name}({', '.join(names)}) room {room}"
    return "\n".join([head] + rows_lines(rows, depth + 1))


def rows_lines(rows, depth):
    """Tell the lines of rows that stand so many times two blanks in."""
    lines = []
    for row in rows:
        lines.extend(row_lines(row, depth))
    return lines


def row_lines(row, depth):
    if row[0] == "if":
        return if_lines(row, depth)
    return [BLANKS * depth + show_row(row)]


def if_lines(row, depth):
    """Tell the lines of an if, with an else only where it has second rows."""
    word, condition, first, second = row
    indent = BLANKS * depth
    lines = [f"{indent}{word} {show_expression(condition)}"]
    lines.extend(rows_lines(first, depth + 1))
    if second:
        lines.append(f"{indent}else")
        lines.extend(rows_lines(second, depth + 1))
    lines.append(f"{indent}end")
    return lines


def show_row(row):
    """Tell the one line of a row that is no if, without the blanks ahead of it."""
    word = row[0]
    if word == "put":
        return f"{row[1]} = {show_expression(row[2])}"
    if word == "wait":
        return show_wait(row)
    if word in ("go", "call"):
        return show_start(row)
    return f"{word} {show_expression(row[1])}"


def show_wait(row):
    word, name, waited, otherwise = row
    text = f"{word} {name} {waited}"
    return text if otherwise is None else f"{text} else {show_expression(otherwise)}"


def show_start(row):
    """Tell the text of a go or call."""
    word, name, work_name, expressions = row
    texts = [show_expression(expression) for expression in expressions]
    return f"{word} {name} {work_name}({', '.join(texts)})"
