"""Parts, sieves, asks and tables as texts."""

_PART_SIGNS = {"plus": "+", "less": "-", "times": "*", "over": "/"}
_SIEVE_SIGNS = {"alike": "=", "unlike": "#", "below": "<"}


def show_part(part):
    if part[0] == "cell":
        return f"{part[1]}.{part[2]}"
    if part[0] == "number":
        return str(part[1])
    return f"({show_part(part[1])} {_PART_SIGNS[part[0]]} {show_part(part[2])})"


def show_sieve(sieve):
    if sieve[0] == "lacking":
        return f"lacking {show_part(sieve[1])}"
    return f"{show_part(sieve[1])} {_SIEVE_SIGNS[sieve[0]]} {show_part(sieve[2])}"


def show_ask(ask):
    sources, sieves, telling, order, first, struck = ask
    lines = [_source_line(source) for source in sources]
    lines.extend([f"sieve {show_sieve(sieve)}" for sieve in sieves])
    lines.extend(_telling_lines(telling, struck))
    if order:
        lines.append("order " + ", ".join([f"{number} {way}" for number, way in order]))
    if first is not None:
        lines.append(f"first {first}")
    return "".join([line + "\n" for line in lines])


def _source_line(source):
    way, alias, table, pairs = source
    line = f"{way} {alias} {table}"
    for column, other, column2 in pairs:
        line = line + f" on {column} {other}.{column2}"
    return line


def _telling_lines(telling, struck):
    if telling[0] == "rows":
        word = "strike" if struck else "tell"
        return [f"{word} {_show_parts(telling[1])}"]
    keys = _show_parts(telling[1]) if telling[1] else "-"
    return [f"group {keys}"] + [f"sum {word} {show_part(part)}" for word, part in telling[2]]


def _show_parts(parts):
    return ", ".join([show_part(part) for part in parts])


def show_tables(tables):
    return str(tables)
