"""Programs written as texts."""


def written(program):
    """The text of a program, with one blank between words and no empty rows."""
    lines = []
    for name, given, variables, rows in program:
        lines.append(["function", name] + list(variables[:given]))
        lines.extend([words_of(program, variables, row) for row in rows])
    return "\n".join([" ".join(words) for words in lines])


def words_of(program, variables, row):
    """The words of a row, in a function of these variables."""
    sort = row[0]
    if sort == "to":
        return ["to", str(row[1] + 1)]
    name = variables[row[1]]
    if sort == "if":
        return ["if", name, "to", str(row[2] + 1)]
    if sort in ("dye", "wash", "return"):
        return [sort, name]
    return [name, "="] + value_words(program, variables, row)


def value_words(program, variables, row):
    """The words behind the `=` of a row."""
    if row[0] == "number":
        return [str(row[2])]
    if row[0] == "copy":
        return [variables[row[2]]]
    if row[0] == "does":
        return [variables[row[3]], row[2], variables[row[4]]]
    return ["call", program[row[2]][0]] + [variables[v] for v in row[3]]
