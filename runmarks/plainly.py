"""Questions answered plainly: every row of a plain table is looked at."""


def plain_rows(question, table):
    return [row for row in sorted(table) if question.holds(table[row])]


def plain_total(name, question, table):
    return sum([table[row][name] for row in plain_rows(question, table)])


def plain_least(name, question, table):
    rows = plain_rows(question, table)
    if rows == []:
        return None
    least = min([table[row][name] for row in rows])
    return (least, [row for row in rows if table[row][name] == least])
