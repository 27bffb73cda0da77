"""Sheets: what a party says of each other party in each quarter.

A sheet is a dict from (other party, quarter) to an amount. Only amounts that
aren't 0 are kept, so that its members are just its rows.
"""


def write_amount(sheet, other, quarter, amount):
    if amount == 0:
        # A kept 0 would count as a row.
        sheet.pop((other, quarter), None)
    else:
        sheet[(other, quarter)] = amount


def read_amount(sheet, other, quarter):
    return sheet.get((other, quarter), 0)


def count_rows(sheet):
    return len(sheet)


def list_rows(sheet):
    rows = []
    # The dict has its keys in the order in which they were written.
    for other, quarter in sorted(sheet):
        rows.extend([other, quarter, sheet[(other, quarter)]])
    return rows


def match_amounts(own, theirs):
    if own > 0 and theirs < 0:
        return min(own, -theirs)
    if own < 0 and theirs > 0:
        return max(own, -theirs)
    return 0
