"""PAGE TREES as the document tells them, asked in the plainest way; what the program does otherwise is held against it."""


def plain_rows(pages, number, depth, met):
    """(height, rows) below a page that stands as it should; raises ValueError if something does not."""
    if number not in pages or number in met:
        raise ValueError("a number without a page, or twice")
    met.append(number)
    kind, entries = pages[number]
    if kind == "leaf":
        if depth > 0 and len(entries) < 2:
            raise ValueError("too few rows")
        return 1, list(entries)
    heights, rows = [], []
    for row, child in entries:
        its, below = plain_rows(pages, child, depth + 1, met)
        if row != min(below):
            raise ValueError("not the least row")
        heights.append(its)
        rows.extend(below)
    if len(set(heights)) > 1:
        raise ValueError("unlike heights")
    return heights[0] + 1, rows


def plain_tree(tree):
    """(height, rows) of a tuple of the right kinds, None if it is no PAGE TREE."""
    many, root, pages = tree
    met = []
    try:
        height, rows = plain_rows(pages, root, 0, met)
    except ValueError:
        return None
    lengths = {len(row) for row in rows} | {len(entry[0]) for kind, its in pages.values() if kind == "node" for entry in its}
    if sorted(met) != sorted(pages) or rows != sorted(set(rows)) or lengths - {many}:
        return None
    return height, tuple(rows)


def shapes_of(most_rows, most_pages):
    """All (height, rows, pages) of PAGE TREES with at most so many rows, by putting page beside page."""
    below = {(rows, 1) for rows in range(2, 5)}
    found = {(1, rows, 1) for rows in range(0, 5)}
    height = 1
    while below:
        height += 1
        parts = {(0, 0)}
        above = set()
        for count in range(1, 5):
            parts = {(rows + more, pages + its) for rows, pages in parts for more, its in below
                     if rows + more <= most_rows and pages + its < most_pages}
            if count >= 2:
                above |= {(rows, pages + 1) for rows, pages in parts}
        found |= {(height, rows, pages) for rows, pages in above}
        below = above
    return found
