"""Which triples must be wrong: the fewest that a walk misses, and tables that show that so few are not enough."""

from roamlook.boards import is_between, is_lot
from roamlook.errors import BadCount
from roamlook.looks import answers
from roamlook.paces import step
from roamlook.stories import last_beat, look_story
from roamlook.walks import missed, next_places

MOST_SEEN = 24


def miss_counts(board, story):
    """Tell for each beat how many of its triples each place misses."""
    counts = [[0] * len(board) for beat in range(last_beat(story) + 1)]
    for beat, look, answer in story[2]:
        for place, given in enumerate(answers(board, look)):
            if given != answer:
                counts[beat][place] += 1
    return counts


def onward_least(board, paces, misses):
    """Tell for each beat and place the fewest triples that a walk misses from there on."""
    least = [misses[-1]]
    for pace, row in zip(paces[::-1], misses[:-1][::-1]):
        later = least[-1]
        least.append([
            count + min([later[end] for end in board.within(place, pace[place])])
            for place, count in enumerate(row)
        ])
    return least[::-1]


def first_walk(board, story, least):
    """Tell the first walk that misses the fewest triples."""
    walk = ()
    for row in least:
        places = next_places(board, story, walk)
        fewest = min([row[place] for place in places])
        walk = walk + tuple([place for place in places if row[place] == fewest][:1])
    return walk


def fewest_wrong(board, story):
    """Tell how many triples must be wrong, the first walk that misses so few, and which it misses."""
    look_story(board, story)
    walk = first_walk(board, story, onward_least(board, story[1], miss_counts(board, story)))
    numbers = missed(board, story, walk)
    return (len(numbers), walk, numbers)


def check_count(count):
    """Refuse a count that no table is for."""
    if not is_between(count, 0, MOST_SEEN):
        raise BadCount(count)


def first_needs(story, misses):
    """Tell for each place of the beginning the least number of a lot in which it must be."""
    return {place: misses[place] for place in story[0]}


def next_needs(board, pace, row, misses):
    """Tell, by the row one beat ahead, for each place the least number of a lot in which it must be."""
    needs = {}
    for number, lot in enumerate(row):
        for place in step(board, pace, lot):
            # The numbers rise, so the first one that leads to a place asks the most of it.
            needs.setdefault(place, number + misses[place])
    return needs


def least_row(needs, count):
    """Tell the row whose lots have no more than they need."""
    return [tuple(sorted([place for place in needs if needs[place] <= number])) for number in range(count + 1)]


def row_has(row, needs):
    """Tell whether each place is in its least lot and all higher ones."""
    return all([place in lot for place in needs for lot in row[needs[place]:]])


def table(board, story, count):
    """Tell a table that so many wrong triples are not enough, or None where they are."""
    look_story(board, story)
    check_count(count)
    misses = miss_counts(board, story)
    rows = [least_row(first_needs(story, misses[0]), count)]
    for pace, counts in zip(story[1], misses[1:]):
        rows.append(least_row(next_needs(board, pace, rows[-1], counts), count))
    return rows if is_shut(rows) else None


def is_shut(rows):
    """Tell whether the last row's lots are empty."""
    return all([len(lot) == 0 for lot in rows[-1]])


def is_sized(board, story, count, rows):
    """Tell whether there is a row for each beat, with a lot of the board for each number up to the count."""
    if len(rows) != last_beat(story) + 1 or not all([len(row) == count + 1 for row in rows]):
        return False
    return all([is_lot(board, lot) for row in rows for lot in row])


def table_holds(board, story, count, rows):
    """Tell whether the rows show that so many wrong triples are not enough."""
    look_story(board, story)
    check_count(count)
    if not is_sized(board, story, count, rows) or not is_shut(rows):
        return False
    misses = miss_counts(board, story)
    if not row_has(rows[0], first_needs(story, misses[0])):
        return False
    return all([
        row_has(row, next_needs(board, pace, ahead_row, counts))
        for pace, ahead_row, row, counts in zip(story[1], rows, rows[1:], misses[1:])
    ])
