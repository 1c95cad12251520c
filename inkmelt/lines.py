"""Lines: a row laid within a measure, broken at its cuts alone."""

from inkmelt.cuts import cuts
from inkmelt.widths import carets


def lines(case, row, measure):
    places = cuts(case, row) + [len(row)]
    far = carets(case, row)
    told = []
    begin = 0
    while begin < len(row):
        end = line_end(far, [place for place in places if place > begin], begin, measure)
        told.append((begin, end))
        begin = end
    return told


# No near goes across a cut, so from one cut to another the carets lie as far apart as the
# letters between, set by themselves, are wide. Nears can be negative, so a longer line
# can fit where a shorter one does not: all places are looked at.
def line_end(far, places, begin, measure):
    fitting = [place for place in places if far[place] - far[begin] <= measure]
    return max(fitting, default=places[0])
