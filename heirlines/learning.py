"""How a custom is found out: lines and rows that are told apart, and what tells them apart."""

from heirlines.customs import MOST_STATES, is_custom
from heirlines.errors import TooGreat
from heirlines.lines import MOST_SMALL
from heirlines.readings import Reader
from heirlines.shelf import Shelf
from heirlines.swaps import Swaps

# no custom needs more: closings, one for each two ranks, each two stands, and each stand that is needed
MOST_TESTS = 40


class Table:
    """Told lines and rows, no two of them alike by the tests, and what is known of the heirs.

    A test is a surrounding: a founder's number on the shelf, and a way. Told
    lines and rows are so few as they are truly unlike; each line or row that
    comes of them by one step has to be like a told one.
    """

    def __init__(self, marks):
        self.marks = marks
        self.shelf = Shelf()
        self.known = {}
        self.told_rows = [()]
        first = self.shelf.keep(0, False, ())
        self.told_lines = [first]
        self.line_tests = [(first, ())]
        self.row_tests = [(self.shelf.keep(mark, is_alive, ()), ()) for mark, is_alive in self.looks()]

    def looks(self):
        """All marks and lives of members."""
        return [(mark, is_alive) for mark in range(self.marks) for is_alive in (False, True)]

    def closed_lines(self):
        """The lines that close a told row, each with the row, the mark and the life."""
        found = {}
        for stand, row in enumerate(self.told_rows):
            for mark, is_alive in self.looks():
                found[(stand, mark, is_alive)] = self.shelf.keep(mark, is_alive, row)
        return found

    def read_rows(self):
        """The rows that read a told line behind a told row, each with both."""
        found = {}
        for stand, row in enumerate(self.told_rows):
            for rank, line in enumerate(self.told_lines):
                found[(stand, rank)] = row + (line,)
        return found

    def with_line(self, test, line):
        """The founder's number of a test with a line put into it."""
        return self.shelf.put_at(test[0], test[1], line)

    def with_row(self, test, row):
        """The founder's number of a test with a row put into it."""
        top, way = test
        mark, is_alive, children = self.shelf.lines[self.shelf.path(top, way)[-1]]
        return self.shelf.put_at(top, way, self.shelf.keep(mark, is_alive, row + children))

    def unknown(self):
        """The founder's numbers of the families whose heirs have to be known to go on."""
        rows = [()] + list(self.read_rows().values())
        wanted = [self.with_line(test, line) for line in list(self.closed_lines().values()) for test in self.line_tests]
        wanted += [self.with_row(test, row) for row in rows for test in self.row_tests]
        return list({number: True for number in wanted if number not in self.known})

    def line_outcome(self, test, line):
        """The OUTCOME of a line."""
        heir = self.known[self.with_line(test, line)]
        return "inside" if heir is not None and heir[:len(test[1])] == test[1] else heir

    def place_in_row(self, test, row):
        """The number of the child of a row in whose line the heir is, or None."""
        heir = self.known[self.with_row(test, row)]
        way = test[1]
        if heir is None or heir[:len(way)] != way or len(heir) == len(way) or heir[len(way)] >= len(row):
            return None
        return heir[len(way)]

    def row_outcome(self, test, row):
        """The OUTCOME of a row."""
        if self.place_in_row(test, row) is not None:
            return "inside"
        heir = self.known[self.with_row(test, row)]
        level = len(test[1])
        if heir is None or heir[:level] != test[1] or len(heir) == level:
            return heir
        return test[1] + (heir[level] - len(row),) + heir[level + 1:]

    def line_look(self, line):
        """All OUTCOMES of a line."""
        return tuple([self.line_outcome(test, line) for test in self.line_tests])

    def row_look(self, row):
        """All OUTCOMES of a row."""
        return tuple([self.row_outcome(test, row) for test in self.row_tests])

    def grow(self):
        """Tell what is like nothing that is told, or add a test for a claimant; return whether there was one."""
        looks = [self.line_look(line) for line in self.told_lines]
        for line in list(self.closed_lines().values()):
            if self.line_look(line) not in looks:
                self.told_lines.append(line)
                return True
        looks = [self.row_look(row) for row in self.told_rows]
        for row in list(self.read_rows().values()):
            if self.row_look(row) not in looks:
                self.told_rows.append(row)
                return True
        return self.add_claimant_test()

    def taking_test(self, row):
        """A test in which the heir is in the row, or None."""
        for test in self.row_tests:
            if self.place_in_row(test, row) is not None:
                return test
        return None

    def add_claimant_test(self):
        """Add a test for a row whose claimant is heir behind a further child, as no test so far shows it."""
        for (stand, rank), row in self.read_rows().items():
            test = self.taking_test(row)
            ahead = self.told_rows[stand]
            if test is not None and self.place_in_row(test, row) < len(ahead) and self.taking_test(ahead) is None:
                self.row_tests.append((self.with_row(test, (self.told_lines[rank],)), test[1]))
                return True
        return False

    def add_test(self, is_line, top, way):
        """Add a test that tells a line, or a row, from the told one that it was swapped for."""
        if is_line:
            self.line_tests.append((top, way))
        else:
            self.row_tests.append((top, way))

    def need_few(self):
        """Raise TooGreat if no custom can give what was told."""
        tests = len(self.line_tests) + len(self.row_tests)
        if max(len(self.told_lines), len(self.told_rows)) > MOST_STATES or tests > MOST_TESTS:
            raise TooGreat(MOST_STATES)

    def custom(self):
        """The custom that the table tells."""
        row_looks = [self.row_look(row) for row in self.told_rows]
        line_looks = [self.line_look(line) for line in self.told_lines]
        read = [[] for _ in self.told_rows]
        for (stand, _), row in self.read_rows().items():
            test = self.taking_test(row)
            keep = "none"
            if test is not None:
                keep = "old" if self.place_in_row(test, row) < len(self.told_rows[stand]) else "new"
            read[stand].append((row_looks.index(self.row_look(row)), keep))
        close = [([], []) for _ in range(self.marks)]
        for (_, mark, is_alive), line in self.closed_lines().items():
            heir = self.known[line]
            pick = "none" if heir is None else "self" if heir == () else "line"
            close[mark][1 if is_alive else 0].append((line_looks.index(self.line_look(line)), pick))
        stands = tuple([self.taking_test(row) is not None for row in self.told_rows])
        ranks = tuple([self.known[line] is not None for line in self.told_lines])
        custom = (self.marks, stands, ranks, tuple([tuple(row) for row in read]),
                  tuple([(tuple(dead), tuple(living)) for dead, living in close]))
        if not is_custom(custom):
            raise TooGreat(MOST_STATES)
        return custom


class Learner:
    """Asks for heirs until it has a custom that names all those of small families that are known."""

    def __init__(self, marks):
        self.table = Table(marks)
        self.waiting = self.table.unknown()
        self.guess = None
        # the family in which the guess is wrong, as far as it is swapped
        self.swaps = None
        self.right = 0
        self.wrong = 0

    def learn(self, top, heir):
        """Note an heir, and go on."""
        self.table.known[top] = heir
        self.go_on()

    def go_on(self):
        """Go on until an heir is needed, or nothing is wrong with the guess."""
        self.waiting = [top for top in self.waiting if top not in self.table.known]
        while not self.waiting:
            if self.swaps is not None:
                self.search()
            elif self.guess is None:
                self.complete()
            else:
                wrong = self.first_wrong()
                if wrong is None:
                    return
                table = self.table
                self.swaps = Swaps(self.guess, table.shelf, wrong, table.told_lines, table.told_rows)
                self.wrong, self.right = 0, self.swaps.many_steps()

    def complete(self):
        """Make the table complete, and guess by it."""
        self.waiting = self.table.unknown()
        if self.waiting:
            return
        if self.table.grow():
            self.table.need_few()
        else:
            self.guess = self.table.custom()

    def first_wrong(self):
        """The founder's number of a small family that is known and whose heir the guess doesn't name, or None."""
        shelf = self.table.shelf
        reader = Reader(self.guess, shelf)
        sizes = []
        for line in shelf.lines:
            sizes.append(1 + sum([sizes[child] for child in line[2]]))
        for top, heir in self.table.known.items():
            if sizes[top] <= MOST_SMALL and reader.heir_of(top) != heir:
                return top
        return None

    def search(self):
        """Come closer to the step of swapping behind which the guess is right."""
        if self.right - self.wrong > 1:
            middle = (self.right + self.wrong) // 2
            top = self.swaps.family_behind(middle)
            if top not in self.table.known:
                self.waiting = [top]
            elif Reader(self.guess, self.table.shelf).heir_of(top) == self.table.known[top]:
                self.right = middle
            else:
                self.wrong = middle
            return
        is_line, top, way = self.swaps.surrounding(self.wrong)
        self.table.add_test(is_line, top, way)
        self.table.need_few()
        self.swaps = None
        self.guess = None
