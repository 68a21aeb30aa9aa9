"""Paths: editions behind one another, and what they can lose."""

from slipreach.editions import reused
from slipreach.errors import BadPath, Reused
from slipreach.faults import suspects
from slipreach.leadover import lead
from slipreach.tokens import is_integer
from slipreach.witnesses import base_row, files_of, paired_rows, settings_of, short_rows

MOST_EDITIONS = 8


def check_editions(editions):
    """Raises BadPath(at) unless some editions hold together."""
    if not editions:
        raise BadPath(0)
    if len(editions) > MOST_EDITIONS:
        raise BadPath(MOST_EDITIONS)
    for at in range(1, len(editions)):
        if editions[at].elder != editions[at - 1].later:
            raise BadPath(at)


class Path:
    """One to eight editions."""

    def __init__(self, editions):
        check_editions(editions)
        self.editions = tuple(editions)
        self.elder = editions[0].elder
        self.later = editions[-1].later

    def __iter__(self):
        return iter(self.editions)

    def __len__(self):
        return len(self.editions)

    def __getitem__(self, at):
        if not is_integer(at) or not 0 <= at < len(self.editions):
            raise BadPath(at)
        return self.editions[at]

    def __rshift__(self, other):
        return Path([*self.editions, *other.editions])

    @property
    def whole(self):
        """All editions put together."""
        total = self.editions[0]
        for edition in self.editions[1:]:
            total = total >> edition
        return total

    def moved(self, settings):
        """The settings, moved by one edition after the other."""
        for edition in self.editions:
            settings = edition.moved(settings)
        return settings

    def led(self, language, files):
        """The files, led over by one edition after the other. Raises as lead."""
        for edition in self.editions:
            files = lead(language, edition, files).files
        return files


def parting_files(language, layers, first, second):
    """Files whose settings two paths move to unlike ones, or None. Raises BadPath(-1)."""
    if first.elder != second.elder or first.later != second.later:
        raise BadPath(-1)
    names = first.elder.names
    # A later setting comes from at most one elder one by each path.
    for one in names:
        for other in names[names.index(one):]:
            for row in paired_rows(first.elder, one, other):
                settings = settings_of(first.elder, row)
                if first.moved(settings) != second.moved(settings):
                    return files_of(language, layers, row)
    return None


def values_in_place(path):
    """The values that a path gives in the place of absent ones, as they are and unwrapped."""
    given = path.moved({})
    values = [given[name] for name in given]
    return [*values, *[value[0] for value in values if isinstance(value, tuple) and len(value) == 1]]


def blurred_rows(path, name):
    """Two rows with unlike values of one name whose settings a path moves to equal ones, or None."""
    schema = path.elder
    base = base_row(schema, [name])
    rows = [[*base, *row] for row in short_rows(schema, name, values_in_place(path))]
    for at, row in enumerate(rows):
        settings = settings_of(schema, row)
        for other in rows[:at]:
            others = settings_of(schema, other)
            if settings != others and path.moved(settings) == path.moved(others):
                return other, row
    return None


def blurred_files(language, layers, path):
    """Two lists of files with unlike settings that a path moves to equal ones, or None."""
    for name in path.elder.names:
        rows = blurred_rows(path, name)
        if rows is not None:
            return files_of(language, layers, rows[0]), files_of(language, layers, rows[1])
    return None


def still_fault(language, layers, edition):
    """Files that the later schema does not take as they should be, or None. Raises Reused(word)."""
    words = reused(edition)
    if words:
        raise Reused(words[0])
    for row in suspects(edition):
        settings = settings_of(edition.elder, row)
        if settings is not None and settings_of(edition.later, row) != edition.moved(settings):
            return files_of(language, layers, row)
    return None
