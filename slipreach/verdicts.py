"""Verdicts: the fates of what a slip does to some settings, beside a row and for all other entries."""

from slipreach.lanes import put_least
from slipreach.standings import LACKING, REFUSED
from slipreach.templates import READ

# The entries that call no setting, if files may have them.
STRANGE = ""
UNREAD = ()


def stage_of(seconds):
    """The stage at which one of some settings is heard, or None."""
    if REFUSED in seconds:
        return REFUSED
    return LACKING if LACKING in seconds else None


def strange_rows(needs):
    """What entries that call no setting can add: which needs they meet, by which cost, and how many stand where."""
    aheads = (0, 1) if needs[0] in ("some", "joint") else (0,)
    behinds = (0, 1) if needs[1] == "some" else (0,)
    return [((ahead == 1, behind == 1), (ahead + behind, (ahead, behind))) for ahead in aheads for behind in behinds]


class Verdicts:
    """What files lead to beside one row. The lanes are a dict from all settings."""

    def __init__(self, sight, lanes):
        self.sight = sight
        self.house = sight.house
        self.lanes = lanes
        self.read = self.house.builder.names
        self.own = {name: sight.own_values(name) for name in self.read}
        self.outcomes = {}
        self.contexts = {}
        self.found = {}

    def outcome(self, worths):
        """What the builder makes of all read settings, each () or a tuple of a value."""
        if worths not in self.outcomes:
            # The values of a model do not stand to this row as they do to the model's.
            values = {name: self.own[name][worth[0]] for name, worth in zip(self.read, worths) if worth != ()}
            found = self.house.builder.outcome(self.sight.row, values)
            self.outcomes[worths] = found if found == "refused" else found is not False
        return self.outcomes[worths]

    def lane_ends(self, name, layer, before, after, needs):
        """What the lane of a setting leads to; of a setting that is not read only the stage is told."""
        rows = self.lanes[name].endings(layer, before, after, needs)
        if name in self.read:
            return rows
        known = {}
        for first, second, is_ahead, is_behind in rows:
            told = second if second in (REFUSED, LACKING) else UNREAD
            put_least(known, (UNREAD, told, is_ahead, is_behind), rows[(first, second, is_ahead, is_behind)])
        return known

    def outer_rows(self, inner, layer, needs):
        """All that the settings beside some inner ones can have, with the least cost.

        A dict from (worths of those that are read, is ahead, is behind) to cost and a tuple of
        (name, values in each layer).
        """
        known = {((), False, False): (0, ())}
        if self.house.schema.unknown == "pass":
            rows = strange_rows(needs)
            known = {((), *sides): (cost, ((STRANGE, counts),)) for sides, (cost, counts) in rows}
        for name in self.house.schema.names:
            if name not in inner:
                known = self.with_lane(known, name, layer, needs)
        return known

    def with_lane(self, known, name, layer, needs):
        """What outer settings can have together with one more."""
        rows = self.lane_ends(name, layer, (), (), needs)
        longer = {}
        for worths, is_ahead, is_behind in known:
            cost, told = known[(worths, is_ahead, is_behind)]
            for row in rows:
                both = (*worths, (name, row[0])) if name in self.read else worths
                key = (both, is_ahead or row[2], is_behind or row[3])
                put_least(longer, key, (cost + rows[row][0], (*told, (name, rows[row][1]))))
        return longer

    def inner_worths(self, inner):
        """All that the inner settings that are read can have: a list of tuples."""
        rows = [()]
        for name in inner:
            if name in self.read:
                rows = [(*row, worth) for row in rows for worth in self.sight.domain(name)]
        return rows

    def outcomes_with(self, inner, worths):
        """What comes of each of the inner worths beside some outer ones: a tuple."""
        known = dict(worths)
        names = [name for name in inner if name in self.read]
        found = []
        for row in self.inner_worths(inner):
            known.update({name: worth for name, worth in zip(names, row)})
            found.append(self.outcome(tuple([known[name] for name in self.read])))
        return tuple(found)

    def contexts_of(self, inner, layer, needs):
        """What stands beside some inner settings, as far as it matters for what comes of them.

        Tuples (dict from inner worths to outcomes, is ahead, is behind, cost, values in layers).
        """
        key = (inner, layer, needs)
        if key not in self.contexts:
            known = {}
            rows = self.outer_rows(inner, layer, needs)
            for worths, is_ahead, is_behind in rows:
                outcomes = self.outcomes_with(inner, worths)
                if any([outcome != "refused" for outcome in outcomes]):
                    put_least(known, (outcomes, is_ahead, is_behind), rows[(worths, is_ahead, is_behind)])
            worths = self.inner_worths(inner)
            self.contexts[key] = [(dict(zip(worths, row[0])), row[1], row[2], *known[row]) for row in known]
        return self.contexts[key]

    def inner_rows(self, effect, status, layer, needs):
        """What comes of the inner settings: a dict from (firsts, seconds or a stage, is ahead, is behind)."""
        known = {((), (), False, False): (0, ())}
        for name, before, after in effect:
            rows = self.lane_ends(name, layer, before, after if status == READ else before, needs)
            longer = {}
            for firsts, seconds, is_ahead, is_behind in known:
                cost, told = known[(firsts, seconds, is_ahead, is_behind)]
                for row in rows:
                    key = ((*firsts, row[0]), (*seconds, row[1]), is_ahead or row[2], is_behind or row[3])
                    put_least(longer, key, (cost + rows[row][0], (*told, (name, rows[row][1]))))
            known = longer
        return self.with_stages(known, [name for name, _, _ in effect])

    def with_stages(self, rows, names):
        """The inner rows with the read settings alone, and with a stage for the seconds where one hears."""
        known = {}
        for firsts, seconds, is_ahead, is_behind in rows:
            ones = [worth for name, worth in zip(names, firsts) if name in self.read]
            others = [worth for name, worth in zip(names, seconds) if name in self.read]
            stage = stage_of(seconds)
            key = (tuple(ones), tuple(others) if stage is None else stage, is_ahead, is_behind)
            put_least(known, key, rows[(firsts, seconds, is_ahead, is_behind)])
        return known

    def fates_of(self, effect, status, layer, needs):
        """A dict from each fate of an effect to (least cost of the other entries, values in layers)."""
        key = (effect, status, layer, needs)
        if key not in self.found:
            self.found[key] = self.found_fates(effect, status, layer, needs)
        return self.found[key]

    def found_fates(self, effect, status, layer, needs):
        """The fates that fates_of tells."""
        known = {}
        contexts = self.contexts_of(tuple([name for name, _, _ in effect]), layer, needs)
        rows = self.inner_rows(effect, status, layer, needs)
        for row in rows:
            firsts, seconds, is_ahead, is_behind = row
            for outcomes, more_ahead, more_behind, cost, told in contexts:
                if needs[0] in ("some", "joint") and not (is_ahead or more_ahead):
                    continue
                if needs[1] == "some" and not (is_behind or more_behind):
                    continue
                fate = fate_of(outcomes, firsts, seconds, status)
                if fate is not None:
                    put_least(known, fate, (rows[row][0] + cost, (*rows[row][1], *told)))
        return known


def fate_of(outcomes, firsts, seconds, status):
    """The fate of a slip, or None if the house refuses the files without it."""
    before = outcomes[firsts]
    if before == "refused":
        return None
    if status != READ:
        return status
    if seconds in (REFUSED, LACKING):
        return seconds
    after = outcomes[seconds]
    if after == "refused":
        return "builder"
    if before == after:
        return "same"
    return "more" if after else "less"
