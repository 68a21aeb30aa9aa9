"""Surveys: all places and fates of the slips of a rule, each with what shows it by least weight."""

from slipreach.beside import told_numbers, told_words
from slipreach.fills import Filler
from slipreach.gaps import kind_numbers
from slipreach.lanes import Lane, put_least
from slipreach.profiles import number_profile, rest_profile, word_profile
from slipreach.rowkinds import each_word
from slipreach.showings import Showing
from slipreach.sights import Sight
from slipreach.templates import READ, templates_of
from slipreach.tokens import is_number
from slipreach.vantages import vantages
from slipreach.verdicts import STRANGE, Verdicts

# Whether the house hears a slip, and at which stage, does not depend on the row.
BESIDE_ROW = ("same", "more", "less")


def sight_of(house, words, numbers, row):
    """The sight beside a row, with the words and numbers that a house and a rule tell."""
    table = house.builder.table
    words = each_word([*words, *[row[column] for column in table.words]])
    amounts = kind_numbers([*numbers, *[row[column] for column in table.numbers]])
    return Sight(house, row, words, [number for number in sorted(set(amounts)) if is_number(number)])


class Find:
    """A place with a fate: the weight of files that show it, and what they are made of."""

    def __init__(self, weight, sight, layer, template, told):
        self.weight = weight
        self.sight = sight
        self.layer = layer
        self.template = template
        self.effect, self.told = told

    def showing(self):
        """The showing of the files, with values that stand to the row as they should."""
        _, filling = Filler(self.sight).effects(self.template)[self.effect]
        told = [(name, rows if name == STRANGE else self.own_rows(name, rows)) for name, rows in self.told]
        return Showing(self.template, self.layer, filling, told)

    def own_rows(self, name, rows):
        """The values in all layers beside the row, for those of the model of a setting."""
        own = self.sight.own_values(name)
        found = []
        for layer, values in enumerate(rows):
            if layer == self.layer:
                found.append(tuple([[own.get(value, value) for value in side] for side in values]))
            else:
                found.append([own.get(value, value) for value in values])
        return found


class Survey:
    """All that has been found: a dict from (place, fate) to a Find. Raises TooManyConducts(60)."""

    def __init__(self, house, rule, shapes):
        self.house = house
        self.found = {}
        self.models = {}
        self.lanes = {}
        self.verdicts = {}
        self.known_effects = {}
        self.templates = templates_of(house, shapes)
        self.sights = self.settled_sights(rule, vantages(house, rule, shapes))

    def settled_sights(self, rule, rows):
        """The sights beside those of some rows whose profiles differ: tuples (sight, profile)."""
        words = told_words(self.house, rule)
        numbers = told_numbers(self.house, rule)
        found = {}
        for row in rows:
            sight = sight_of(self.house, words, numbers, row)
            profile = (word_profile(sight, rule), number_profile(sight, rule), rest_profile(sight))
            if profile not in found:
                sight.settle(self.models)
                found[profile] = sight
        return [(found[profile], profile) for profile in found]

    def look_all(self):
        """Finds all places and fates."""
        for number, (sight, profile) in enumerate(self.sights):
            self.look(sight, profile, number == 0)

    def look_for(self, wanted):
        """Finds places with some fates beside a row, if there are any, but perhaps not all of them."""
        for sight, profile in self.sights:
            self.look(sight, profile, False)
            if any([fate in wanted for _, fate in self.found]):
                return

    def lane(self, sight, name):
        """The lane of a setting; rows beside which it has the same sorts of values share it."""
        number = sight.models[name]
        if number not in self.lanes:
            self.lanes[number] = Lane(self.models[(name, sight.sorts_key(name))][1], name)
        return self.lanes[number]

    def verdicts_of(self, sight):
        """The verdicts beside a row; rows that the builder does not tell apart share them."""
        names = self.house.schema.names
        key = str([sight.row_told(), [sight.models[name] for name in names]])
        if key not in self.verdicts:
            self.verdicts[key] = Verdicts(sight, {name: self.lane(sight, name) for name in names})
        return self.verdicts[key]

    def effects_of(self, sight, index, profile):
        """The effects of a template, each with its least cost."""
        template = self.templates[index][0]
        names = template.setting_names()
        kinds = [self.house.schema.setting(name).kind for name in names]
        words = profile[0] if any([kind != "number" for kind in kinds]) else ""
        numbers = profile[1] if "number" in kinds else ""
        key = (index, words, numbers, tuple([sight.models[name] for name in names]))
        if key not in self.known_effects:
            found = Filler(sight).effects(template)
            self.known_effects[key] = {effect: found[effect][0] for effect in found}
        return self.known_effects[key]

    def look(self, sight, profile, is_first):
        """Takes what can be seen beside one more row."""
        verdicts = self.verdicts_of(sight)
        for index, (template, places) in enumerate(self.templates):
            if is_first or template.status == READ:
                effects = self.effects_of(sight, index, profile)
                for layer in range(self.house.layers):
                    known = self.fates_of(verdicts, template, effects, layer, is_first)
                    self.put(sight, layer, places, known)

    def fates_of(self, verdicts, template, effects, layer, is_first):
        """A dict from the fates of a template to (weight, (effect, values in layers))."""
        known = {}
        for effect in effects:
            fates = verdicts.fates_of(effect, template.status, layer, template.needs)
            for fate in fates:
                if is_first or fate in BESIDE_ROW:
                    put_least(known, fate, (effects[effect] + fates[fate][0], (effect, fates[fate][1])))
        return known

    def put(self, sight, layer, places, known):
        """Takes the fates of a template in a layer, for all its places."""
        for kind, role, name in places:
            for fate in known:
                weight, told = known[fate]
                key = ((kind, layer, role, name), fate)
                if key not in self.found or weight < self.found[key].weight:
                    self.found[key] = Find(weight, sight, layer, places[(kind, role, name)], told)
