"""Guards: changes of a house that make slips heard."""

from slipreach.errors import BadGuard
from slipreach.house import House
from slipreach.schema import Schema
from slipreach.tokens import is_one_of

REFUSING = ("unknown", "doubled", "wrong")
LACKING = ("nothing", "empty")
WORDS = ("equals", "between", "end", "comma", "single", "bare", "value", "unknown", "doubled", "wrong",
         "nothing", "empty")
FOR_LISTS = ("filled", "alone")
FOR_ALL = ("some", "top")


def fits(house, guard):
    """Whether any value is a guard that fits a house."""
    if is_one_of(guard, WORDS):
        return True
    if not isinstance(guard, tuple) or len(guard) != 2 or not is_one_of(guard[1], house.schema.names):
        return False
    if is_one_of(guard[0], FOR_LISTS):
        return house.schema.setting(guard[1]).kind == "list"
    return is_one_of(guard[0], FOR_ALL)


def check_guards(house, guards):
    """Raises BadGuard(index) for the first value that does not fit."""
    for index, guard in enumerate(guards):
        if not fits(house, guard):
            raise BadGuard(index)


def guarded_end(end, guards):
    """The option end of a guarded language."""
    if "end" in guards:
        return "must"
    return "between" if "between" in guards and end == "may" else end


def guarded_language(language, guards):
    """A language with some guards."""
    options = {"end": guarded_end(language.end, guards)}
    if "equals" in guards:
        options["equals"] = "must"
    if "comma" in guards:
        options["comma"] = "must"
    if "single" in guards:
        options["doubled"] = ()
    if "bare" in guards:
        options["bare"] = False
    if "value" in guards:
        options["nothing"] = False
    return language.with_options(**options)


def guarded_setting(setting, guards):
    """A setting with some guards."""
    name = setting.name
    parts = {}
    if ("filled", name) in guards:
        parts["filled"] = True
    if ("alone", name) in guards:
        parts["join"] = False
    if ("some", name) in guards:
        parts["default"] = None
        parts["demand"] = "top" if setting.demand == "top" else "some"
    if ("top", name) in guards:
        parts["default"] = None
        parts["demand"] = "top"
    return setting.changed(**parts)


def guarded_schema(schema, guards):
    """A schema with some guards."""
    rules = schema.rules()
    for rule in REFUSING:
        if rule in guards:
            rules[rule] = "refuse"
    for rule in LACKING:
        if rule in guards:
            rules[rule] = "lacks"
    settings = [guarded_setting(setting, guards) for setting in schema]
    return Schema(settings, **rules)


def guarded(house, guards):
    """The guarded house. Raises BadGuard(index)."""
    check_guards(house, guards)
    language = guarded_language(house.language, guards)
    return House(language, guarded_schema(house.schema, guards), house.builder, layers=house.layers)


def alters_names(house, guards):
    """Whether a name alone, and not the value behind it, may be read where `=` was left out."""
    language = guarded_language(house.language, guards)
    return "equals" in guards and house.language.equals == "may" and language.bare and language.end == "may"


def alters_nothing(house, guards):
    """Whether nothing may leave what a lower layer gives, and no longer clear it."""
    language = guarded_language(house.language, guards)
    return "nothing" in guards and house.schema.nothing == "clears" and house.layers > 1 and language.nothing


def alters_empty(house, guards):
    """Whether an empty list may no longer be given."""
    has_list = "list" in [setting.kind for setting in house.schema]
    return "empty" in guards and house.schema.empty == "given" and has_list


def alters_joined(house, guards):
    """Whether a list may stand alone that was put behind another one."""
    joined = [setting.name for setting in house.schema if setting.join]
    return house.layers > 1 and any([("alone", name) in guards for name in joined])


def is_strict(house, guards):
    """Whether some guards are strict for a house. Raises BadGuard(index)."""
    check_guards(house, guards)
    if alters_names(house, guards) or alters_nothing(house, guards):
        return False
    return not alters_empty(house, guards) and not alters_joined(house, guards)
