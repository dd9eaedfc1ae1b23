"""The functions of the interface that have landed, and the kind of each parameter."""

from pourdrains import errors
from tests import plain

# Each parameter has a kind below; "thing" accepts any value without an error.
FUNCTIONS = {
    "hills": """
        is_hill(thing) is_book(thing) closing(book) mirror(hill) is_tree(hill) led_hill(hill,names)
        beside(one:hill,other:hill) product(one:hill,other:hill)
    """,
    "lots": """
        is_lot(hill,thing) is_lower(hill,thing) is_upper(hill,thing) ponds(hill) lower_of(hill,lot) upper_of(hill,lot)
        highest(hill,lot) lowest(hill,lot) judge_lower(hill,lot) lower_holds(hill,lot,thing) just_above(hill,terrace)
        waters(hill) many_waters(hill)
    """,
    "hilltexts": "hill_text(hill) read_hill(text)",
    "scripts": """
        is_deed(hill,thing) is_script(hill,thing) is_water(hill,thing) is_couple(hill,thing) reach(hill,deed)
        run(hill,water,script) couple_of(hill,script) last_reaching(hill,script,terrace) done_to(hill,couple,water)
        couple_then(hill,one:couple,other:couple) script_of(hill,couple) couples(hill)
    """,
    "fewest": "fewest(hill,couple) fewest_script(hill,couple) serving(hill:tree,couple)",
    "prices": """
        cheapest(hill,couple,prices) cheapest_script(hill,couple,prices) judge_cheapest(hill,couple,prices,most)
        cheapest_holds(hill,couple,prices,most,thing) led_price(hill,water,other:water,prices)
        judge_led(hill,water,other:water,prices,most) led_holds(hill,water,other:water,prices,most,thing)
        wish_price(hill,water,wet:lot,dry:lot,prices)
    """,
    "kinds": """
        is_kind(book,thing) world_of(book,kind) standing(book,script,kind) kind_in(hill,names:count,terrace)
    """,
}


def is_renaming(many, thing):
    return plain.is_lot(many, tuple(sorted(thing)) if plain_integers(thing) else None) and len(thing) == many


def plain_integers(thing):
    return type(thing) is tuple and all(plain.is_int(item) for item in thing)


def is_water(hill, thing):
    return plain.is_lot(hill[0], thing) and plain.is_lower(hill, thing)


# For each kind: what is wrong is raised with, and whether any value is right, by the hill or book ahead.
KINDS = {
    "hill": (errors.BadHill, lambda ground, thing: plain.is_hill(thing)),
    "tree": (errors.BadHill, lambda ground, thing: plain.is_hill(thing) and plain.is_tree(thing)),
    "book": (errors.BadBook, lambda ground, thing: plain.is_book(thing)),
    "names": (errors.BadNames, lambda ground, thing: is_renaming(ground[0], thing)),
    "lot": (errors.BadLot, lambda ground, thing: plain.is_lot(ground[0], thing)),
    "terrace": (errors.BadTerrace, lambda ground, thing: plain.is_int(thing) and 0 <= thing < ground[0]),
    "water": (errors.BadWater, is_water),
    "deed": (errors.BadDeed, lambda ground, thing: plain.is_deed(ground[0], thing)),
    "script": (errors.BadScript, lambda ground, thing: plain.is_script(ground[0], thing)),
    "couple": (errors.BadCouple, plain.is_couple),
    "kind": (errors.BadKind, plain.is_kind),
    "prices": (errors.BadPrices, lambda ground, thing: plain.are_prices(ground[0], thing)),
    "most": (errors.BadNumber, lambda ground, thing: plain.is_int(thing) and thing >= 0),
    "count": (errors.BadNumber, lambda ground, thing: plain.is_int(thing) and 1 <= thing <= ground[0]),
    "thing": (None, lambda ground, thing: True),
}


def read_function(told):
    """The name of a function, and its parameters with their kinds."""
    name, rest = told.rstrip(")").split("(")
    parts = [(part + ":" + part).split(":")[:2] for part in rest.split(",")]
    return name, [(parameter, kind) for parameter, kind in parts]


def functions():
    """All triples: a module's name, a function's name, its parameters with their kinds."""
    return [(module, *read_function(told)) for module, text in FUNCTIONS.items() for told in text.split()]
