"""The functions of the interface that have landed, and the kind of each parameter."""

from pourdrains import errors
from tests import plain, plain_books, plain_grids, plain_heights, plain_maps, plain_runs

# Each parameter has a kind below; one of the kind "thing" accepts any value without an error.
FUNCTIONS = {
    "hills": """
        is_hill(thing) is_book(thing) closing(book) mirror(hill) is_tree(hill) led_hill(hill,names)
        beside(one:hill,other:hill) product(one:hill,other:hill)
    """,
    "lots": """
        is_lot(hill,thing) is_lower(hill,thing) is_upper(hill,thing) ponds(hill) lower_of(hill,lot) upper_of(hill,lot)
        highest(hill,lot) lowest(hill,lot) judge_lower(hill,lot) lower_holds(hill,lot,thing) just_above(hill,terrace)
        waters(hill) many_waters(hill)
    """,
    "hilltexts": "hill_text(hill) read_hill(text)",
    "scripts": """
        is_deed(hill,thing) is_script(hill,thing) is_water(hill,thing) is_couple(hill,thing) reach(hill,deed)
        run(hill,water,script) couple_of(hill,script) last_reaching(hill,script,terrace) done_to(hill,couple,water)
        couple_then(hill,one:couple,other:couple) script_of(hill,couple) couples(hill)
    """,
    "fewest": "fewest(hill,couple) fewest_script(hill,couple) serving(hill:tree,couple)",
    "prices": """
        cheapest(hill,couple,prices) cheapest_script(hill,couple,prices) judge_cheapest(hill,couple,prices,most)
        cheapest_holds(hill,couple,prices,most,thing) led_price(hill,water,other:water,prices)
        judge_led(hill,water,other:water,prices,most) led_holds(hill,water,other:water,prices,most,thing)
        wish_price(hill,water,wet:lot,dry:lot,prices)
    """,
    "kinds": """
        is_kind(book,thing) world_of(book,kind) standing(book,script,kind) kind_in(hill,names:count,terrace)
    """,
    "steps": "stepped(book,script,step) tidy(book,script) is_tidy(book,script)",
    "alike": """
        are_alike(book,one:script,other:script) judge_alike(book,one:script,other:script)
        alike_holds(book,one:script,other:script,thing) judge_never_wetter(book,one:script,other:script)
        never_wetter_holds(book,one:script,other:script,thing)
    """,
    "plans": """
        is_plan(book,thing) plan_of_hands(book,hands) is_weaving(book,plan,thing) weavings(book,plan)
        many_weavings(book,plan) woven(book,plan,weaving)
    """,
    "certain": """
        can_be_last(book,plan,kind) judge_certain(book,plan) certain_holds(book,plan,thing) clashes(book,plan)
        are_waits(book,plan,thing) fewest_waits(book,plan) ends(hill,plan)
    """,
    "programs": """
        is_program(book:book_of_3,thing) grounds(book:book_of_3) run_of(book:book_of_3,program,ground,water)
        judge_ends(book:book_of_3,program) ends_holds(book:book_of_3,program,thing)
        judge_always(book:book_of_3,program,wet:lot,dry:lot) always_holds(book:book_of_3,program,wet:lot,dry:lot,thing)
        judge_programs(book:book_of_3,one:program,other:program)
        programs_hold(book:book_of_3,one:program,other:program,thing)
    """,
    "notes": """
        is_notes(book:book_of_4,thing) fitting(book:book_of_4,notes) many_fitting(book:book_of_4,notes)
        judge_pair(book:book_of_4,notes,a:terrace,b:but_2) pair_holds(book:book_of_4,notes,a:terrace,b:but_2,thing)
        sure_pairs(book:book_of_4,notes) water_now(book:book_of_4,notes) best_look(book:book_of_4,notes)
    """,
    "lost": """
        fewest_lost(book:book_of_4,notes) judge_lost(book:book_of_4,notes,most)
        lost_holds(book:book_of_4,notes,most,thing)
    """,
    "chances": """
        is_weights(hill,thing) long_share(hill,weights,terrace) long_chances(hill,weights) mean_wait(hill,weights)
        after_ticks(hill,weights,water,t:most) forgotten_by(hill,weights,t:most)
    """,
    "speeds": "convex_lots(hill) speeds(hill,weights) trace_of(hill,weights,t:most)",
    "heights": """
        are_heights(hill,h,thing) is_height_script(hill,h,thing) run_heights(hill,h,heights,script:height_script)
        water_at(hill,h,heights,level) script_at(hill,h,script:height_script,level) tall_hill(hill,h)
        tall_water(hill,h,heights) tall_deed(hill,h,deed:height_deed)
        judge_heights_alike(book,h,one:height_script,other:height_script)
        heights_alike_holds(book,h,one:height_script,other:height_script,thing)
    """,
    "grids": """
        is_point(d,thing) is_tops(d,thing) highest_points(d,points) lowest_points(d,points) poured(d,tops,point)
        opened(d,tops,point) is_wet(d,tops,point) many_wet(d,tops)
    """,
    "staircases": """
        is_grid_script(d,thing) run_grid(d,tops,script:grid_script) grid_couple(d,script:grid_script)
        behind_grid(d,first:grid_couple,second:grid_couple) rounds_couple(d,script:grid_script,shift:point,n:rounds)
        box_of(d,b)
    """,
    "maps": """
        is_map(one:hill,other:hill,thing) many_maps(one:hill,other:hill)
        carried_water(one:hill,other:hill,places,water) pushed_water(one:hill,other:hill,places,water)
        carried_deed(one:hill,other:hill,places,deed) carried_script(one:hill,other:hill,places,script)
        judge_single(one:hill,other:hill,places) single_holds(one:hill,other:hill,places,thing)
    """,
    "kindred": """
        kinds_on(hill,names:unlike) least_part(hill,names:unlike) judge_hills(one:hill,other:as_large)
        hills_hold(one:hill,other:as_large,thing)
    """,
    "blame": """
        deciders(hill,script) needless(hill,script) loose_places(hill,script) meets(hill,script,wishes)
        are_strikes(hill,script,wishes,thing) fewest_strikes(hill,script,wishes) laid_to(hill,hands,terrace)
    """,
    "works": "read_works(text)",
}

# The methods of works, with the kinds of their parameters.
METHODS = """
    hill() water() promises() book_of_deeds() text() undoable() redoable() do(script) would(script) promise(thing)
    release(thing) raise_pair(a:terrace,b:but_2) undo() redo() copied() is_same(thing)
"""


def is_renaming(many, thing):
    return plain.is_lot(many, tuple(sorted(thing)) if plain_integers(thing) else None) and len(thing) == many


def plain_integers(thing):
    return type(thing) is tuple and all(plain.is_int(item) for item in thing)


def is_water(hill, thing):
    return plain.is_lot(hill[0], thing) and plain.is_lower(hill, thing)


def is_book_within(thing, most):
    return plain.is_book(thing) and thing[0] <= most


def is_weights(hill, thing):
    if type(thing) is not tuple or not thing or not all(type(row) is tuple and len(row) == 2 for row in thing):
        return False
    if not all(plain.is_deed(hill[0], deed) and plain.is_int(number) for deed, number in thing):
        return False
    deeds = [deed for deed, _ in thing]
    return all(1 <= number <= 1000 for _, number in thing) and deeds == sorted(set(deeds))


# A script and a plan for a book of three names; steps and weavings are right or wrong for these.
SCRIPT = (("pour", 2), ("open", 0))
PLAN = ((("pour", 2), ("open", 0), ("pour", 1)), ((0, 2),))

# For each kind: what is wrong is raised with, and whether any value is right, by the hill or book ahead.
KINDS = {
    "hill": (errors.BadHill, lambda ground, thing: plain.is_hill(thing)),
    "tree": (errors.BadHill, lambda ground, thing: plain.is_hill(thing) and plain.is_tree(thing)),
    "book": (errors.BadBook, lambda ground, thing: plain.is_book(thing)),
    "names": (errors.BadNames, lambda ground, thing: is_renaming(ground[0], thing)),
    "lot": (errors.BadLot, lambda ground, thing: plain.is_lot(ground[0], thing)),
    "terrace": (errors.BadTerrace, lambda ground, thing: plain.is_int(thing) and 0 <= thing < ground[0]),
    "water": (errors.BadWater, is_water),
    "deed": (errors.BadDeed, lambda ground, thing: plain.is_deed(ground[0], thing)),
    "script": (errors.BadScript, lambda ground, thing: plain.is_script(ground[0], thing)),
    "couple": (errors.BadCouple, plain.is_couple),
    "kind": (errors.BadKind, plain.is_kind),
    "prices": (errors.BadPrices, lambda ground, thing: plain.are_prices(ground[0], thing)),
    "most": (errors.BadNumber, lambda ground, thing: plain.is_int(thing) and thing >= 0),
    "count": (errors.BadNumber, lambda ground, thing: plain.is_int(thing) and 1 <= thing <= ground[0]),
    "step": (errors.BadStep, lambda ground, thing: plain_books.stepped(ground, SCRIPT, thing) is not None),
    "plan": (errors.BadPlan, lambda ground, thing: plain_books.is_plan(ground[0], thing)),
    "hands": (errors.BadPlan, lambda ground, thing: plain_books.are_hands(ground[0], thing)),
    "weaving": (errors.BadWeaving, lambda ground, thing: plain_books.is_weaving(PLAN, thing)),
    "book_of_3": (errors.BadBook, lambda ground, thing: is_book_within(thing, 3)),
    "book_of_4": (errors.BadBook, lambda ground, thing: is_book_within(thing, 4)),
    "program": (errors.BadProgram, lambda ground, thing: plain_runs.is_program(ground[0], thing)),
    "ground": (errors.BadHill, plain_runs.is_ground),
    "notes": (errors.BadNotes, lambda ground, thing: plain_runs.is_notes(ground[0], thing)),
    # A name that is not the name 2 ahead of it.
    "but_2": (errors.BadTerrace, lambda ground, thing: plain.is_int(thing) and thing in (0, 1)),
    "weights": (errors.BadWeights, is_weights),
    "h": (errors.BadNumber, lambda ground, thing: plain.is_int(thing) and 1 <= thing <= 4),
    # Heights and levels are to 2, points of two directions.
    "level": (errors.BadNumber, lambda ground, thing: plain.is_int(thing) and 1 <= thing <= 2),
    "heights": (errors.BadHeights, lambda ground, thing: plain_heights.are_heights(ground, 2, thing)),
    "height_script": (errors.BadScript, lambda ground, thing: plain_heights.is_height_script(ground[0], 2, thing)),
    "height_deed": (errors.BadDeed, lambda ground, thing: plain_heights.is_height_deed(ground[0], 2, thing)),
    "tops": (errors.BadWater, lambda ground, thing: plain_grids.is_tops(2, thing)),
    "point": (errors.BadPoint, lambda ground, thing: plain_grids.is_point(2, thing)),
    "grid_script": (errors.BadScript, lambda ground, thing: plain_grids.is_script(2, thing)),
    "grid_couple": (errors.BadCouple, lambda ground, thing: plain_grids.is_couple(2, thing)),
    "rounds": (errors.BadNumber, lambda ground, thing: plain.is_int(thing) and 1 <= thing <= 10 ** 30),
    "b": (errors.BadNumber, lambda ground, thing: plain.is_int(thing) and thing in (0, 1, 2)),
    # Maps of the hill into itself.
    "places": (errors.BadMap, lambda ground, thing: plain_maps.is_map(ground, ground, thing)),
    "unlike": (errors.BadLot, lambda ground, thing: plain_maps.are_names(ground[0], thing)),
    "as_large": (errors.BadHill, lambda ground, thing: plain.is_hill(thing) and thing[0] == ground[0]),
    "wishes": (errors.BadWishes, lambda ground, thing: plain_maps.are_wishes(ground[0], thing)),
    # Nothing is promised for another value as d, or as points that are no tuple.
    "d": (None, lambda ground, thing: True),
    "points": (None, lambda ground, thing: True),
    "thing": (None, lambda ground, thing: True),
}

# The kinds of which nothing is wrong.
FREE = [kind for kind, (error, _) in KINDS.items() if error is None]


def read_function(told):
    """The name of a function, and its parameters with their kinds."""
    name, rest = told.rstrip(")").split("(")
    parts = [(part + ":" + part).split(":")[:2] for part in rest.split(",")]
    return name, [(parameter, kind) for parameter, kind in parts if parameter]


def functions():
    """All triples: a module's name, a function's name, its parameters with their kinds."""
    return [(module, *read_function(told)) for module, text in FUNCTIONS.items() for told in text.split()]


def methods():
    """All pairs: the name of a method of works, its parameters with their kinds."""
    return [read_function(told) for told in METHODS.split()]
