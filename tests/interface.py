"""What DOC.md's interface lists: file by file, name by name."""

import importlib

ERRORS = {
    "FloorError": {
        "PaperError": {"InvalidPaper": ("word", "at")},
        "WorldError": {
            "NotUsable": ("word", "at"),
            "NoCentre": ("total",),
            "NotUneven": ("told",),
            "NotHeld": ("told",),
            "NotPinned": ("told",),
            "NotFit": ("told",),
            "NotMeeting": ("told",),
            "TooMany": ("limit",),
        },
        "LiveError": {
            "Blocked": ("place",),
            "Clash": ("robot",),
            "InvalidEvent": ("event", "reason"),
            "NothingToUndo": ("steps",),
        },
        "TextError": {
            "InvalidText": ("line", "field"),
            "InvalidRule": ("line", "word", "reason"),
            "InvalidLine": ("word",),
            "NoName": ("name",),
        },
    }
}

FUNCTIONS = {
    "kinds": ["is_place(thing)", "is_step(thing)", "is_motion(thing)", "is_row(thing)", "is_standing(thing)"],
    "turns": ["turned(turn, place)", "cone_turn(place)"],
    "motions": [
        "moved(motion, place)",
        "behind(motion, other)",
        "back(motion)",
        "carried(motion, standing)",
        "carried_row(motion, row)",
    ],
    "matching": ["motion_of(row, other)"],
    "standings": [
        "standing_of(*places)",
        "standing_by(row)",
        "box_of(standing)",
        "side_of(standing)",
        "lets_row(thing)",
    ],
    "drawings": ["read_drawing(text)", "show_drawing(standing)"],
    "placetexts": ["place_line(row)", "read_places(text)"],
    "centres": [
        "sum_of(standing)",
        "twice_centre(standing)",
        "about(twice, turn, place)",
        "kept_by(standing, turn)",
    ],
    "folds": ["fold_of(standing)", "kind_of(standing)", "class_of(standing)"],
    "orbits": ["orbits_of(standing)", "orbit_of(standing, place)"],
    "forms": [
        "shifted(standing)",
        "form_of(standing)",
        "placer_of(standing)",
        "alike(standing, other)",
        "carrier_of(standing, other)",
    ],
    "views": ["view_of(standing, place, frame)", "lookalikes(standing, place)"],
    "weights": ["weight_of(standing, place)", "far_ones(standing)", "leader_of(standing)"],
    "hats": ["hat_of(standing, place)", "hats_of(standing)", "place_by(standing, hat)"],
    "pushes": ["after_moves(standing, moves)"],
    "fitting": ["fits(standing, figure)", "why_of(standing, figure)"],
    "foeframes": ["foe_frames(standing)"],
    "barpapers": ["bar_paper(standing, figure)", "lets_bar(standing, figure, thing)"],
    "routes": ["route_of(standing, *figures)"],
    "fittables": ["fit_table(*figures)", "fit_both(standing, other)", "classes_by(many)"],
    "census": ["census(many, wide, high)", "count_of(many, wide, high, told)"],
    "fields": ["field_standings(many, wide, high)"],
    "roads": [
        "distance(place, other)",
        "road(place, other)",
        "other_road(place, other)",
        "last_on(way, places)",
    ],
    "tables": [
        "is_table(thing)",
        "is_partners(many, thing)",
        "total_of(table, partners)",
        "distance_table(places, goals)",
    ],
    "leasts": ["least_total(table)", "least_partners(table)"],
    "prices": ["prices_of(table, partners)", "lets_prices(table, partners, thing)"],
    "fewest": ["fewest(standing, figure)"],
    "steering": ["next_move(standing, goals)", "steered(standing, goals)"],
    "orbittables": [
        "is_kept(fold, thing)",
        "orbits_about(fold, hats)",
        "orbit_table(fold, hats, goals)",
        "orbit_move(fold, hats, goals)",
        "after_orbit(fold, hats, goals)",
    ],
    "homes": ["top_of(figure)", "body_of(figure)", "home_of(figure, many)"],
    "nears": ["near_of(standing, figure)"],
    "pictures": ["picture_of(standing)"],
    "wants": ["want_parts(standing, side)", "want_of(standing, side)"],
    "wished": ["wished_of(standing, figure)", "wished_y(standing, figure)", "wished_table(standing, figure)"],
    "unevenmoves": ["uneven_move(standing, figure)"],
    "unevenlefts": ["uneven_left(standing, figure)", "uneven_most(many, side, other)"],
    "stances": ["stances_of(figure, fold)"],
    "heldhomes": [
        "tops_of(figure, fold, stance, many)",
        "stance_body(figure, fold, stance)",
        "held_home(figure, fold, stance, many)",
    ],
    "heldnears": ["near_held(standing, figure)"],
    "heldpictures": ["held_picture(standing, figure)"],
    "heldwants": ["held_want(standing, figure)", "held_table(standing, figure)"],
    "heldmoves": ["held_moves(standing, figure)"],
    "pinned": ["pinned_depth(standing)", "pinned_moves(standing)"],
    "house": ["house_moves(standing, figure)", "house_step(view, figure)"],
    "lefts": ["left_of(standing, figure)", "most_of(standing, figure)"],
    "ruletrees": ["is_num(names, thing)", "is_test(names, thing)", "is_way(names, thing)", "is_rule(thing)"],
    "rulechecker": ["lets_rule(thing)"],
    "rulewords": ["words_of(text)"],
    "readings": ["read_rule(text)"],
    "showing": ["show_num(num)", "show_test(test)", "show_rule(rule)"],
    "viewwords": ["word_of(word, view, figure)"],
    "numbers": ["number_of(num, names, view, figure)"],
    "truths": ["holds(test, names, view, figure)"],
    "meaning": [
        "names_by(rule, view, figure)",
        "way_of(rule, view, figure)",
        "step_of(rule, view, figure)",
    ],
    "lots": [
        "is_lot(many, thing)",
        "all_lot(many, frame)",
        "lessened(turn, lots)",
        "lot_line(lot)",
        "lots_line(lots)",
        "read_lots(many, text)",
    ],
    "ticks": ["step_in(row, rule, figure, robot, frame)", "tick(row, rule, figure, lot)"],
    "runs": ["run_of(row, rule, figure, lots)", "lets_log(row, rule, figure, lots, thing)"],
    "foes": ["foe_lots(row, figure, many)", "kept_run(row, rule, figure, many)"],
    "moving": ["moves_of(standing, rule, figure)", "single_of(standing, rule, figure)"],
    "courses": ["course_of(standing, rule, figure, many)", "foretold(standing, figure)"],
    "needs": ["needed(row, figure)", "stopped_at(row, figure, robots)"],
    "lates": [
        "late_start(row)",
        "is_event(thing)",
        "is_state(thing)",
        "happen(state, rule, figure, event)",
    ],
    "mends": ["pushed(row, robot, place)", "joined(row, place)", "dropped(row, robot)"],
    "heaps": [
        "is_heaped(thing)",
        "heaped_by(*places)",
        "heap_of(heaped)",
        "fold_about(heaped, place)",
        "heap_form(heaped, place)",
    ],
    "inwards": ["inward(place, other)"],
    "meetings": [
        "meets(standing)",
        "meet_moves(heaped)",
        "meet_tick(heaped, places)",
        "meet_left(heaped)",
        "meet_most(standing)",
    ],
    "meetfoes": ["meet_foe(row, rule, many)"],
    "spans": [
        "span_of(standing)",
        "sector_of(standing, figure)",
        "in_sector(g, place)",
        "sector_turn(g, place)",
    ],
    "pairways": ["pair_way(standing, figure)", "meet_way(standing)"],
    "pairsteps": ["pair_step(standing, figure, seen, taken)", "meet_step(standing, seen, taken)"],
    "pairruns": ["pair_run(standing, figure, lots)", "meet_run(standing, lots)"],
    "stands": ["stand_of(row)", "stand_turn(row)", "is_done(row, figure)"],
    "nexts": ["nexts_of(row, rule, figure)", "stands_after(row, rule, figure)"],
    "reaches": ["reach_of(row, rule, figure, limit)"],
    "verdicts": ["verdict_of(row, rule, figure, limit)"],
    "verdictchecker": ["lets_verdict(row, rule, figure, thing)"],
    "rounds": ["rounds_of(many, lots)", "round_lots(many, rounds)"],
    "desk": ["open_desk(text)"],
}

CLASSES = {
    "floorclasses": {
        "Motion": [
            "__init__(self, turn, a, b)",
            "at(self, place)",
            "of(self, standing)",
            "back(self)",
            "told(self)",
            "__mul__(self, other)",
            "__eq__(self, other)",
        ],
    },
    "figureclasses": {
        "Figures": [
            "__init__(self, *figures)",
            "fitted(self, standing)",
            "route(self, standing)",
            "table(self)",
            "barred(self, standing)",
            "__len__(self)",
            "__eq__(self, other)",
        ],
    },
    "tableclasses": {
        "Table": [
            "__init__(self, *lines)",
            "total(self, partners)",
            "least(self)",
            "best(self)",
            "prices(self)",
            "__len__(self)",
            "__eq__(self, other)",
        ],
    },
    "walks": {
        "Walk": [
            "__init__(self, standing, figure)",
            "now(self)",
            "ahead(self)",
            "go(self, many=1)",
            "left(self)",
            "done(self)",
            "told(self)",
            "__eq__(self, other)",
        ],
    },
    "houseclasses": {
        "House": [
            "__init__(self, figure)",
            "moves(self, standing)",
            "reckon(self, view)",
            "left(self, standing)",
            "most(self, standing)",
            "fitted(self, standing)",
            "__eq__(self, other)",
        ],
    },
    "ruleclasses": {
        "Rule": [
            "__init__(self, text)",
            "way(self, view, figure=None)",
            "reckon(self, view, figure=None)",
            "shown(self)",
            "told(self)",
            "__eq__(self, other)",
        ],
    },
    "runclasses": {
        "Run": [
            "__init__(self, row, rule, figure)",
            "go(self, event)",
            "do_all(self, events, keep=False)",
            "undo(self, steps=1)",
            "now(self)",
            "done(self)",
            "log(self)",
            "__eq__(self, other)",
        ],
    },
    "desk": {
        "Desk": [
            "__init__(self)",
            "do(self, line)",
            "saved(self)",
            "names(self)",
        ],
    },
}


def listed():
    """A dict from each listed name, errors included, to what the package has under it."""
    found = {}
    for file, heads in FUNCTIONS.items():
        module = importlib.import_module("compassless." + file)
        for head in heads:
            name = head.partition("(")[0]
            found[name] = getattr(module, name)
    for file, classes in CLASSES.items():
        module = importlib.import_module("compassless." + file)
        for name in classes:
            found[name] = getattr(module, name)
    module = importlib.import_module("compassless.errors")
    for base, families in ERRORS.items():
        found[base] = getattr(module, base)
        for family, errors in families.items():
            found[family] = getattr(module, family)
            for name in errors:
                found[name] = getattr(module, name)
    return found
