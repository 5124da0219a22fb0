"""The interface of the modules: each function with its arguments, their kinds and right values."""

SUM = (6, (1, 2))
REAL = (6, (3, 0))
UNREAL = (6, (0, 1))
ROW = (1, 0, -1, 0, 0, 0)
NEXT_ROW = (0, 1, 0, -1, 0, 0)
WIDE = (1, 0, -1, 0, 0, 0, 0, 0)
WINDING = ((1, 0, 0, -1, 0, 0), (0, 0, 1, 0, 0, -1), (0, -1, 0, 0, 1, 0))
COILS = ((0, 0, 3, 1), (1, 2, 5, 1))
JOINING = ((0, 1), (2, -1), (0, 1))
TEST = ((1, -1, 0), 1)
FINDING = (TEST, ("from", (5, 1)))
ROOM = ((1, 2, 1, 1, 0, 1), (1, 0, 1, 1, 1, 1))
POINT = (2, -1)

# Each function: the arguments in their order, as (name, kind, a right value).
FUNCTIONS = {
    "roots": {
        "orders_polynomial": [("order", "order", 6)],
        "is_sum": [("value", None, SUM)],
        "sum_of": [("order", "order", 6), ("numbers", "numbers", (1, 2, 3))],
        "added": [("number", "sum", SUM), ("other", "sum", REAL)],
        "subtracted": [("number", "sum", SUM), ("other", "sum", REAL)],
        "product": [("number", "sum", SUM), ("other", "sum", REAL)],
        "conjugate": [("number", "sum", SUM)],
        "times_root": [("number", "sum", SUM), ("power", "number", 4)],
        "changed": [("number", "sum", SUM), ("power", "unit", 5)],
        "led_up": [("number", "sum", SUM), ("order", "order", 12)],
        "led_down": [("number", "sum", SUM), ("order", "order", 3)],
        "is_real": [("number", "sum", SUM)],
        "size_of": [("number", "sum", SUM)],
        "sign_of": [("number", "sum", REAL)],
        "compare_real": [("number", "sum", REAL), ("other", "sum", REAL)],
        "compare_to": [("number", "sum", REAL), ("fraction", "fraction", (1, 2))],
    },
    "rows": {
        "is_row": [("value", None, ROW)],
        "is_phase": [("value", None, ROW)],
        "is_winding": [("value", None, WINDING)],
        "is_coil": [("value", None, COILS[0])],
        "winding_of": [("coils", "coils", COILS), ("slots", "slots", 6), ("phases", "phases", 3)],
        "some_coils": [("phase", "phase", ROW)],
        "turned_row": [("row", "row", ROW), ("turn", "number", 2)],
        "mirrored_row": [("row", "row", ROW)],
        "added_rows": [("row", "row", ROW), ("other", "row", NEXT_ROW)],
        "scaled_row": [("row", "row", ROW), ("many", "number", 2)],
        "conductors_of": [("row", "row", ROW)],
        "differences_of": [("row", "row", ROW)],
    },
    "harmonics": {
        "order_of": [("slots", "slots", 6), ("harmonic", "number", 1)],
        "takes_up": [("row", "row", ROW), ("harmonic", "number", 1)],
        "is_there": [("row", "row", ROW), ("harmonic", "number", 1)],
        "orders_there": [("row", "row", ROW)],
        "orders_gone": [("row", "row", ROW)],
        "size_at": [("row", "row", ROW), ("harmonic", "number", 1)],
        "compare_sizes": [("row", "row", ROW), ("harmonic", "number", 1), ("other", "row", NEXT_ROW),
                          ("twin", "number", 2)],
        "same_sizes": [("row", "row", ROW), ("other", "row", NEXT_ROW)],
        "parting_harmonic": [("row", "row", ROW), ("other", "row", NEXT_ROW)],
        "parting_size": [("row", "row", ROW), ("other", "row", NEXT_ROW)],
    },
    "lattices": {
        "lacks": [("row", "row", ROW), ("orders", "orders", (1, 2))],
        "lacking_base": [("slots", "slots", 6), ("orders", "orders", (1, 2))],
        "shares_of": [("row", "row", ROW), ("orders", "orders", (1, 2))],
        "phase_with": [("slots", "slots", 6), ("harmonic", "number", 1), ("orders", "orders", (2,))],
    },
    "balance": {
        "is_rate": [("value", None, (3, 1))],
        "rate_at": [("winding", "winding", WINDING), ("harmonic", "number", 1)],
        "is_balanced": [("winding", "winding", WINDING), ("harmonic", "number", 1), ("rate", "rate", (3, 1))],
        "unbalancing_harmonic": [("winding", "winding", WINDING)],
        "can_balance": [("slots", "slots", 6), ("phases", "phases", 3), ("harmonic", "number", 1),
                        ("rate", "rate", (3, 1))],
        "balanced_winding": [("slots", "slots", 6), ("phases", "phases", 3), ("harmonic", "number", 1),
                             ("rate", "rate", (3, 1)), ("barred", "orders", (2,))],
    },
    "copies": {
        "steps_of": [("winding", "winding", WINDING)],
        "rate_of_step": [("slots", "slots", 6), ("harmonic", "number", 1), ("step", "step", (5, -1))],
        "copied_winding": [("phase", "phase", ROW), ("phases", "phases", 3), ("step", "step", (2, 1))],
        "is_full": [("winding", "winding", WINDING), ("conductors", "conductors", 1)],
        "has_full": [("slots", "slots", 6), ("phases", "phases", 3), ("conductors", "conductors", 1),
                     ("step", "step", (2, 1))],
        "full_steps": [("slots", "slots", 6), ("phases", "phases", 3), ("conductors", "conductors", 1),
                       ("harmonic", "number", 1), ("rate", "rate", (3, 1))],
        "full_winding": [("slots", "slots", 6), ("phases", "phases", 3), ("conductors", "conductors", 1),
                         ("harmonic", "number", 1), ("rate", "rate", (3, 1))],
        "count_full": [("slots", "slots", 6), ("phases", "phases", 3), ("step", "step", (2, 1))],
    },
    "alike": {
        "is_currents": [("value", None, "any")],
        "are_alike": [("winding", "winding", WINDING), ("other", "winding", WINDING),
                      ("currents", "currents", ("even", (3, 1)))],
        "are_alike_at": [("winding", "winding", WINDING), ("other", "winding", WINDING),
                         ("currents", "currents", "closed"), ("harmonic", "number", 1)],
        "unlike_harmonic": [("winding", "winding", WINDING), ("other", "winding", WINDING),
                            ("currents", "currents", "any")],
        "parting_currents": [("winding", "winding", WINDING), ("other", "winding", WINDING),
                             ("currents", "plain_currents", "any")],
        "alike_turns": [("winding", "winding", WINDING), ("other", "winding", WINDING),
                        ("currents", "currents", "any")],
    },
    "ways": {
        "orders_for": [("slots", "slots", 6), ("first", "number", 1), ("every", "number", 2)],
        "folded": [("row", "row", ROW), ("many", "divisor", 3)],
        "folded_against": [("row", "row", ROW), ("many", "half_divisor", 3)],
        "loud_orders": [("ways", "ways", WINDING)],
        "is_quiet": [("ways", "ways", WINDING), ("orders", "orders", (2,))],
        "shared_ways": [("groups", "groups", WINDING), ("sharing", "sharing", (0, 1, 0))],
        "sharings": [("groups", "groups", WINDING), ("many", "ways_number", 2), ("orders", "orders", (2,))],
        "most_ways": [("groups", "groups", WINDING), ("orders", "orders", (2,))],
    },
    "poles": {
        "joined": [("groups", "six_groups", WINDING), ("phases", "phases", 3), ("joining", "joining", JOINING)],
        "joinings_for": [("groups", "six_groups", WINDING), ("phases", "phases", 3), ("harmonic", "number", 1),
                         ("rate", "rate", (3, 2))],
        "orders_joined": [("groups", "six_groups", WINDING), ("phases", "phases", 3), ("root_order", "phases", 3)],
        "nearest_joining": [("groups", "six_groups", WINDING), ("phases", "phases", 3), ("joining", "joining", JOINING),
                            ("harmonic", "number", 1), ("rate", "rate", (3, 1))],
    },
    "wrongs": {
        "wrongs_of": [("coils", "coils", COILS)],
        "wrong_winding": [("coils", "coils", COILS), ("slots", "slots", 6), ("phases", "phases", 3),
                          ("wrong", "wrong", ("swapped", 0, 1))],
        "blind_pairs": [("coils", "coils", COILS), ("slots", "slots", 6), ("phases", "phases", 3)],
    },
    "readings": {
        "is_test": [("value", None, TEST), ("phases", "phases", 3)],
        "reading_of": [("winding", "winding", WINDING), ("test", "test", TEST)],
        "parts": [("winding", "winding", WINDING), ("other", "winding", WINDING[::-1]), ("test", "test", TEST)],
        "never_parted": [("winding", "winding", WINDING), ("other", "winding", WINDING[::-1])],
        "is_found": [("winding", "winding", WINDING), ("finding", "finding", FINDING)],
        "left_by": [("coils", "coils", COILS), ("slots", "slots", 6), ("phases", "phases", 3),
                    ("findings", "findings", (FINDING,))],
        "fewest_tests": [("coils", "coils", COILS), ("slots", "slots", 6), ("phases", "phases", 3),
                         ("tests", "tests", (TEST, TEST))],
    },
    "stars": {
        "star": [("slots", "slots", 6), ("harmonic", "number", 2)],
        "is_choice": [("room", "room", ROOM), ("many", "positive", 2), ("phase", "phase", ROW)],
        "gathered": [("room", "room", ROOM), ("many", "positive", 2), ("harmonic", "number", 1), ("sight", "sight", 3)],
        "strongest": [("room", "room", ROOM), ("many", "positive", 2), ("harmonic", "number", 1)],
        "greatest_size": [("room", "room", ROOM), ("many", "positive", 2), ("harmonic", "number", 1)],
        "better_choice": [("room", "room", ROOM), ("many", "positive", 2), ("harmonic", "number", 1),
                          ("phase", "phase", ROW)],
        "wide_belts": [("slots", "slots", 6), ("harmonic", "number", 1), ("phases", "phases", 2)],
        "narrow_belts": [("slots", "slots", 6), ("harmonic", "number", 1), ("phases", "narrow", 3)],
    },
    "spans": {
        "span_phase": [("starts", "row", ROW), ("span", "span", 2)],
        "lap": [("belts", "belts", WINDING), ("span", "span", 2)],
        "span_kills": [("slots", "slots", 6), ("span", "span", 4)],
        "spans_without": [("slots", "slots", 6), ("orders", "orders", (1, 2))],
        "best_spans": [("slots", "slots", 6), ("harmonic", "number", 1), ("orders", "orders", (2,))],
        "starts_of": [("phase", "phase", ROW), ("span", "span", 2)],
        "is_fewest": [("starts", "row", ROW), ("span", "span", 3)],
    },
    "chains": {
        "chain_row": [("slots", "slots", 6), ("chain", "chain", (("span", 2), ("belt", 2, 3)))],
        "chain_kills": [("slots", "slots", 6), ("chain", "chain", (("span", 2), ("belt", 2, 3)))],
        "chain_for": [("slots", "slots", 6), ("harmonic", "number", 1), ("orders", "orders", (2,))],
    },
    "ends": {
        "distance": [("slots", "slots", 6), ("slot", "slot", 1), ("other", "slot", 5)],
        "flow": [("phase", "phase", ROW)],
        "levels": [("phase", "phase", ROW)],
        "least_ends": [("phase", "phase", ROW)],
        "short_coils": [("phase", "phase", ROW)],
        "ends_of": [("coils", "coils", COILS), ("slots", "slots", 6)],
        "are_shortest": [("coils", "coils", COILS), ("slots", "slots", 6)],
    },
    "points": {
        "point_product": [("point", "point", POINT), ("other", "point", (0, 3))],
        "turned_point": [("point", "point", POINT), ("sixths", "number", 5)],
        "mirrored_point": [("point", "point", POINT)],
        "norm_of": [("point", "point", POINT)],
    },
    "polygons": {
        name: [("winding", "winding", WINDING)]
        for name in ("slot_points", "corners", "polygon", "is_flat", "mean_square", "peak", "peak_teeth", "pulse",
                     "sweep")
    },
    "waves": {
        "wave": [("winding", "winding", WINDING), ("harmonic", "number", 1)],
        "is_wave": [("winding", "winding", WINDING), ("harmonic", "number", 1)],
        "waves": [("winding", "winding", WINDING)],
        "compare_waves": [("winding", "winding", WINDING), ("harmonic", "wave_number", 1), ("other", "wave_number", -5)],
        "strongest_waves": [("winding", "winding", WINDING)],
        "is_leak_below": [("winding", "winding", WINDING), ("harmonic", "wave_number", 1),
                          ("fraction", "fraction", (1, 10))],
    },
    "symmetries": {
        "is_repeat": [("winding", "winding", WINDING), ("turn", "number", 1), ("sixths", "number", 5)],
        "least_repeat": [("winding", "winding", WINDING)],
        "class_of_waves": [("winding", "winding", WINDING)],
        "mirrors": [("winding", "winding", WINDING)],
    },
    "moments": {
        "currents_at": [("moment", "moment", 3)],
        "field_at": [("winding", "winding", WINDING), ("moment", "moment", 3)],
        "square_at": [("winding", "winding", WINDING), ("moment", "moment", 4)],
    },
    "forces": {
        "standing_row": [("winding", "winding", WINDING)],
        "beating_points": [("winding", "winding", WINDING)],
        "has_standing": [("winding", "winding", WINDING), ("lobes", "number", 0)],
        "has_beating": [("winding", "winding", WINDING), ("lobes", "number", 2)],
        "standing_orders": [("winding", "winding", WINDING)],
        "beating_classes": [("winding", "winding", WINDING)],
        "beaten_into": [("winding", "winding", WINDING)],
        "least_lobes": [("winding", "winding", WINDING)],
        "pulls": [("winding", "winding", WINDING)],
        "is_pulled_at": [("winding", "winding", WINDING), ("moment", "moment", 11)],
    },
    "rotors": {
        "mixed_lobes": [("winding", "winding", WINDING), ("pairs", "pairs", 1)],
        "mixed_pulls": [("winding", "winding", WINDING), ("pairs", "pairs", 60)],
        "is_ripple": [("winding", "winding", WINDING), ("pairs", "pairs", 1), ("many", "from_nought", 3)],
        "ripples": [("winding", "winding", WINDING), ("pairs", "pairs", 5)],
        "least_ripple": [("winding", "winding", WINDING), ("pairs", "pairs", 1)],
    },
    "checker": {
        "accepts": [("claim", None, ("there", ROW, 1)), ("paper", None, ())],
    },
    "certificates": {
        "certify_harmonic": [("row", "row", ROW), ("harmonic", "number", 1)],
        "certify_sizes": [("row", "row", ROW), ("harmonic", "number", 1), ("other", "row", NEXT_ROW),
                          ("twin", "number", 2)],
        "certify_same_sizes": [("row", "row", ROW), ("other", "row", NEXT_ROW)],
        "certify_lacking": [("row", "row", ROW), ("orders", "orders", (1, 2))],
        "certify_phase": [("slots", "slots", 6), ("harmonic", "number", 1), ("orders", "orders", (2,))],
        "certify_balance": [("winding", "winding", WINDING), ("harmonic", "number", 1)],
        "certify_always": [("winding", "winding", WINDING)],
        "certify_balancing": [("slots", "slots", 6), ("phases", "phases", 3), ("harmonic", "number", 1),
                              ("rate", "rate", (3, 1))],
        "certify_step": [("winding", "winding", WINDING), ("step", "step", (5, -1))],
        "certify_full": [("slots", "slots", 6), ("phases", "phases", 3), ("conductors", "conductors", 1),
                         ("harmonic", "number", 1), ("rate", "rate", (3, 1))],
        "certify_alike": [("winding", "winding", WINDING), ("other", "winding", WINDING),
                          ("currents", "currents", ("even", (3, 1)))],
        "certify_ways": [("ways", "ways", WINDING), ("orders", "orders", (2,))],
        "certify_sharing": [("groups", "groups", WINDING), ("many", "ways_number", 2), ("orders", "orders", (2,))],
        "certify_joining": [("groups", "six_groups", WINDING), ("phases", "phases", 3), ("harmonic", "number", 1),
                            ("rate", "rate", (3, 2))],
        "certify_parting": [("winding", "winding", WINDING), ("other", "winding", WINDING[::-1])],
        "certify_choice": [("room", "room", ROOM), ("many", "positive", 2), ("harmonic", "number", 1),
                           ("phase", "phase", ROW)],
        "certify_span": [("phase", "phase", ROW), ("span", "span", 2)],
        "certify_fewest": [("phase", "phase", ROW), ("span", "span", 2)],
        "certify_ends": [("phase", "phase", ROW)],
        "certify_wave": [("winding", "winding", WINDING), ("harmonic", "number", 1)],
        "certify_classes": [("winding", "winding", WINDING), ("many", "positive", 6)],
        "certify_leak": [("winding", "winding", WINDING), ("harmonic", "wave_number", 1),
                         ("fraction", "fraction", (1, 10))],
        "certify_repeat": [("winding", "winding", WINDING), ("turn", "number", 1), ("sixths", "number", 5)],
        "certify_pull": [("winding", "winding", WINDING)],
        "certify_ripple": [("winding", "winding", WINDING), ("pairs", "pairs", 1), ("many", "from_nought", 3)],
    },
}

# What is told with "last": module, function, arguments that are right by themselves, the error, and what it keeps.
LAST = [
    ("roots", "added", (SUM, (3, (1, 1))), "Unlike", (3, (1, 1))),
    ("roots", "subtracted", (SUM, (3, (1, 1))), "Unlike", (3, (1, 1))),
    ("roots", "product", (SUM, (12, (1, 1, 0, 0))), "Unlike", (12, (1, 1, 0, 0))),
    ("roots", "led_up", (SUM, 9), "NoMultiple", 9),
    ("roots", "led_up", (SUM, 3), "NoMultiple", 3),
    ("roots", "led_down", (SUM, 4), "NoDivisor", 4),
    ("roots", "led_down", (SUM, 12), "NoDivisor", 12),
    ("roots", "sign_of", (UNREAL,), "NotReal", UNREAL),
    ("roots", "compare_real", (REAL, (3, (1, 0))), "Unlike", (3, (1, 0))),
    ("roots", "compare_real", (UNREAL, (3, (0, 1))), "NotReal", UNREAL),
    ("roots", "compare_real", (REAL, (3, (0, 1))), "NotReal", (3, (0, 1))),
    ("roots", "compare_to", (UNREAL, (1, 2)), "NotReal", UNREAL),
    ("rows", "winding_of", (((0, 0, 3, 1), (3, 2, 5, 1)), 6, 3), "InvalidCoils", 1),
    ("rows", "winding_of", (((0, 6, 3, 1), (3, 2, 5, 1)), 6, 3), "InvalidCoils", 0),
    ("rows", "winding_of", (((0, 0, 3, 1), (0, 0, 1, 1), (0, 2, 59, 1)), 59, 3), "InvalidCoils", 2),
    ("rows", "added_rows", (ROW, WIDE), "Unlike", WIDE),
    ("harmonics", "compare_sizes", (ROW, 1, WIDE, 1), "Unlike", WIDE),
    ("harmonics", "same_sizes", (ROW, WIDE), "Unlike", WIDE),
    ("harmonics", "parting_harmonic", (ROW, WIDE), "Unlike", WIDE),
    ("harmonics", "parting_size", (ROW, WIDE), "Unlike", WIDE),
]
for _other in ((WIDE,) * 3, WINDING[:2], (WIDE,) * 2):
    LAST += [
        ("alike", "are_alike", (WINDING, _other, "any"), "Unlike", _other),
        ("alike", "are_alike_at", (WINDING, _other, ("even", (3, 1)), 1), "Unlike", _other),
        ("alike", "unlike_harmonic", (WINDING, _other, "closed"), "Unlike", _other),
        ("alike", "parting_currents", (WINDING, _other, "closed"), "Unlike", _other),
        ("alike", "alike_turns", (WINDING, _other, "any"), "Unlike", _other),
    ]

SIX = WINDING + WINDING
NINE_COILS = tuple((k % 3, k % 6, (k + 1) % 6, 1) for k in range(9))
UNFIT_COILS = NINE_COILS[:8] + ((0, 0, 6, 1),)
SMALL_ROOM = ((1, 0, 1, 0, 0, 0), (1, 1, 1, 1, 1, 1))
LAST += [
    ("poles", "joinings_for", (SIX, 4, 1, (3, 1)), "TooMany", 8 ** 6),
    ("poles", "joinings_for", (SIX[:5], 5, 1, (3, 1)), "TooMany", 10 ** 5),
    ("poles", "orders_joined", (SIX, 6, 2), "TooMany", 12 ** 6),
    ("poles", "nearest_joining", (SIX, 6, ((5, -1),) * 6, 1, (3, 1)), "TooMany", 12 ** 6),
    ("wrongs", "wrongs_of", (NINE_COILS,), "TooMany", 9),
    ("wrongs", "wrongs_of", (COILS * 30,), "TooMany", 60),
    ("stars", "is_choice", (ROOM, 2, WIDE), "Unlike", WIDE),
    ("stars", "gathered", (SMALL_ROOM, 3, 1, 0), "NoChoice", None),
    ("stars", "gathered", (SMALL_ROOM[::-1], 3, 1, 0), "NoChoice", None),
    ("stars", "gathered", (ROOM, 10 ** 40, 1, 0), "NoChoice", None),
    ("stars", "strongest", (SMALL_ROOM, 3, 1), "NoChoice", None),
    ("stars", "greatest_size", (SMALL_ROOM, 3, 0), "NoChoice", None),
    ("stars", "better_choice", (SMALL_ROOM, 3, 1, WIDE), "Unlike", WIDE),
    ("stars", "better_choice", (SMALL_ROOM, 3, 1, ROW), "NotAChoice", ROW),
    ("stars", "better_choice", (ROOM, 2, 1, (-1, 1, 0, 0, 1, -1)), "NotAChoice", (-1, 1, 0, 0, 1, -1)),
    ("stars", "wide_belts", (6, 1, 4), "NoBelts", None),
    ("stars", "wide_belts", (6, 2, 6), "NoBelts", None),
    ("stars", "wide_belts", (6, 0, 2), "NoBelts", None),
    ("stars", "narrow_belts", (6, 3, 3), "NoBelts", None),
    ("stars", "narrow_belts", (6, 1, 5), "NoBelts", None),
    ("ends", "ends_of", (((0, 0, 3, 1), (5, 5, 6, 1)), 6), "InvalidCoils", 1),
    ("ends", "are_shortest", (((0, 59, 3, 1), (5, 5, 6, 1)), 59), "InvalidCoils", 0),
]
for _coils, _error, _kept in ((NINE_COILS, "TooMany", 9), (UNFIT_COILS, "InvalidCoils", 8), (COILS * 9, "TooMany", 18),
                              (((0, 0, 1, 1), (3, 0, 1, 1)), "InvalidCoils", 1)):
    LAST += [
        ("wrongs", "wrong_winding", (_coils, 6, 3, ("swapped", 0, 1)), _error, _kept),
        ("wrongs", "wrong_winding", (_coils, 6, 3, ("out", len(_coils) - 1)), _error, _kept),
        ("wrongs", "blind_pairs", (_coils, 6, 3), _error, _kept),
        ("readings", "left_by", (_coils, 6, 3, (FINDING,)), _error, _kept),
        ("readings", "fewest_tests", (_coils, 6, 3, (TEST,)), _error, _kept),
    ]
for _other in ((WIDE,) * 3, WINDING[:2], (WIDE,) * 2):
    LAST += [
        ("readings", "parts", (WINDING, _other, TEST), "Unlike", _other),
        ("readings", "never_parted", (WINDING, _other), "Unlike", _other),
    ]
FOR_THREE = [(_module, _name) for _module in ("polygons", "waves", "symmetries", "moments", "forces", "rotors")
             for _name in FUNCTIONS[_module] if _name != "currents_at"]
FOR_THREE += [("certificates", "certify_" + _name) for _name in ("wave", "classes", "leak", "repeat", "pull", "ripple")]
for _module, _name in FOR_THREE:
    for _phases in (1, 2, 4, 5, 6):
        _values = (SIX[:_phases],) + tuple(_right for _, _, _right in FUNCTIONS[_module][_name][1:])
        LAST.append((_module, _name, _values, "NotThree", _phases))
FLAT = (ROW,) * 3
TWO_PHASES, WIDE_PHASES = WINDING[:2], (WIDE,) * 3
for _winding, _harmonic in ((FLAT, 1), (WINDING, 2), (WINDING, 6), (WINDING, -1), (WINDING, 6 * 10 ** 39)):
    LAST.append(("waves", "is_leak_below", (_winding, _harmonic, (1, 10)), "NoWave", None))
    LAST.append(("certificates", "certify_leak", (_winding, _harmonic, (1, 10)), "NoWave", None))
LAST.append(("waves", "is_leak_below", (SIX[:2], 6, (1, 10)), "NotThree", 2))
LAST += [
    ("certificates", "certify_sizes", (ROW, 1, WIDE, 1), "Unlike", WIDE),
    ("certificates", "certify_same_sizes", (ROW, WIDE), "Unlike", WIDE),
    ("certificates", "certify_alike", (WINDING, TWO_PHASES, ("even", (3, 1))), "Unlike", TWO_PHASES),
    ("certificates", "certify_alike", (WINDING, WIDE_PHASES, "any"), "Unlike", WIDE_PHASES),
    ("certificates", "certify_parting", (WINDING, TWO_PHASES), "Unlike", TWO_PHASES),
    ("certificates", "certify_joining", (SIX, 4, 1, (3, 1)), "TooMany", 8 ** 6),
    ("certificates", "certify_choice", (SMALL_ROOM, 3, 1, WIDE), "Unlike", WIDE),
    ("certificates", "certify_choice", (SMALL_ROOM, 3, 1, ROW), "NotAChoice", ROW),
    ("certificates", "certify_fewest", (ROW, 3), "NoStarts", None),
    ("certificates", "certify_fewest", ((1, 0, 0, -1, 0, 0), 2), "NoStarts", None),
]
