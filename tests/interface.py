"""The names and the parameters that the document lists, file by file."""

from causeloops import (benches, counts, growth, loops, needs, placements, plans, ranks, runs, shapes, standins, stores,
                        views)

BOTH = ("placement", "plan")
FROM = ("placement", "site", "edges")
INTERFACE = {
    placements: {
        "is_placement": ("thing",), "places": ("placement",), "keeps": ("placement", "place"),
        "shared": ("placement", "one", "other"), "has_step": ("placement", "one", "other"), "edges": ("placement",),
    },
    loops: {
        "judge_loop": ("placement", "place", "edge"), "loop_holds": ("placement", "place", "edge", "thing"),
        "has_loop": ("placement", "place", "edge"), "left_ways": ("placement", "place", "edge"),
    },
    needs: {
        "needed": ("placement", "place"), "least_plan": ("placement",), "full_plan": ("placement",),
        "is_plan": ("placement", "thing"), "lacking": BOTH, "is_enough": BOTH, "counters": BOTH,
    },
    counts: {
        "new_counts": BOTH + ("place",), "are_counts": BOTH + ("place", "thing"), "is_update": BOTH + ("thing",),
        "written": BOTH + ("place", "counts", "register"), "may_apply": BOTH + ("place", "counts", "update"),
        "applied": BOTH + ("place", "counts", "update"), "may_visit": BOTH + ("client", "site", "mine", "its"),
        "visited": BOTH + ("client", "site", "mine", "its"),
    },
    runs: {
        "is_run": BOTH + ("thing",), "is_event": BOTH + ("run", "thing"), "possible": BOTH + ("run",),
        "counts_after": BOTH + ("run", "place"), "causes": BOTH + ("run", "m"), "judge_run": BOTH + ("run",),
        "run_holds": BOTH + ("run", "thing"), "missing": BOTH + ("run",),
    },
    plans: {
        "judge_plan": BOTH, "plan_holds": BOTH + ("thing",), "is_right": BOTH,
        "run_from_loop": BOTH + ("place", "edge", "loop"),
    },
    ranks: {
        "row_of": ("placement", "edge"), "basis": FROM, "rank": FROM, "weights": FROM, "packed": FROM + ("counts",),
        "unpacked": FROM + ("counts",), "groups": ("placement", "edges"), "is_whole": BOTH, "whole": BOTH,
        "numbers": BOTH, "judge_edge": ("placement", "site", "others", "edge"),
        "edge_holds": ("placement", "site", "others", "edge", "thing"), "judge_counts": FROM + ("counts",),
        "counts_hold": FROM + ("counts", "thing"),
    },
    standins: {
        "are_standins": ("placement", "thing"), "widened": ("placement", "standins"), "price": ("placement", "standins"),
        "all_standins": ("placement",), "best_price": ("placement", "most"), "best_standins": ("placement", "most"),
        "judge_standins": ("placement", "standins", "most"),
        "standins_hold": ("placement", "standins", "most", "thing"),
    },
    growth: {
        "is_change": ("placement", "thing"), "changed": ("placement", "change"), "news": ("placement", "change"),
        "place_after": ("placement", "change", "place"), "counts_anew": ("placement", "change", "writes"),
    },
    shapes: {
        "parts": ("placement",), "blocks": ("placement",), "cuts": ("placement",), "shape": ("placement",),
        "restricted": ("placement", "places"), "needs_by_blocks": ("placement",),
        "ring_of": ("placement", "one", "other"), "ring_holds": ("placement", "one", "other", "thing"),
    },
    views: {
        "history": ("store",), "run_of": ("store",), "is_history": BOTH + ("thing",), "replayed": BOTH + ("thing",),
        "is_free": ("placement", "thing"), "judge_history": ("placement", "rows"),
        "history_holds": ("placement", "rows", "thing"), "known_after": ("placement", "rows", "place"),
    },
    benches: {
        "placement_text": ("placement",), "read_placement": ("text",), "run_text": BOTH + ("run",),
        "read_run": BOTH + ("text",), "without": BOTH + ("run", "at"), "is_short": BOTH + ("run",),
        "shortened": BOTH + ("run",),
    },
}
CLASSES = {
    stores.Store: {
        "__init__": BOTH, "write": ("site", "register", "value"), "waiting": (), "is_ready": ("site", "number"),
        "apply": ("site", "number"), "settle": (), "value": ("site", "register"), "can_visit": ("client", "site"),
        "visit": ("client", "site"), "read": ("client", "site", "register"),
        "put": ("client", "site", "register", "value"), "counts": ("place",), "placement": (), "plan": (), "copy": (),
        "__eq__": ("other",),
    },
    benches.Bench: {
        "__init__": BOTH, "do": ("event",), "undo": (), "redo": (), "change": ("plan",), "run": (), "plan": (),
        "placement": (), "verdict": (),
    },
}
MODULES = {stores.Store: "causeloops.stores", benches.Bench: "causeloops.benches"}
