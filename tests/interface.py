"""The names and the parameters that the document lists, file by file."""

from causeloops import counts, loops, needs, placements, plans, runs

BOTH = ("placement", "plan")
INTERFACE = {
    placements: {
        "is_placement": ("thing",), "places": ("placement",), "keeps": ("placement", "place"),
        "shared": ("placement", "one", "other"), "has_step": ("placement", "one", "other"), "edges": ("placement",),
    },
    loops: {
        "judge_loop": ("placement", "place", "edge"), "loop_holds": ("placement", "place", "edge", "thing"),
        "has_loop": ("placement", "place", "edge"), "left_ways": ("placement", "place", "edge"),
    },
    needs: {
        "needed": ("placement", "place"), "least_plan": ("placement",), "full_plan": ("placement",),
        "is_plan": ("placement", "thing"), "lacking": BOTH, "is_enough": BOTH, "counters": BOTH,
    },
    counts: {
        "new_counts": BOTH + ("place",), "are_counts": BOTH + ("place", "thing"), "is_update": BOTH + ("thing",),
        "written": BOTH + ("place", "counts", "register"), "may_apply": BOTH + ("place", "counts", "update"),
        "applied": BOTH + ("place", "counts", "update"), "may_visit": BOTH + ("client", "site", "mine", "its"),
        "visited": BOTH + ("client", "site", "mine", "its"),
    },
    runs: {
        "is_run": BOTH + ("thing",), "is_event": BOTH + ("run", "thing"), "possible": BOTH + ("run",),
        "counts_after": BOTH + ("run", "place"), "causes": BOTH + ("run", "m"), "judge_run": BOTH + ("run",),
        "run_holds": BOTH + ("run", "thing"), "missing": BOTH + ("run",),
    },
    plans: {
        "judge_plan": BOTH, "plan_holds": BOTH + ("thing",), "is_right": BOTH,
        "run_from_loop": BOTH + ("place", "edge", "loop"),
    },
}
