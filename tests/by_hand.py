"""Two thrones whose reign papers were written by hand."""

# A mother, the founder, and both their daughter and son.
HOUSE = (
    (0, -1, -1, 0, 1),
    (10, -1, -1, 1, 1),
    (30, 1, 0, 0, 1),
    (40, 1, 0, 1, 1),
)
BOOK = (("awaits", 50, 0, 1), ("dies", 60, 1, -1), ("dies", 70, 3, -1))
RULE = ((1, "first", 1, "lines"),)

OF_SON = (("lines", (1, 3), (1,)),)
FOUNDER_SITS = (10, 1, "sits", (("lines", (1,), ()),), ())
SON_SITS = (60, 3, "sits", OF_SON, (OF_SON,))
CHILD_WAITS = (70, -1, "waits", 0, (("lines", (1, 4), (1, 3)),))
DAUGHTER_SITS = (350, 2, "sits", (("lines", (1, 2), (1, 3)),), ())
PAPER = (FOUNDER_SITS, SON_SITS, CHILD_WAITS, DAUGHTER_SITS)

# A throne on which hardly anybody sits: the founder dies on the day of the beginning.
BARE_HOUSE = ((0, -1, -1, 0, 1), (10, -1, -1, 1, 1), (50, -1, 0, 1, 1), (80, 1, -1, 0, 1))
BARE_BOOK = (("awaits", 20, 0, -1), ("awaits", 60, 0, 1), ("dies", 10, 1, -1), ("dies", 85, 3, -1))
BARE_RULE = ((1, "alike", 0, "age"),)

NOBODY = (("nobody", ((1, -1),)),)
OF_3 = (("age", ((1, -1), (3, 1))),)
WITH_CHILD = (("age", ((1, -1), (3, 1), (4, 1))),)
BARE_PAPER = (
    (10, -1, "nobody", NOBODY, ()),
    (20, -1, "nobody", NOBODY, (NOBODY,)),
    (50, -1, "nobody", NOBODY, ()),
    (60, -1, "waits", 1, OF_3),
    (80, 3, "sits", OF_3, (WITH_CHILD,)),
    (85, -1, "waits", 1, WITH_CHILD),
    (320, -1, "waits", 1, WITH_CHILD),
    (360, -1, "nobody", (("nobody", ((1, -1), (3, 1))),), ()),
)
