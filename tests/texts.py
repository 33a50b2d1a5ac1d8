"""Books that the tests share."""

from sumlives.books import Book


def book_of(*parts):
    """The book of a text; its lines are parted by ` ; ` and by the parts."""
    return Book.read("\n".join(parts).replace(" ; ", "\n"))


SUM = "rest open ; total sum ; worth sum open 1 amount ; event come none to open amount group"
MANY = "rest open ; total many ; worth many open 1 one ; event come none to open amount group"
# Nothing is worth anything.
PLAY = "rest open ; total sum ; event come none to open amount group"

RIGHT = {
    "only comes": book_of(SUM, "on come ; add 1 new sum new"),
    "never comes": book_of("rest open ; total sum ; worth sum open 1 one ; event set open to open amount",
                           "on set ; add 3 new sum new"),
    "sets and goes": book_of(SUM, "event set open to open amount ; event go open to none",
                             "on come ; add 1 new sum new ; on set ; add 1 new sum new ; add -1 old sum new",
                             "on go ; add -1 old sum old"),
    "moves": book_of(SUM, "event move open to open amount group ; event go open to none",
                     "on come ; add 1 new sum new ; on move ; add 1 new sum new ; add -1 old sum old",
                     "on go ; add -1 old sum old"),
    "a cut": book_of("rest open ; total many ; worth many open 1 one from 10",
                     "event come none to open amount group ; event set open to open amount",
                     "on come ; if not new below 10 ; add 1 one many new ; end",
                     "on set ; if old below 10 ; if not new below 10 ; add 1 one many new ; end",
                     "else ; if new below 10 ; add -1 one many old ; end ; end"),
    "two cuts": book_of("rest open ; total sum ; worth sum open 2 amount from -3 below 6 ; worth sum open 1 one below 0",
                        "event come none to open amount group ; event go open to none",
                        "on come ; if new below -3 ; add 1 one sum new ; else ; if new below 6 ; add 2 new sum new ; end",
                        "end ; on go ; if old below -3 ; add -1 one sum old ; else ; if old below 6",
                        "add -2 old sum old ; end ; end"),
    "a note and a mark": book_of("rest open ; pass way ; total sum ; note n ; worth sum open 2 amount",
                                 "event come none to open amount group ; event send open to way amount group",
                                 "event back way to open group ; event go open way to none",
                                 "on come ; add 2 new sum new ; put n new ; mark new",
                                 "on send ; add -2 n sum noted ; mark none ; put n one",
                                 "on back ; add 2 new sum new ; put n new ; mark new",
                                 "on go ; add -2 n sum noted"),
    "two totals": book_of("rest open ; rest paid ; pass way ; total sum ; total many ; worth sum paid 1 amount",
                          "worth many paid 3 one below 5 ; event come none to open amount group",
                          "event pay open to paid amount ; event hold paid to way",
                          "on pay ; add 1 new sum new ; if new below 5 ; add 3 one many new ; end",
                          "on hold ; add -1 old sum old ; if old below 5 ; add -3 one many old ; end"),
    "worth nothing": book_of("rest open ; total sum ; worth sum open 0 amount ; event come none to open amount group",
                             "event move open to open group ; on come ; add 0 new sum new ; on move ; add 0 one sum old"),
}

# With the number of deeds of the shortest lives that are off.
WRONG = {
    "twice as much": (book_of(SUM, "on come ; add 2 new sum new"), 1),
    "an older amount": (book_of(SUM, "event set open to open amount", "on come ; add 1 new sum new",
                                "on set ; add 1 new sum new"), 2),
    "an older group": (book_of(SUM, "event move open to open group", "on come ; add 1 new sum new",
                               "on move ; if moved ; add 1 new sum new ; end"), 2),
    "both halves": (book_of("rest open ; total many ; worth many open 1 one below 10",
                            "event come none to open amount group ; event set open to open amount",
                            "on come ; if new below 10 ; add 1 one many new ; end",
                            "on set ; if new below 10 ; add 1 one many new ; end",
                            "if old below 11 ; add -1 one many new ; end"), 2),
    "on its way": (book_of("rest open ; pass way ; total sum ; worth sum open 1 amount",
                           "event come none to way amount group ; event on way to way ; event stay way to open",
                           "on on ; add 1 one sum new ; on stay ; add 1 new sum new"), 3),
    "a group that was left": (book_of(PLAY, "event move open to open group",
                                      "on move ; if moved ; add 1 one sum noted ; mark old ; end"), 3),
    "a third group": (book_of(PLAY, "event move open to open group", "on move ; if moved ; if not noted",
                              "add 1 one sum noted ; end ; mark old ; end"), 3),
    "once gone": (book_of(MANY, "event half open to open ; event go open to none", "on come ; add 1 one many new",
                          "on half ; mark new ; on go ; if not noted ; add -1 one many old ; end"), 3),
    "five deeds": (book_of("rest end ; pass a ; pass b ; pass c ; total sum ; note n",
                           "event come none to a amount group ; event ab a to b amount ; event bc b to c group",
                           "event cc c to c ; event ce c to end",
                           "on come ; mark new ; on ab ; put n new ; on bc ; if not moved ; mark none ; put n n ; end",
                           "on cc ; mark new ; add 3 n sum new"), 5),
}

# No factors make these right.
HOPELESS = {
    "never taken away": book_of(SUM, "event set open to open amount ; event go open to none",
                                "on come ; add 1 new sum new ; on set ; add 1 new sum new ; on go ; add -1 old sum old"),
    "nothing is added": book_of(MANY, "event set open to open amount",
                                "on come ; if moved ; add 1 one many new ; end"),
    "a half": book_of("rest open ; total sum ; worth sum open 3 one from 2 below 3",
                      "event come none to open amount group",
                      "on come ; if not new below 2 ; if new below 3 ; add 1 new sum new ; end ; end"),
    "a third": book_of("rest open ; total sum ; worth sum open 4 one from 6 below 7",
                       "event come none to open amount group",
                       "on come ; if not new below 6 ; if new below 7 ; add 1 new sum new ; add 2 new sum new ; end ; end"),
    "one of two totals": book_of("rest open ; total sum ; total many ; worth sum open 1 amount ; worth many open 1 one",
                                 "event come none to open amount group ; event two none to open amount group",
                                 "on come ; add 1 new sum new ; add 1 one many new ; on two ; add 1 new sum new",
                                 "add 1 new many new"),
}

# At the limits for what is decided: 3 kinds, 5 events, 1 note, 2 cuts, 8 statements.
GREAT = book_of("rest k ; rest l ; pass m ; total s ; total t ; note n",
                "worth s k 1 amount from 0 ; worth s l 1 amount from 0 ; worth t k 0 one below 1000",
                "event come none to m amount group ; event sk k l m to k amount group ; event sl k l m to l group",
                "event sm k l m to m amount ; event go k l m to none",
                "on sk ; add -1 n s noted ; mark none ; if not new below 0 ; put n new ; mark new ; add 1 n s new ; end",
                "if old below 1000 ; add 0 new t new ; end",
                "on sl ; add -1 n s noted ; mark none ; if not new below 0 ; put n new ; mark new ; add 1 old s new ; end",
                "if moved ; add 0 n s old ; end",
                "on sm ; add -1 n s noted ; mark none ; on go ; add -1 n s noted")
# At those for mending, too: without one of the events, and its handler.
LESS = GREAT.barring(["sk"])
