"""The records of a box for which a query holds, each with the names of its thread (q6, k5)."""

from oncemail.logic import tests_of
from oncemail.meaning import holds
from oncemail.threads import row_of
from oncemail.ties import Ties


def places_found(records, query):
    """The places of the records for which a query holds, in their order."""
    rows = [row_of(record[1], record[5]) for record in records]
    # Threads are worked out only for queries that ask for them.
    asks = any([test[0] == "thread" for test in tests_of(query)])
    ties = Ties(rows) if asks else None
    found = []
    for place, record in enumerate(records):
        names = ties.names(rows[place]) if asks else ()
        if holds(query, record, names):
            found.append(place)
    return found
