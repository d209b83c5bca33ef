"""What is dropped ahead of the end of its way, by the sieves that were looked at so far."""

from plansamid.sieves import sieve_may_fault


def dropped(sieves, seen):
    for number, sieve in enumerate(sieves):
        if number in seen:
            if seen[number] is not True:
                # Not by one that faulted: its fault may be told at last.
                return seen[number] is False
        elif sieve_may_fault(sieve):
            return False
    return False
