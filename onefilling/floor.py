"""Floors: which places hang together by neighbours. Several places are one number, with a bit for each."""


class Floor:
    """Places in rows of so many columns."""

    def __init__(self, rows, columns):
        self.columns = columns
        self.left_edge = sum(1 << (row * columns) for row in range(rows))
        self.right_edge = self.left_edge << (columns - 1)

    def grown(self, places):
        """These places and all their neighbours, and some numbers behind the last place."""
        # Along a row one goes on only where the row does: the number beside an edge is in another row.
        ahead = (places & ~self.right_edge) << 1
        behind = (places & ~self.left_edge) >> 1
        return places | ahead | behind | (places << self.columns) | (places >> self.columns)

    def piece(self, allowed, start):
        """The allowed places to which neighbours that are allowed lead from the places of START."""
        piece = start & allowed
        wider = self.grown(piece) & allowed
        while wider != piece:
            piece = wider
            wider = self.grown(piece) & allowed
        return piece


def lowest(number):
    """The lowest bit of a number, alone; 0 for 0."""
    return number & -number
