"""Rides: runs of plain rows that are led over into a lane at its doors, and away from it at its stands."""

from midlanes.forms import worth
from midlanes.hand import Hand, end_of
from midlanes.judge import DEED_ROWS, edges_of
from midlanes.papers import is_door
from midlanes.rows import goes_to_row, row_of

# Led away, a run may get four frames in the place of one, and has twenty at the most.
MOST_FRAMES_OVER = 17


class Chances:
    """The answers to a ride's chances, in order; behind their end every one is False."""

    def __init__(self, when):
        self.when = when
        self.asked = 0

    def ask(self):
        self.asked = self.asked + 1
        return self.asked <= len(self.when) and self.when[self.asked - 1]


def words_in(hand):
    return list(hand.frames[-1][2])


def frames_of(paper, words):
    return [[f, at, [worth(form, words) for form in forms]] for f, at, forms in paper]


def ride(program, lane, inputs, most, when):
    told = ridden(program, lane, inputs, most, when)
    hand = told[0]
    return (end_of(hand), hand.news, hand.gone, told[1])


def ridden(program, lane, inputs, most, when):
    hand = Hand(program, inputs)
    chances = Chances(when)
    doors = doors_of(program, lane)
    log = []
    while hand.end is None and hand.gone < most:
        k = doors.get(place_of(hand))
        if k is not None and has_room(hand) and chances.ask():
            log.append(("over", k, hand.gone))
            log.append(go_lane(hand, lane, k, most, chances))
        else:
            hand.go()
    return (hand, log)


def doors_of(program, lane):
    """The lane's doors: a dict from the places (f, at) to the least door there."""
    doors = {}
    for k, stand in enumerate(lane):
        if is_door(program, stand):
            doors.setdefault(stand[1][0][:2], k)
    return doors


def place_of(hand):
    """The def and the row at which the hand's own frame stands."""
    frame = hand.frames[-1]
    return (frame[0], frame[1])


def has_room(hand):
    return len(hand.frames) <= MOST_FRAMES_OVER


def go_lane(hand, lane, k, most, chances):
    """Goes the lane from its door k on until the run is led away, and tells that as the log has it."""
    words = words_in(hand)
    while True:
        stand = lane[k]
        edge = edge_ahead(hand.program, stand, words)
        reason = "away" if chances.ask() else away_reason(hand, stand, words, edge, most)
        if reason is not None:
            hand.frames = hand.frames[:-1] + frames_of(stand[1], words)
            return (reason, k, hand.gone)
        words = go_edge(hand, stand, words, edge)
        k = edge[2]


def edge_ahead(program, stand, words):
    """The edge of a stand that would be gone, or None at a leave."""
    edges = edges_of(stand[2])
    if len(edges) == 0:
        return None
    if stand[2][0] == "test" and not goes_to_row(last_row(program, stand), box_number(program, stand, words)):
        return edges[1]
    return edges[0]


def away_reason(hand, stand, words, edge, most):
    """The log's word for it where the stand itself leads away, or None where its edge is gone."""
    deed = stand[2]
    if deed[0] == "leave":
        return "leave"
    if deed[0] == "hold" and words[deed[1]] != deed[2]:
        return "fall"
    if deed[0] == "take" and len(hand.left) == 0:
        return "short"
    if hand.gone + rows_ahead(stand, edge) > most:
        return "short"
    return None


def rows_ahead(stand, edge):
    """How many plain rows the edge stands for, with the stand's own row where it has one."""
    return edge[0] + 1 if stand[2][0] in DEED_ROWS else edge[0]


def go_edge(hand, stand, words, edge):
    """Does the stand's deed and goes the edge; tells the words behind it."""
    if stand[2][0] == "tell":
        hand.news.append(box_number(hand.program, stand, words))
    if stand[2][0] == "take":
        words = words + [hand.left.pop(0)]
    hand.gone = hand.gone + rows_ahead(stand, edge)
    return [worth(move, words) for move in edge[1]]


def last_row(program, stand):
    return row_of(program, stand[1][-1])


def box_number(program, stand, words):
    """The number in the box that the stand's row tests or tells."""
    return worth(stand[1][-1][2][last_row(program, stand)[1]], words)
