"""The keeper: counts rounds and falls, and leads a run over into lanes that it has the maker make."""

from midlanes.hand import Hand, end_of
from midlanes.maker import made
from midlanes.rides import Chances, go_lane, has_room, place_of
from midlanes.rows import row_of

# The maker's bound for the lanes of a keeper.
MOST_GOING = 20


def kept_run(program, inputs, most, heat, falls):
    keeper = Keeper(Hand(program, inputs), most, heat, falls)
    while keeper.has_rows():
        j = keeper.lane_here()
        if j is None:
            keeper.go_plainly()
        else:
            keeper.go_over(j)
    hand = keeper.hand
    return (end_of(hand), hand.news, hand.gone, keeper.log, keeper.lanes)


class Keeper:
    """A run with its counts and its lanes."""

    def __init__(self, hand, most, heat, falls):
        self.hand = hand
        self.most = most
        self.heat = heat
        self.falls = falls
        self.log = []
        self.lanes = []
        # How often each lane fell.
        self.fallen = []
        # By places: the number of the lane, how often it was counted, and the boxes at the last count.
        self.numbers = {}
        self.counts = {}
        self.seen = {}
        # Whether a lane was just left that had gone no row.
        self.must_go = False

    def has_rows(self):
        return self.hand.end is None and self.hand.gone < self.most

    def lane_here(self):
        """The number of the lane that the run is to be led over into, or None."""
        j = self.numbers.get(place_of(self.hand))
        if j is None or self.must_go or self.fallen[j] >= self.falls or not has_room(self.hand):
            return None
        return j

    def go_plainly(self):
        place = place_of(self.hand)
        row = row_of(self.hand.program, self.hand.frames[-1])
        self.hand.go()
        self.must_go = False
        if row[0] in ("jump", "zero", "below") and place_of(self.hand)[1] <= place[1]:
            self.take_count(place_of(self.hand))

    def take_count(self, place):
        """Counts a place that has had no lane yet, and has one made where it is due."""
        if place in self.numbers:
            return
        boxes = self.hand.frames[-1][2]
        before = self.seen.get(place, [])
        self.seen[place] = list(boxes)
        self.counts[place] = self.counts.get(place, 0) + 1
        if self.counts[place] >= self.heat and has_room(self.hand) and self.has_rows():
            self.make_lane(place, [(p, n) for p, n in enumerate(before) if boxes[p] == n])

    def make_lane(self, place, known):
        lane = made(self.hand.program, place[0], place[1], known, MOST_GOING)
        self.numbers[place] = len(self.lanes)
        self.note("made", len(self.lanes))
        self.lanes.append((place[0], place[1], lane))
        self.fallen.append(0)

    def go_over(self, j):
        gone = self.hand.gone
        self.note("over", j)
        reason = go_lane(self.hand, self.lanes[j][2], 0, self.most, Chances([]))[0]
        self.must_go = self.hand.gone == gone
        self.note(reason, j)
        if reason == "fall":
            self.fallen[j] = self.fallen[j] + 1
            if self.fallen[j] >= self.falls:
                self.note("thrown", j)

    def note(self, word, j):
        self.log.append((word, j, self.hand.gone))
