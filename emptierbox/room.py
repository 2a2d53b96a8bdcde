"""A room: boxes with numbered balls that come and leave, and deeds that are taken back."""

from emptierbox.draws import emptiest_of
from emptierbox.errors import NoBack, NoBall, TooMany
from emptierbox.loads import falling
from emptierbox.whole import is_whole

MOST_IN_ROOM = 60


class Room:
    """Boxes, at first empty, into which balls are put by draws."""

    def __init__(self, n):
        self.numbers = [0] * n
        self.places = {}
        self.next_ball = 0
        self.deeds = []

    def put(self, draw):
        """Put a new ball into the emptiest drawn box; tell the ball and the box."""
        if len(self.places) >= MOST_IN_ROOM:
            raise TooMany("the room would hold too many balls")
        ball, box = self.next_ball, emptiest_of(self.numbers, draw)
        # Never less again, so that each number is told once.
        self.next_ball += 1
        self.lay(ball, box)
        self.deeds.append(("put", ball, box))
        return (ball, box)

    def leave(self, ball):
        """Take a ball out; tell the box in which it lay."""
        box = self.where(ball)
        self.lift(ball, box)
        self.deeds.append(("leave", ball, box))
        return box

    def back(self):
        """Take back the last putting or leaving that was not taken back yet; tell its ball."""
        if not self.deeds:
            raise NoBack("there is no deed that could be taken back")
        deed, ball, box = self.deeds.pop()
        if deed == "put":
            self.lift(ball, box)
        else:
            self.lay(ball, box)
        return ball

    def lay(self, ball, box):
        """Note that a ball lies in a box."""
        self.places[ball] = box
        self.numbers[box] += 1

    def lift(self, ball, box):
        """Note that a ball no longer lies in its box."""
        self.places.pop(ball)
        self.numbers[box] -= 1

    def where(self, ball):
        """Tell the box in which a ball lies, of anything that may be handed in as the ball."""
        # Asked first, since True would be found as the ball 1, and a list is no key.
        if not is_whole(ball) or ball not in self.places:
            raise NoBall("no such ball is there")
        return self.places[ball]

    def stand(self):
        """Tell how many balls each box holds, by its number."""
        return tuple(self.numbers)

    def load(self):
        """Tell how many balls the boxes hold, the fullest box first."""
        return falling(self.numbers)
