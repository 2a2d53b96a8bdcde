import random
import unittest

from emptierbox.draws import by_draws
from emptierbox.errors import NoBack, NoBall, TooMany
from emptierbox.loads import is_load
from emptierbox.room import Room
from tests.test_draws import chance_draws, slow_by_draws
from tests.things import anything, assert_plain, assert_refused


class SlowRoom:
    """A room that keeps all of its earlier states."""

    def __init__(self, n):
        self.n, self.lying, self.ahead, self.told = n, {}, [], 0

    def stand(self):
        return tuple(list(self.lying.values()).count(box) for box in range(self.n))

    def put(self, draw):
        box = slow_by_draws(self.stand(), [draw])[1][0]
        self.ahead.append((self.told, dict(self.lying)))
        self.lying[self.told] = box
        self.told += 1
        return self.told - 1, box

    def leave(self, ball):
        self.ahead.append((ball, dict(self.lying)))
        return self.lying.pop(ball)

    def back(self):
        ball, self.lying = self.ahead.pop()
        return ball


def shown(room):
    """All that a room tells of its balls."""
    found = []
    for ball in range(200):
        try:
            found.append((ball, room.where(ball)))
        except NoBall:
            pass
    return found, room.stand(), room.load()


def full_room():
    room = Room(3)
    for ball in range(60):
        room.put((0, 1, 2))
    return room


class Puts(unittest.TestCase):
    def test_by_hand(self):
        room = Room(2)
        self.assertEqual(room.stand(), (0, 0))
        self.assertEqual(room.load(), (0, 0))
        self.assertEqual(room.put((1, 0)), (0, 1))
        self.assertEqual(room.put((1, 0)), (1, 0))
        self.assertEqual(room.put((1, 0)), (2, 1))
        self.assertEqual(room.put((1,)), (3, 1))
        self.assertEqual(room.stand(), (1, 3))
        self.assertEqual(room.load(), (3, 1))
        self.assertEqual([room.where(ball) for ball in range(4)], [1, 0, 1, 1])

    def test_empty_rooms(self):
        for n in range(1, 7):
            room = Room(n)
            self.assertEqual(room.stand(), (0,) * n)
            self.assertEqual(room.load(), (0,) * n)
            self.assertTrue(is_load(room.load()))

    def test_as_told_draws(self):
        chance = random.Random(72)
        for n in range(1, 7):
            for many in (1, 7, 60):
                draws = chance_draws(chance, n, many)
                room = Room(n)
                answers = [room.put(draw) for draw in draws]
                stand, boxes = by_draws((0,) * n, draws)
                self.assertEqual(answers, list(enumerate(boxes)))
                self.assertEqual(room.stand(), stand)
                self.assertEqual(room.load(), tuple(sorted(stand, reverse=True)))
                assert_plain(self, answers)
                assert_plain(self, [room.stand(), room.load()])

    def test_a_draw_after_balls_have_left(self):
        room = Room(3)
        for draw in [(0,), (0,), (1,)]:
            room.put(draw)
        self.assertEqual(room.put((0, 1)), (3, 1))
        room.leave(0)
        room.leave(1)
        self.assertEqual(room.put((1, 0)), (4, 0))
        self.assertEqual(room.stand(), (1, 2, 0))


class Leaves(unittest.TestCase):
    def test_by_hand(self):
        room = Room(3)
        for draw in [(2,), (0,), (2,)]:
            room.put(draw)
        self.assertEqual(room.leave(1), 0)
        self.assertEqual(room.leave(0), 2)
        self.assertEqual(room.stand(), (0, 0, 1))
        self.assertEqual(room.where(2), 2)
        for ball in (0, 1):
            assert_refused(self, NoBall, room.leave, ball)
            assert_refused(self, NoBall, room.where, ball)
        self.assertEqual(room.leave(2), 2)
        self.assertEqual(room.stand(), (0, 0, 0))

    def test_no_such_ball_of_anything(self):
        room = Room(2)
        for draw in [(0,), (1,), (1,)]:
            room.put(draw)
        kept = shown(room)
        for thing in [*anything(), [], 3, -1, -3, 10 ** 29, {0: 1}, (0,), [0], [1], "0", "1", "", True, False, None]:
            if type(thing) is int and 0 <= thing <= 2:
                continue
            assert_refused(self, NoBall, room.leave, thing)
            assert_refused(self, NoBall, room.where, thing)
        self.assertEqual(shown(room), kept)
        self.assertEqual(room.put((0,)), (3, 0))
        self.assertEqual(room.back(), 3)
        self.assertEqual(room.back(), 2)

    def test_a_truth_is_no_ball(self):
        room = Room(1)
        for ball in range(3):
            room.put((0,))
        for truth in (True, False):
            assert_refused(self, NoBall, room.leave, truth)
            assert_refused(self, NoBall, room.where, truth)
        self.assertEqual(room.stand(), (3,))
        self.assertEqual((room.leave(1), room.leave(0)), (0, 0))

    def test_of_an_empty_room(self):
        for n in range(1, 7):
            for thing in (0, 1, -1, True, None, [], {}):
                assert_refused(self, NoBall, Room(n).leave, thing)
                assert_refused(self, NoBall, Room(n).where, thing)


class Backs(unittest.TestCase):
    def test_by_hand(self):
        room = Room(2)
        room.put((0,))
        room.put((1,))
        room.leave(0)
        self.assertEqual(room.back(), 0)
        self.assertEqual(room.where(0), 0)
        self.assertEqual(room.stand(), (1, 1))
        self.assertEqual(room.back(), 1)
        self.assertEqual(room.stand(), (1, 0))
        assert_refused(self, NoBall, room.where, 1)
        self.assertEqual(room.back(), 0)
        self.assertEqual(room.stand(), (0, 0))
        assert_refused(self, NoBack, room.back)

    def test_each_number_once(self):
        room = Room(2)
        self.assertEqual(room.put((0,)), (0, 0))
        self.assertEqual(room.back(), 0)
        self.assertEqual(room.put((0,)), (1, 0))
        self.assertEqual(room.leave(1), 0)
        self.assertEqual(room.put((1,)), (2, 1))
        self.assertEqual(room.back(), 2)
        self.assertEqual(room.back(), 1)
        self.assertEqual(room.put((1,)), (3, 1))
        assert_refused(self, NoBall, room.where, 0)
        assert_refused(self, NoBall, room.where, 2)
        self.assertEqual((room.where(1), room.where(3)), (0, 1))

    def test_nothing_is_taken_back_twice(self):
        room = Room(2)
        room.put((0,))
        room.put((1,))
        self.assertEqual(room.back(), 1)
        room.put((1,))
        self.assertEqual([room.back(), room.back()], [2, 0])
        for turn in range(3):
            assert_refused(self, NoBack, room.back)
        self.assertEqual(room.put((0,)), (3, 0))

    def test_no_deed(self):
        for n in range(1, 7):
            room = Room(n)
            assert_refused(self, NoBack, room.back)
            self.assertEqual(room.stand(), (0,) * n)
            self.assertEqual(room.put((n - 1,)), (0, n - 1))

    def test_refused_deeds_are_no_deeds(self):
        room = full_room()
        room.leave(7)
        room.put((0,))
        assert_refused(self, TooMany, room.put, (0,))
        assert_refused(self, NoBall, room.leave, 7)
        assert_refused(self, NoBall, room.leave, True)
        assert_refused(self, NoBall, room.where, 7)
        self.assertEqual([room.back(), room.back(), room.back()], [60, 7, 59])

    def test_a_ball_that_left_twice(self):
        room = Room(1)
        room.put((0,))
        for turn in range(3):
            room.leave(0)
            self.assertEqual(room.back(), 0)
        room.leave(0)
        self.assertEqual([room.back(), room.back()], [0, 0])
        assert_refused(self, NoBack, room.back)


class TooManyBalls(unittest.TestCase):
    def test_sixty_are_let_in(self):
        room = full_room()
        self.assertEqual(room.stand(), (20, 20, 20))
        kept = shown(room)
        for turn in range(3):
            for draw in [(0,), (1, 2), (2, 2, 2)]:
                assert_refused(self, TooMany, room.put, draw)
        self.assertEqual(shown(room), kept)
        self.assertEqual(room.leave(33), 0)
        self.assertEqual(room.put((2,)), (60, 2))
        assert_refused(self, TooMany, room.put, (0,))

    def test_at_once(self):
        room = Room(2)
        for ball in range(300):
            self.assertEqual(room.put((ball % 2,)), (ball, ball % 2))
            if ball >= 59:
                assert_refused(self, TooMany, room.put, (0,))
                room.leave(ball - 59)

    def test_back_from_a_full_room(self):
        room = full_room()
        room.leave(0)
        room.put((0,))
        self.assertEqual(room.back(), 60)
        self.assertEqual(room.back(), 0)
        assert_refused(self, TooMany, room.put, (0,))
        self.assertEqual(room.back(), 59)
        self.assertEqual(room.put((0,)), (61, 0))


class Rooms(unittest.TestCase):
    def test_two_rooms_beside_one_another(self):
        one, other = Room(2), Room(2)
        one.put((0,))
        one.put((0,))
        self.assertEqual(other.stand(), (0, 0))
        self.assertEqual(other.put((1,)), (0, 1))
        self.assertEqual(one.where(0), 0)
        self.assertEqual(other.where(0), 1)
        assert_refused(self, NoBall, other.where, 1)
        self.assertEqual(other.back(), 0)
        assert_refused(self, NoBack, other.back)
        self.assertEqual(one.back(), 1)
        self.assertEqual(one.stand(), (1, 0))

    def test_by_chance(self):
        for seed in range(40):
            chance = random.Random(seed)
            n = chance.randrange(1, 7)
            room, slow = Room(n), SlowRoom(n)
            for turn in range(150):
                deed = chance.choice(("put", "put", "put", "leave", "back"))
                if deed == "put":
                    draw = chance_draws(chance, n, 1)[0]
                    if len(slow.lying) == 60:
                        assert_refused(self, TooMany, room.put, draw)
                    else:
                        self.assertEqual(room.put(draw), slow.put(draw))
                elif deed == "leave":
                    ball = chance.randrange(slow.told + 2)
                    if ball in slow.lying:
                        self.assertEqual(room.leave(ball), slow.leave(ball))
                    else:
                        assert_refused(self, NoBall, room.leave, ball)
                elif slow.ahead:
                    self.assertEqual(room.back(), slow.back())
                else:
                    assert_refused(self, NoBack, room.back)
                self.assertEqual(room.stand(), slow.stand())
            self.assertEqual(shown(room)[0], sorted(slow.lying.items()))
            while slow.ahead:
                self.assertEqual(room.back(), slow.back())
            self.assertEqual(room.stand(), (0,) * n)
            assert_refused(self, NoBack, room.back)

    def test_a_stand_that_was_told_stays(self):
        room = Room(2)
        stand, load = room.stand(), room.load()
        room.put((1,))
        self.assertEqual((stand, load), ((0, 0), (0, 0)))
        self.assertEqual((room.stand(), room.load()), ((0, 1), (1, 0)))


if __name__ == "__main__":
    unittest.main()
