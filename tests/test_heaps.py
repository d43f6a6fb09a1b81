"""Places drawn together to heaps, on which the making of trees and the least cut of all rest."""

from cutstree.amounts import from_parts
from cutstree.heaps import heaped_rooms, joined, part_two
from cutstree.rooms import all_rooms
from cutstree.webs import Web
from tests.seeking import amount, cut_of, weight_of
from tests.shapes import full, made_webs, small_webs, whole
from tests.things import Case

PART = 55440


class Heaps(Case):
    def test_single_places_are_the_web_itself(self):
        for web in small_webs():
            self.assertEqual(heaped_rooms(web, [(place,) for place in range(web.many)]), all_rooms(web))

    def test_what_ties_two_heaps_is_put_together(self):
        web = whole(5, [(0, 1, 1), (0, 2, 2), (1, 3, 3), (2, 3, 4), (3, 4, 5)])
        rooms = [[0, 3 * PART, 2 * PART], [3 * PART, 0, 4 * PART], [2 * PART, 4 * PART, 0]]
        self.assertEqual(heaped_rooms(web, [(0, 1), (3, 4), (2,)]), rooms)
        self.assertEqual(heaped_rooms(web, [(0, 1, 2, 3, 4)]), [[0]])

    def test_more_than_a_weight_can_be(self):
        rooms = heaped_rooms(full(4, ((10 ** 12, 1),)), [(0, 1), (2, 3)])
        self.assertEqual(rooms, [[0, 4 * 10 ** 12 * PART], [4 * 10 ** 12 * PART, 0]])

    def test_joined(self):
        self.tells(joined([(3, 7), (1,), (0, 5)]), (0, 1, 3, 5, 7))
        self.tells(joined([]), ())


class Parted(Case):
    def test_two_places(self):
        for web in small_webs() + list(made_webs(71, (2, 3, 5), 5)):
            for one, other in ((0, web.many - 1), (web.many - 1, 0), (1, 0)):
                weight, side = part_two(all_rooms(web), one, other)
                self.tells(from_parts(weight), amount(cut_of(web, one, other)))
                self.assertEqual(weight_of(web, side), cut_of(web, one, other))
                self.assertTrue(one in side and other not in side)

    def test_no_ties(self):
        self.assertEqual(part_two(all_rooms(Web(3, ())), 1, 2), (0, (1,)))
