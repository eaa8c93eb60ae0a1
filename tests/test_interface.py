"""The interface: each name is there, in its module, with its arguments."""

import importlib
import inspect
import unittest

CALLS = {
    "ratios": (
        "is_whole(thing)", "is_ratio(thing)", "ratio_of(top, bottom)", "ratio_sum(one, other)",
        "ratio_less(one, other)", "ratio_times(one, other)", "ratio_by(one, other)", "is_under(one, other)",
    ),
    "triples": (
        "is_triple(thing)", "triple_sum(one, other)", "triple_less(one, other)", "triple_times(one, many)",
        "cross_of(one, other)", "dot_of(one, other)",
    ),
    "plates": (
        "look_at_plate(thing)", "front_of(plate)", "point_of(plate, place)", "lies_on(place)",
        "is_ahead(plate, triple)", "comes_from_ahead(plate, direction)",
    ),
    "suns": ("look_at_sun(thing)", "direction_at(sun, hour)", "is_up(sun, hour)"),
    "shadows": ("shadow_of(plate, tip, direction)", "meeting_of(plate, point, direction)"),
    "hiding": ("hides_point(plate, point, direction)",),
    "yards": ("look_at_yard(thing)", "told_at(yard, hour, name)"),
    "tracks": (
        "hours_at(yard, name, place)", "on_one_line(places)", "in_one_plane(directions)", "track_of(yard, name)",
        "bends_of(yard, name)",
    ),
    "staffs": ("staff_tip(plate, foot, height)", "greatest_staff(plate, foot, sun, hours)"),
    "choosing": ("fewest_dials(yard, hours)", "fewest_gone(yard, hours)"),
    "parts": ("share_of(part)", "both_of(one, other)"),
    "lights": ("shaded_by(plate, other, direction)", "lit_share(yard, hour, name)"),
    "turnings": (
        "turned_yard(yard)", "mirrored_yard(yard)", "moved_yard(yard, triple)", "greater_yard(yard, many)",
    ),
    "papers": ("shown_yard(yard)", "read_yard(text)"),
    "desk": ("Desk()",),
}


class TestInterface(unittest.TestCase):
    def test_each_call_is_there(self):
        for module, calls in CALLS.items():
            there = importlib.import_module("dialyard." + module)
            for call in calls:
                name = call.partition("(")[0]
                self.assertEqual(name + str(inspect.signature(getattr(there, name))), call)

    def test_the_desk_is_a_class_that_is_told_rows(self):
        desk = importlib.import_module("dialyard.desk").Desk
        self.assertIsInstance(desk, type)
        self.assertEqual(str(inspect.signature(desk().say)), "(row)")


if __name__ == "__main__":
    unittest.main()
