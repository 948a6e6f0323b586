"""The examples of the document, sections 3 to 5, as they stand there; those of README.md."""

import doctest
import os
import unittest

from tests.examples import names_of_package, parted, run_examples


SECTION_3 = r"""
    >>> pieces("wheel -1 # a remark\n2/3 07-")
    [('wheel', 0), ('-1', 0), ('2/3', 1), ('07-', 1)]
    >>> text_of([("word", 0), ("ab", 0), ("most", 2)]), pieces("word ab\n\nmost")
    ('word ab\n\nmost\n', [('word', 0), ('ab', 0), ('most', 2)])
    >>> number_of("07"), number_of("120"), number_of("-0"), number_of("-12"), piece_of(-7), pieces("")
    (None, 120, None, -12, '-7', [])
    >>> fraction_of("-3/2"), fraction_of("2"), fraction_of("2/4"), fraction_of("3/1"), fraction_piece((-3, 2)), fraction_piece((2, 1))
    ((-3, 2), (2, 1), None, None, '-3/2', '2')
    >>> pieces("word a\nB")
    raises BadText(line=1)
    >>> pieces("a.b")
    raises BadText(line=0)
"""

SECTION_4 = r"""
    >>> fraction(6, -4), fraction(0, -7), is_fraction((2, 4)), is_fraction((0, 1)), is_fraction((1, True)), is_fraction([1, 2])
    ((-3, 2), (0, 1), False, True, False, False)
    >>> added((1, 2), (1, 3)), less((1, 2), (1, 3)), negative((5, 3)), times((2, 3), 6), times((2, 3), -2)
    ((5, 6), (1, 6), (-5, 3), (4, 1), (-4, 3))
    >>> compared((1, 3), (2, 5)), compared((-1, 2), (-2, 3)), less_than((1, 3), (1, 3)), floor_of((-7, 2)), ceiling_of((-7, 2))
    (-1, 1, False, -4, -3)
    >>> floor_times((2, 3), 5), floor_times((-2, 3), 5), ceiling_times((2, 3), 5), floor_times((2, 3), -1)
    (3, -4, 4, -1)
    >>> simplest((5, 7), (7, 9)), simplest((-5, 2), (-7, 3)), simplest((-1, 1), (5, 2)), simplest((4, 9), (4, 9))
    ((3, 4), (-5, 2), (0, 1), (4, 9))
    >>> least_bottom_between((1, 3), (1, 2)), least_bottom_between((0, 1), (1, 1)), least_bottom_between((0, 1), (1, 7)), least_bottom_between((-3, 2), (7, 1))
    (5, 2, 8, 1)
    >>> between((1, 3), (1, 1), 4), between((-1, 2), (0, 1), 2), common_bottom(((1, 4), (5, 6), (2, 1)))
    ([(1, 3), (1, 2), (2, 3), (3, 4), (1, 1)], [(-1, 2), (0, 1)], 12)
    >>> fraction(3, 0)
    raises Unfit()
    >>> least_bottom_between((1, 3), (1, 3))
    raises Unfit()
    >>> between((0, 1), (600, 1), 2)
    raises TooMany()
"""

SECTION_5 = r"""
    >>> wheel, other, half = (1, 1, 3), (0, 2, 3), (1, 1)
    >>> [is_wheel(own) for own in (wheel, (0, 0, 4), (-2, 0, 1), (3, 2), (5,), ())], leads(wheel, 4), leads(wheel, -1), leads(wheel, 30)
    ([True, False, True, False, True, False], 4, 0, 31)
    >>> shift(3, 4), is_shift((4, 5, 6)), is_shift(wheel), steps_of((4, 5, 6)), steps_of((7,)), put_together((wheel, other)), put_together((other, wheel))
    ((4, 5, 6), True, False, 4, 7, (1, 3, 4), (2, 2, 3))
    >>> power(wheel, 0), power(wheel, 2), power(wheel, 3), power(half, 10 ** 30)
    ((0, 1, 2), (1, 1, 4), (1, 1, 4), (1, 1))
    >>> finer(half, 3), from_elsewhere(wheel, 1), from_elsewhere(wheel, 3) == wheel, finer(wheel, 1) == wheel
    ((3, 3, 3, 3, 3, 3), (0, 2, 3), True, True)
    >>> is_at_most(other, wheel), is_at_most((0, 1, 2), wheel), slips_of(wheel), slips_of(half), slips_of((5,)), led_places(wheel), led_from(wheel, 1), led_from(wheel, 2), led_from(half, 3)
    (False, True, (0,), (0,), (), (0, 1), (0, 1), (), (2, 3))
    >>> is_train((wheel, other)), is_train((wheel, half)), is_train(()), is_train(wheel)
    (True, False, False, False)
    >>> steps_of(wheel)
    raises CanNot()
    >>> is_at_most(wheel, half)
    raises Unfit()
"""


class Examples(unittest.TestCase):
    """Names set in one section stand in the later ones, too."""

    def test_all_sections(self):
        names = names_of_package()
        for section in (SECTION_3, SECTION_4, SECTION_5):
            run_examples(self, section, names)

    def test_each_section_has_its_examples(self):
        many = [len(parted(section)) for section in (SECTION_3, SECTION_4, SECTION_5)]
        self.assertEqual(many, [6, 10, 9])

    def test_readme(self):
        top = os.path.dirname(os.path.dirname(os.path.abspath(__file__)))
        told = doctest.testfile(os.path.join(top, "README.md"), module_relative=False)
        self.assertEqual(told.failed, 0)
        self.assertGreater(told.attempted, 0)


if __name__ == "__main__":
    unittest.main()
