"""The examples of the document, sections 3 to 21, as they stand there; those of README.md."""

import doctest
import os
import unittest

from tests.examples import names_of_package, parted, run_examples


SECTION_3 = r"""
    >>> pieces("wheel -1 # a remark\n2/3 07-")
    [('wheel', 0), ('-1', 0), ('2/3', 1), ('07-', 1)]
    >>> text_of([("word", 0), ("ab", 0), ("most", 2)]), pieces("word ab\n\nmost")
    ('word ab\n\nmost\n', [('word', 0), ('ab', 0), ('most', 2)])
    >>> number_of("07"), number_of("120"), number_of("-0"), number_of("-12"), piece_of(-7), pieces("")
    (None, 120, None, -12, '-7', [])
    >>> fraction_of("-3/2"), fraction_of("2"), fraction_of("2/4"), fraction_of("3/1"), fraction_piece((-3, 2)), fraction_piece((2, 1))
    ((-3, 2), (2, 1), None, None, '-3/2', '2')
    >>> pieces("word a\nB")
    raises BadText(line=1)
    >>> pieces("a.b")
    raises BadText(line=0)
"""

SECTION_4 = r"""
    >>> fraction(6, -4), fraction(0, -7), is_fraction((2, 4)), is_fraction((0, 1)), is_fraction((1, True)), is_fraction([1, 2])
    ((-3, 2), (0, 1), False, True, False, False)
    >>> added((1, 2), (1, 3)), less((1, 2), (1, 3)), negative((5, 3)), times((2, 3), 6), times((2, 3), -2)
    ((5, 6), (1, 6), (-5, 3), (4, 1), (-4, 3))
    >>> compared((1, 3), (2, 5)), compared((-1, 2), (-2, 3)), less_than((1, 3), (1, 3)), floor_of((-7, 2)), ceiling_of((-7, 2))
    (-1, 1, False, -4, -3)
    >>> floor_times((2, 3), 5), floor_times((-2, 3), 5), ceiling_times((2, 3), 5), floor_times((2, 3), -1)
    (3, -4, 4, -1)
    >>> simplest((5, 7), (7, 9)), simplest((-5, 2), (-7, 3)), simplest((-1, 1), (5, 2)), simplest((4, 9), (4, 9))
    ((3, 4), (-5, 2), (0, 1), (4, 9))
    >>> least_bottom_between((1, 3), (1, 2)), least_bottom_between((0, 1), (1, 1)), least_bottom_between((0, 1), (1, 7)), least_bottom_between((-3, 2), (7, 1))
    (5, 2, 8, 1)
    >>> between((1, 3), (1, 1), 4), between((-1, 2), (0, 1), 2), common_bottom(((1, 4), (5, 6), (2, 1)))
    ([(1, 3), (1, 2), (2, 3), (3, 4), (1, 1)], [(-1, 2), (0, 1)], 12)
    >>> fraction(3, 0)
    raises Unfit()
    >>> least_bottom_between((1, 3), (1, 3))
    raises Unfit()
    >>> between((0, 1), (600, 1), 2)
    raises TooMany()
"""

SECTION_5 = r"""
    >>> wheel, other, half = (1, 1, 3), (0, 2, 3), (1, 1)
    >>> [is_wheel(own) for own in (wheel, (0, 0, 4), (-2, 0, 1), (3, 2), (5,), ())], leads(wheel, 4), leads(wheel, -1), leads(wheel, 30)
    ([True, False, True, False, True, False], 4, 0, 31)
    >>> shift(3, 4), is_shift((4, 5, 6)), is_shift(wheel), steps_of((4, 5, 6)), steps_of((7,)), put_together((wheel, other)), put_together((other, wheel))
    ((4, 5, 6), True, False, 4, 7, (1, 3, 4), (2, 2, 3))
    >>> power(wheel, 0), power(wheel, 2), power(wheel, 3), power(half, 10 ** 30)
    ((0, 1, 2), (1, 1, 4), (1, 1, 4), (1, 1))
    >>> finer(half, 3), from_elsewhere(wheel, 1), from_elsewhere(wheel, 3) == wheel, finer(wheel, 1) == wheel
    ((3, 3, 3, 3, 3, 3), (0, 2, 3), True, True)
    >>> is_at_most(other, wheel), is_at_most((0, 1, 2), wheel), slips_of(wheel), slips_of(half), slips_of((5,)), led_places(wheel), led_from(wheel, 1), led_from(wheel, 2), led_from(half, 3)
    (False, True, (0,), (0,), (), (0, 1), (0, 1), (), (2, 3))
    >>> is_train((wheel, other)), is_train((wheel, half)), is_train(()), is_train(wheel)
    (True, False, False, False)
    >>> steps_of(wheel)
    raises CanNot()
    >>> is_at_most(wheel, half)
    raises Unfit()
"""

SECTION_6 = r"""
    >>> slips, steady, back = (1, 1, 4, 5, 5), (2, 3, 4, 5, 6), (-4, -4, -4)
    >>> come_back(slips), turning(slips), own_places(slips), own_step(slips), orbit(slips, 0), orbit(slips, 3)
    ((1, 1, 0), (0, 1), (1,), 0, (0, 1), (3, 0, 1))
    >>> come_back(steady), own_places(steady), own_step(steady), orbit(steady, 1)
    ((0, 5, 2), (0, 1, 2, 3, 4), 2, (1, 3, 0, 2, 4))
    >>> come_back(back), turning(back), own_places(back), orbit(back, 0), after(back, 0, 3)
    ((2, 1, -2), (-2, 1), (2,), (0, 2), -16)
    >>> two = (1, 1, 3, 4, 4)
    >>> come_back(two), own_places(two), after(two, 12, 10 ** 30), after(two, -3, 2), after(two, 7, 0)
    ((1, 1, 0), (1, 4), 14, -1, 7)
    >>> third = (2, 2, 4, 5, 6, 6)
    >>> come_back(third), own_places(third), own_step(third), [beats_to_own(third, own) for own in range(6)], after(third, 1, 7)
    ((0, 3, 1), (0, 2, 4), 1, [0, 1, 0, 2, 0, 1], 14)
    >>> come_together(third, 0, 1), come_together(third, 1, 5), come_together(third, 0, 2), come_together(third, 3, 3), come_together(slips, 1, 6)
    (1, None, None, 0, None)
    >>> is_return(steady, (0, 5, 2)), is_return(steady, (1, 5, 2)), is_return(steady, [0, 5, 2])
    (True, False, False)
    >>> orbit(steady, 5)
    raises NoPlace(place=5)
    >>> turning((1, 0))
    raises Unfit()
"""

SECTION_7 = r"""
    >>> slips, third, back = (1, 1, 4, 5, 5), (2, 2, 4, 5, 6, 6), (-4, -4, -4)
    >>> gains(slips, 1), gains(slips, 2), gains(third, 3), gains(third, 10 ** 30)[1], gains(back, 2)
    ((1, 0, 2, 2, 1), (1, 0, 3, 3, 2), (6, 5, 6, 5, 6, 5), 1999999999999999999999999999999, (-10, -11, -12))
    >>> can_gain(third, 1, 3), can_lag(third, 1, 3), gainer(third, 1, 3), lagger(third, 1, 3), can_gain(third, 2, 5), can_lag(third, 2, 5)
    (True, True, 0, 0, False, True)
    >>> is_gainer(third, 1, 3, 2), is_gainer(third, 1, 3, 1), is_lagger(third, 1, 3, 1), is_lagger(third, 1, 3, True), is_gainer(third, 1, 3, 6)
    (True, False, True, False, False)
    >>> all_short(third, 2, 5), all_short(third, 1, 3), all_beyond(third, 1, 4), all_beyond(third, 1, 3)
    (True, False, True, False)
    >>> [by_gains(own) for own in (slips, third, back)], [by_lags(own) for own in (slips, third, back)]
    ([(0, 1), (1, 3), (-2, 1)], [(0, 1), (1, 3), (-2, 1)])
    >>> by_walk(third, 1, 1), by_walk(third, 1, 36), by_walk(third, 0, 36), by_walk(slips, 2, 2), by_walk(back, 0, 4)
    (((0, 1), (1, 1)), ((11, 36), (1, 3)), ((1, 3), (1, 3)), ((0, 1), (1, 2)), ((-2, 1), (-7, 4)))
    >>> side_of(third, (1, 3)), side_of(third, (1, 4)), side_of(third, (2, 5)), side_of(back, (-2, 1)), side_of(back, (-9, 4))
    (0, 1, -1, 0, 1)
    >>> gainer(third, 2, 5)
    raises CanNot()
    >>> by_walk(third, 6, 1)
    raises NoPlace(place=6)
    >>> side_of(third, (2, 6))
    raises Unfit()
"""

SECTION_8 = r"""
    >>> wheel, flat = (1, 1, 4, 4), (0, 2, 2, 3)
    >>> first_back(wheel), last_back(wheel), mirrored(wheel)
    ((-2, 0, 2, 2), (-1, 1, 1, 1), (-1, 0, 0, 3))
    >>> last_back(first_back(wheel)) == wheel, first_back(first_back(wheel)), first_back((2, 3, 4)), mirrored((2, 3, 4))
    (True, (1, 2, 2, 5), (-2, -1, 0), (-2, -1, 0))
    >>> put_together((wheel, flat)), back_train((wheel, flat)), put_together(back_train((wheel, flat)))
    ((1, 4, 4, 4), ((0, 1, 1, 3), (-2, 0, 2, 2)), (-3, 0, 1, 1))
    >>> mirrored_train((wheel, flat)), put_together(mirrored_train((wheel, flat)))
    (((-1, 0, 0, 3), (0, 1, 2, 2)), (-1, 0, 0, 0))
    >>> is_back_pair(wheel, (-2, 0, 2, 2)), is_back_pair(wheel, (-1, 1, 1, 1)), is_back_pair(wheel, (0,))
    (True, False, False)
    >>> turning((1, 2, 4)), turning(first_back((1, 2, 4))), turning(mirrored((1, 2, 4)))
    ((1, 2), (-1, 2), (-1, 2))
    >>> first_back((1, 0))
    raises Unfit()
"""

SECTION_9 = r"""
    >>> few = (0, 2, 3)
    >>> [told_on(few, 5, own) for own in (-1, 0, 1, 3, 4)], [last_at(few, 5, own) for own in (-1, 1, 4, 5)], [first_at_least(few, 5, own) for own in (-1, 1, 4, 5)]
    ([-2, 0, 2, 5, 7], [-1, 0, 2, 3], [0, 1, 3, 3])
    >>> greatest_led(few, 1, 5), least_led(few, 1, 5), many_led(few, 1, 5), turning(greatest_led(few, 1, 5))
    ((2, 3, 3, 5, 7), (2, 2, 3, 5, 5), 6, (1, 3))
    >>> is_led_by((2, 2, 3, 5, 5), few, 1), led_by((2, 3, 3, 5, 5), few), is_led_by((2, 2, 3, 4, 5), few, 1)
    (True, 1, False)
    >>> greatest_led((1,), 0, 4), least_led((1,), 0, 4), many_led((1,), 0, 4), greatest_led((0, 2), 3, 4), least_led((0, 2), 3, 4)
    ((1, 1, 5, 5), (-3, 1, 1, 1), 35, (6, 8, 8, 10), (6, 6, 8, 8))
    >>> [wheel_between(few, 1, 5, own) for own in (0, 1, 3, 5)]
    [(2, 2, 3, 5, 5), (2, 2, 3, 5, 6), (2, 3, 3, 5, 5), (2, 3, 3, 5, 7)]
    >>> greatest_led((0, 1, 2), 7, 3), many_led((0, 1, 2), 7, 3), many_led((0, 12), 1, 24)
    ((7, 8, 9), 1, 1828114918084)
    >>> first_back(least_led((0, 2), 3, 4)) == greatest_led((0, 2), -3, 4)
    True
    >>> led_by((2, 2, 3, 4, 5), few)
    raises CanNot()
    >>> greatest_led((0, 5), 1, 5)
    raises Unfit()
    >>> wheel_between((0, 12), 1, 24, 0)
    raises TooMany()
"""

SECTION_10 = r"""
    >>> wheel, some = (1, 1, 4, 4, 5), (0, 2, 3)
    >>> seen(wheel, some), strictly_seen(wheel, some), seen_over(wheel, some), left_behind(wheel, some)
    ((0, 2, 2), (0, 2, 2), (1, 3, 3), (1, 1, 1))
    >>> seen(wheel, (1, 4)), strictly_seen(wheel, (1, 4)), seen_over(wheel, (1, 4)), seen(wheel, (0, 1, 2, 3, 4)) == wheel, seen(wheel, (2,)), seen_over(wheel, (2,))
    ((0, 1), (-1, 1), (0, 2), True, (0,), (1,))
    >>> fast = (3, 3, 4, 6, 7)
    >>> least_keeping(fast), least_keeping(wheel), least_keeping((1, 2, 3)), seen(fast, (1, 2, 3)), seen(fast, (0,))
    ((1, 3), (1,), (0, 1, 2), (2, 2, 3), (0,))
    >>> are_kept(fast, (1, 3)), are_kept(fast, (1, 2, 3)), kept_within(fast, (0, 1, 3)), kept_within(fast, (0, 4)), keeps_turning(fast, (1, 3)), keeps_turning(fast, (2, 4)), keeps_turning(fast, (0,))
    (True, False, (0, 1, 3), (), True, True, False)
    >>> places_within(some, 5, (0, 2)), seen(seen(wheel, some), (0, 2)) == seen(wheel, (0, 3)), all_seen((wheel, fast), some), all_strictly_seen((wheel, fast), some)
    ((0, 3), True, ((0, 2, 2), (2, 2, 3)), ((0, 2, 2), (1, 2, 3)))
    >>> seen(wheel, ())
    raises Unfit()
    >>> seen(wheel, (0, 5))
    raises Unfit()
"""

SECTION_11 = r"""
    >>> train, word = ((1, 1, 3), (0, 2, 3)), (0, 0, 1)
    >>> is_word(word), is_word((0, 2)), is_word(()), is_word([0]), letters_of(word), counts_of(word)
    (True, False, False, False, 2, (2, 1))
    >>> word_wheel(train, word), stops(train, word, 2), word_turning(train, word)
    ((1, 4, 4), (2, 3, 4, 4), (1, 1))
    >>> [word_wheel(train, turned_word(word, own)) for own in (1, 2)], turned_word(word, -1), least_turned((1, 0, 0))
    ([(3, 3, 4), (2, 2, 5)], (1, 0, 0), (0, 0, 1))
    >>> [turning(own) for own in train], added_turns(train, word), beyond(train, word)
    ([(0, 1), (0, 1)], (0, 1), (1, 1))
    >>> are_turned(word, (0, 1, 0)), are_turned(word, (0, 1)), root_of((0, 1, 0, 1)), root_of(word), repeated_word((0, 1), 2)
    (True, False, ((0, 1), 2), ((0, 0, 1), 1), (0, 1, 0, 1))
    >>> with_wheel(train, 1, (1, 2, 3)), word_turning(with_wheel(train, 1, (1, 2, 3)), word)
    (((1, 1, 3), (1, 2, 3)), (1, 1))
    >>> word_wheel(train, (0,))
    raises Unfit()
    >>> with_wheel(train, 2, (1, 2, 3))
    raises NoLetter(letter=2)
"""

SECTION_12 = r"""
    >>> train = ((1, 2, 3), (2, 4, 4), (1, 1, 2))
    >>> first_rung(train), next_rung(first_rung(train))
    ((3, 1, ((1, 3, 3), (0, 0, 1))), (2, 1, ((0, 0), (1, 1))))
    >>> ladder(train)[2:], [rung_turning(own) for own in ladder(train)], rung_word((3, 1, ((1, 3, 3), (0, 0, 1))))
    (((1, 0, ((0,), (0,))),), [(1, 1), (2, 1), (2, 1)], (5, 5, 5))
    >>> end_of(ladder(train)), ring_of(ladder(train)), bound_of(train), turning(put_together(train))
    ((2, 1), 1, ((2, 1), (3, 1)), (1, 1))
    >>> slow, fast = (0, 0, 0, 4), (1, 3, 3, 5)
    >>> ladder((slow, fast)), ladder((fast, slow)), bound_of((fast, slow))
    (((1, 0, ((0,),)),), ((2, 1, ((-1, 1),)), (1, 0, ((0,),))), ((1, 1), (1, 1)))
    >>> ladder((fast,)), end_of(ladder((fast,))), is_ladder((slow, fast), ((1, 0, ((0,),)),)), is_ladder((slow, fast), ((1, 0, ((1,),)),))
    (((2, 1, ()),), (1, 2), True, False)
    >>> broken_at(train, ladder(train)[:2]), broken_at(train, ladder(train) * 2), broken_at(train, ladder(train)), broken_at((slow, fast), ((1, 1, ((0,),)),))
    (2, 3, None, 0)
    >>> next_rung((1, 0, ((0,),)))
    raises CanNot()
    >>> end_of(ladder(train)[:1])
    raises Unfit()
"""

SECTION_13 = r"""
    >>> most(((1, 2), (1, 3))), bottoms(((1, 2), (1, 3))), least(((1, 2), (1, 3))), value_at(((1, 2), (1, 3)), 5)
    ((1, 1), (1, 2, 3, 4, 6), (1, 2), (4, 5))
    >>> most(((4, 7), (5, 9))), bottoms(((4, 7), (5, 9))), least(((4, 7), (5, 9))), slack(((4, 7), (5, 9)))
    ((3, 2), (2,), (1, 1), (47, 126))
    >>> most(((0, 1), (0, 1))), least(((0, 1), (0, 1))), most(((2, 3), (2, 3), (2, 3))), bottoms(((2, 3), (2, 3), (2, 3))), most(((3, 4),)), bottoms(((3, 4),))
    ((1, 1), (-1, 1), (8, 3), (3,), (3, 4), (4,))
    >>> most(((-1, 2), (1, 3))), least(((-1, 2), (1, 3))), is_between(((-1, 2), (1, 3)), (-1, 2)), is_between(((1, 2), (1, 3)), (7, 6)), slack(((1, 3),))
    ((0, 1), (-1, 2), True, False, (0, 1))
    >>> value_at(((1, 41), (1, 53)), 10 ** 6)
    (21629, 500000)
    >>> most(((1, 41), (1, 53)))
    raises TooMany()
    >>> most(())
    raises Unfit()
"""

SECTION_14 = r"""
    >>> half, third = (1, 2), (1, 3)
    >>> f, g = (3, 6, 6, 6, 9, 9), (3, 3, 5, 5, 7, 7)
    >>> turning(f), turning(g), turning(put_together((f, g))), most((half, third))
    ((1, 2), (1, 3), (1, 1), (1, 1))
    >>> [is_reached(own, (f, g)) for own in ((half, third), (third, half), (half, third, third))], is_reached((half, third), ((1, 2), (0, 2)))
    ([True, False, False], False)
    >>> train = reached((half, third))
    >>> is_reached((half, third), train), [turning(own) for own in train], turning(put_together(train))
    (True, [(1, 2), (1, 3)], (1, 1))
    >>> slow, quick = (0, 2, 2), (1, 6, 7, 7, 7, 7)
    >>> turning(slow), [is_raised(slow, half, own) for own in ((quick, 2), (quick, 3), [quick, 2], ((2, 3, 4, 5, 6, 7), 2), raised(slow, half))]
    ((0, 1), [True, False, False, False, True])
    >>> raised(slow, half)[1], is_raised(slow, (0, 1), (slow, 1)), is_raised(slow, third, (quick, 2))
    (2, True, False)
    >>> is_lowered(slow, (-1, 2), ((-1, -1, -1, -1, -1, 0), 2)), is_lowered(slow, (-1, 2), lowered(slow, (-1, 2)))
    (True, True)
    >>> least((half, third)), is_lowest((half, third), lowest((half, third))), is_lowest(((-1, 2), (-1, 3)), ((-3, -3, -3, 0, 0, 0), (-3, -1, -1, 1, 1, 3)))
    ((1, 2), True, True)
    >>> raised((1, 2, 3), (0, 1))
    raises CanNot()
    >>> lowered(slow, half)
    raises CanNot()
    >>> reached(((2, 4),))
    raises Unfit()
"""

SECTION_15 = r"""
    >>> rows((2, 2)), rows((2, 1)), rows((1, 2, 1)), many_rows((4, 4)), many_rows((6, 6, 6)), many_rows((24,))
    ([(0, 0, 1, 1), (0, 1, 0, 1)], [(0, 0, 1)], [(0, 1, 1, 2), (0, 1, 2, 1), (0, 2, 1, 1)], 10, 953056, 1)
    >>> led_train((0, 0, 1, 1), (1, 1)), led_train((0, 1, 0, 1), (1, 1)), led_train((0, 1), (1, 0))
    (((1, 4, 5, 5), (3, 3, 3, 6)), ((2, 4, 4, 6), (3, 3, 5, 5)), ((2, 4), (1, 1)))
    >>> half, both = (1, 2), ((1, 2), (1, 2))
    >>> [row_turning((0, 1), own, (1, 1)) for own in rows((2, 2))], most_of((0, 1), both), best_row((0, 1), both), least_of((0, 1), both)
    ([(1, 1), (3, 2)], (3, 2), (0, 1, 0, 1), (1, 2))
    >>> most_of((0, 0, 1), (half, (1, 3))), best_row((0, 0, 1), (half, (1, 3))), least_of((0, 0, 1), (half, (1, 3)))
    ((2, 1), (0, 0, 1, 1, 1), (1, 1))
    >>> most_of((0, 1, 2), (half, half, half)), most_of((0,), ((2, 3),)), most_of((0, 0), ((2, 3),)), most_of((0, 1, 0, 1, 1), (half, (0, 1)))
    ((5, 2), (2, 3), (4, 3), (2, 1))
    >>> bar((0, 1), both, (2, 1)), bar((0, 1), ((-1, 2), (1, 1)), (3, 2)), is_bar((0, 1), both, (2, 1), ())
    ((((0, 0, 1, 1), (1, 1, 1)), ((0, 1, 0, 1), (0, 2, 3))), (((0, 0, 1), (1, 1, 1)),), False)
    >>> row_of(((1, 1, 4, 5, 5), (0, 3, 3, 3, 4))), is_row((0, 2)), is_row((0, 1, 0)), is_row(())
    ((0, 1), False, True, False)
    >>> bar((0, 1), both, (3, 2))
    raises CanNot()
    >>> rows((3, 3, 3))
    raises TooMany()
"""

SECTION_16 = r"""
    >>> train_text(((0, 2, 2), (-1, 1, 2)))
    'ring 3\nwheel 0 2 2\nwheel -1 1 2\n'
    >>> read_train("ring 2 # two\n\n wheel  0 1"), read_rungs("rung 2 1\nrung 1 -3\nwheel 4")
    (((0, 1),), ((2, 1, ()), (1, -3, ((4,),))))
    >>> wishes_text((((0, 1, 0), ((1, 2), (-1, 3)), (1, 1)),)), read_wishes("")
    ('wish 0 1 0 turns 1/2 -1/3 goal 1\n', ())
    >>> rungs_text(((2, 1, ()), (1, -3, ((4,),)))), is_wish(((0, 1), ((1, 2),), (1, 1))), is_rungs(())
    ('rung 2 1\nrung 1 -3\nwheel 4\n', False, False)
    >>> read_train("ring 3\nwheel 0 2")
    raises BadText(line=1)
    >>> read_train("ring 2\n")
    raises BadText(line=0)
    >>> read_wishes("\nwish 0 2 turns 1/2 1/2 goal 1")
    raises BadText(line=1)
"""

SECTION_17 = r"""
    >>> low, high = (0, 1, 1, 3), (0, 0, 2, 4)
    >>> lesser(low, high), greater(low, high), teeth_between(low, high), teeth(low)
    ((0, 0, 1, 3), (0, 1, 2, 4), 3, ((0, -1), (0, 1), (1, -1), (2, 1), (3, -1), (3, 1)))
    >>> with_tooth(low, (2, 1)), is_plan(low, high, ((1, -1), (2, 1), (3, 1))), is_plan(low, high, ((1, -1), (2, 1))), is_plan(low, high, plan(low, high))
    ((0, 1, 2, 3), True, False, True)
    >>> turnings_along((0, 0, 0), ((2, 1), (1, 1), (0, 1), (2, 1))), behind_plan((0, 0, 0), ((2, 1), (1, 1)))
    ([(0, 1), (0, 1), (0, 1), (0, 1), (0, 1)], (0, 1, 1))
    >>> row_wheel((0, 2), (1, 2), 4), row_wheel((1, 1), (1, 2), 3), fewest((0, 0, 0), (1, 2)), fewest((0, 0, 0), (0, 1)), fewest((0, 1, 2), (1, 1))
    ((2, 2, 4, 4), (1, 4, 4), 7, 0, 6)
    >>> is_fewest_plan((0, 0, 0), (1, 2), fewest_plan((0, 0, 0), (1, 2))), is_fewest_plan((0, 0, 0), (0, 1), ())
    (True, True)
    >>> with_tooth(low, (1, 1))
    raises CanNot()
    >>> behind_plan(low, ((2, 1), (1, -1), (1, -1)))
    raises Broken(place=2)
"""

SECTION_18 = r"""
    >>> corners((0, 0, 1), (3, 2)), corners((0, 0, 1, 1), (2, 1))
    ((((1, 4), (1, 2)), ((1, 2), (0, 1))), (((0, 1), (1, 2)), ((1, 2), (0, 1))))
    >>> corners((0, 1, 0, 1), (5, 2))
    (((1, 4), (3, 4)), ((1, 3), (2, 3)), ((1, 2), (1, 2)), ((2, 3), (1, 3)), ((3, 4), (1, 4)))
    >>> [can((0, 0, 1), own, (3, 2)) for own in (((1, 4), (1, 2)), ((1, 5), (1, 2)), ((1, 4), (1, 3)), ((1, 2), (0, 1)))]
    [True, False, False, True]
    >>> least_beside((0, 0, 1), (3, 2), 0, (1, 2)), least_beside((0, 0, 1), (3, 2), 1, (1, 4)), least_beside((0, 0, 1), (3, 2), 1, (0, 1)), most_bottoms((0, 0, 1), (3, 2))
    ((1, 4), (1, 2), (1, 1), (4, 2))
    >>> just_below((1, 2), 4), just_below((0, 1), 3), just_below((-3, 2), 2)
    ((1, 3), (-1, 3), (-2, 1))
    >>> paper = corner_paper((0, 0, 1), (3, 2), ((1, 4), (1, 2)))
    >>> is_corner_paper((0, 0, 1), (3, 2), ((1, 4), (1, 2)), paper), is_corner_paper((0, 0, 1), (3, 2), ((1, 4), (1, 2)), paper[:1] + paper[:0:-1])
    (True, False)
    >>> [is_corner((0, 0, 1), (3, 2), own) for own in (((1, 4), (1, 2)), ((1, 2), (1, 2)), ((1, 4), (2, 4)), [(1, 2), (0, 1)])]
    [True, False, False, False]
    >>> corner_paper((0, 0, 1), (3, 2), ((1, 2), (1, 2)))
    raises CanNot()
    >>> corners((0, 0, 0, 1, 1), (3, 2))
    raises TooMany()
"""

SECTION_19 = r"""
    >>> slow, quick, halts = (1, 2, 3, 5), (2, 2, 4, 5), (1, 1, 3)
    >>> [first_at(slow, 0, own) for own in (-2, 0, 1, 10, 10 ** 30)]
    [0, 0, 1, 8, 750000000000000000000000000001]
    >>> [last_below(slow, 0, own) for own in (0, 1, 10)], [first_at(halts, 2, own) for own in (2, 3, 4, 5)], last_below(halts, 2, 4)
    ([None, 0, 7], [0, 1, 2, None], 1)
    >>> way_of(slow, 0), way_of(halts, 1), way_of(halts, 2), way_of((-3, -1, -1), 5), first_at((-3, -1, -1), 5, 6)
    (1, 0, 1, -1, None)
    >>> first_passed(quick, 0, slow, 20), first_passed(slow, 0, quick, 20), meeting(quick, 0, slow, 20), meeting(quick, 0, slow, 21)
    (29, None, 29, 31)
    >>> first_passed(quick, 0, slow, 10 ** 24), meeting_place(quick, 0, slow, 20), meeting_place(quick, 1, slow, 3), meeting_place((2, 3), 0, (2, 3), 1)
    (1499999999999999999999999, 0, 5, None)
    >>> slowest(slow, 1), slowest(quick, 3), quickest(slow, 1), quickest(quick, 3), slowest(halts, 1), quickest(halts, 1)
    ((0, 4), (1, 7), (1, 3), (0, 6), None, None)
    >>> last_below(halts, 2, 5)
    raises CanNot()
    >>> meeting(slow, 0, halts, 0)
    raises Unfit()
"""

SECTION_20 = r"""
    >>> on, slip = (1, 2, 3), (0, 0, 3)
    >>> is_so(("train", (on, slip), (0, 1))), is_so(("train", (on, slip), (-1, 2))), is_so(("train", (on, on), (1, 2)))
    (True, False, False)
    >>> is_reason_for(("train", (on, slip), (0, 1)), (1, 1, 0)), is_paper_against(("train", (on, slip), (-1, 2)), (1, 3, -1)), is_paper_against(("train", (on, slip), (-1, 2)), (1, 2, -1))
    (True, True, False)
    >>> half, third = (1, 2), (1, 3)
    >>> is_so(("most", (half, third), (1, 1))), is_so(("most", (half, third), (5, 6))), reason_for(("most", (half, third), (1, 1)))
    (True, False, (1, 2, 3, 4, 4, 6))
    >>> is_so(("word", (0, 1), (half, third), (1, 1))), is_so(("word", (0, 1), (half, third), (5, 4))), is_paper_against(("word", (0, 1), (half, third), (1, 1)), ((1, 2), (0, 1)))
    (False, True, False)
    >>> is_so(("teeth", slip, (0, 1, 3), 1)), is_so(("teeth", slip, (0, 1, 3), 0)), paper_against(("teeth", slip, (0, 1, 3), 0))
    (True, False, (0, 1, 0))
    >>> is_reason_for(("teeth", slip, (0, 1, 3), 3), ((1, 1), (1, -1), (1, 1))), is_demand(("teeth", slip, (0, 1), 1)), first_fallen((("most", (half,), half), ("most", (half,), third)))
    (True, False, 1)
"""

SECTION_21 = r"""
    >>> desk = Desk()
    >>> desk.say("wheel on 1 2 3\nwheel slip 0 0 3\nwheel odd 2 1\nturn on\ntrain on slip\nmost on on\nend on slip")
    ('done', 'done', 'no wheel', '1/3', '0/1', '1/1', '1/1')
    >>> desk.say("tooth slip 1 more\ntooth slip 3 less\ntrain slip on\nturn away\nwheel pair 1 1\ntrain on pair"), desk.wheel("slip"), desk.names()
    (('done', 'no tooth', '1/2', 'no name', 'done', 'rings'), (0, 1, 3), ('on', 'pair', 'slip'))
    >>> desk.undo(), desk.wheel("slip"), desk.redo(), desk.say("names\nwheel low -3 -2 0\nturn low")
    (2, (0, 0, 3), 3, ('on, pair, slip', 'done', '-1/1'))
    >>> desk.say("wheel on 01 2 3")
    raises BadText(line=0)
    >>> other = desk.twin()
    >>> other.say("drop pair\ndrop pair"), other == desk, other.undo(), other == desk
    (('done', 'no name'), False, 4, True)
    >>> Desk().undo()
    raises NothingDone()
"""


SECTIONS = (
    SECTION_3, SECTION_4, SECTION_5, SECTION_6, SECTION_7, SECTION_8, SECTION_9, SECTION_10, SECTION_11, SECTION_12,
    SECTION_13, SECTION_14, SECTION_15, SECTION_16, SECTION_17, SECTION_18, SECTION_19, SECTION_20, SECTION_21,
)


class Examples(unittest.TestCase):
    """Names set in one section stand in the later ones, too."""

    def test_all_sections(self):
        names = names_of_package()
        for section in SECTIONS:
            run_examples(self, section, names)

    def test_each_section_has_its_examples(self):
        many = [len(parted(section)) for section in SECTIONS]
        self.assertEqual(many, [6, 10, 9, 12, 11, 8, 11, 9, 9, 10, 7, 14, 10, 7, 8, 10, 9, 8, 8])

    def test_readme(self):
        top = os.path.dirname(os.path.dirname(os.path.abspath(__file__)))
        told = doctest.testfile(os.path.join(top, "README.md"), module_relative=False)
        self.assertEqual(told.failed, 0)
        self.assertGreater(told.attempted, 0)


if __name__ == "__main__":
    unittest.main()
