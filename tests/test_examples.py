"""The examples of the interface, as they are written in the document.

>>> from partviews.logs import is_name_set
>>> is_name_set(('b', 'a'))
False
>>> from partviews.logs import restrict
>>> restrict(('a', 'c', 'b', 'a'), ('a', 'b'))
('a', 'b', 'a')
>>> from partviews.logs import fits
>>> case = ((('a', 'b'), ('a', 'b', 'a')), (('b', 'c'), ('c', 'b')))
>>> fits(case, ('a', 'c', 'b', 'a'))
True

>>> from partviews.counts import count_conflict
>>> count_conflict(((('a',), ('a',)), (('a', 'b'), ('b',))))
('a', 0, 1)
>>> from partviews.counts import events
>>> case = ((('a', 'b'), ('a', 'b', 'a')), (('b', 'c'), ('c', 'b')))
>>> events(case)
[('a', 1), ('a', 2), ('b', 1), ('c', 1)]

>>> from partviews.rings import is_ring
>>> case = ((('a', 'b'), ('a', 'b')), (('b', 'c'), ('b', 'c')), (('a', 'c'), ('c', 'a')))
>>> is_ring(case, [('a', 1, 0), ('b', 1, 1), ('c', 1, 2)])
True
>>> from partviews.rings import shortest_ring
>>> case = ((('a', 'b'), ('a', 'b')), (('b', 'c'), ('b', 'c')), (('a', 'c'), ('c', 'a')))
>>> len(shortest_ring(case))
3

>>> from partviews.joining import is_possible
>>> case = ((('a', 'b'), ('a', 'b')), (('b', 'c'), ('b', 'c')), (('a', 'c'), ('c', 'a')))
>>> is_possible(case)
False
>>> from partviews.joining import least_log
>>> case = ((('a', 'b'), ('a', 'b', 'a')), (('b', 'c'), ('c', 'b')))
>>> least_log(case)
('a', 'c', 'b', 'a')
>>> from partviews.joining import count_logs
>>> case = ((('a', 'b'), ('a', 'b', 'a')), (('b', 'c'), ('c', 'b')))
>>> count_logs(case)
2
>>> from partviews.joining import all_logs
>>> case = ((('a', 'b'), ('a', 'b', 'a')), (('b', 'c'), ('c', 'b')))
>>> all_logs(case)
[('a', 'c', 'b', 'a'), ('c', 'a', 'b', 'a')]

>>> from partviews.certain import is_before
>>> case = ((('a', 'b'), ('a', 'b', 'a')), (('b', 'c'), ('c', 'b')))
>>> is_before(case, ('c', 1), ('a', 2))
True
>>> from partviews.certain import undecided
>>> case = ((('a', 'b'), ('a', 'b', 'a')), (('b', 'c'), ('c', 'b')))
>>> undecided(case)
[(('a', 1), ('c', 1))]
>>> from partviews.certain import both_orders
>>> case = ((('a', 'b'), ('a', 'b', 'a')), (('b', 'c'), ('c', 'b')))
>>> both_orders(case, ('c', 1), ('a', 1))
(('c', 'a', 'b', 'a'), ('a', 'c', 'b', 'a'))
>>> from partviews.certain import is_settled
>>> case = ((('a', 'b'), ('a', 'b', 'a')), (('b', 'c'), ('c', 'b')))
>>> is_settled(case)
False

>>> from partviews.conflicts import fits_every
>>> case = ((('a', 'b'), ('a', 'b')), (('b', 'c'), ('b', 'c')), (('a', 'c'), ('c', 'a')))
>>> fits_every(case, 2)
True
>>> from partviews.conflicts import minimal_conflicts
>>> case = ((('a', 'b'), ('a', 'b')), (('b', 'c'), ('b', 'c')), (('a', 'c'), ('c', 'a')))
>>> minimal_conflicts(case)
[(0, 1, 2)]

>>> from partviews.bare import is_bare_ring
>>> family = (('a', 'b'), ('b', 'c'), ('a', 'c'))
>>> is_bare_ring(family, ('c', 'a', 'b'))
True
>>> from partviews.bare import bare_rings
>>> family = (('a', 'b'), ('b', 'c'), ('a', 'c'))
>>> bare_rings(family)
[('a', 'b', 'c')]

>>> from partviews.thresholds import threshold
>>> family = (('a', 'b'), ('b', 'c'), ('a', 'c'))
>>> threshold(family)
3
>>> from partviews.thresholds import built_case
>>> family = (('a', 'b'), ('b', 'c'), ('a', 'c'))
>>> built_case(family, ('a', 'b', 'c'))
((('a', 'b'), ('a', 'b')), (('b', 'c'), ('b', 'c')), (('a', 'c'), ('c', 'a')))
>>> from partviews.thresholds import is_complete
>>> family = (('a', 'b'), ('b', 'c'), ('a', 'c'))
>>> is_complete(family)
True
>>> from partviews.thresholds import open_pair
>>> open_pair((('a', 'b'), ('b', 'c')))
('a', 'c')

>>> from partviews.growing import begins
>>> case = ((('a', 'b'), ('a', 'b')), (('a', 'b'), ('a',)))
>>> begins(case, ('a', 'b', 'b'))
True
>>> from partviews.growing import growing_log
>>> case = ((('a', 'b'), ('a', 'b')), (('a', 'b'), ('a',)))
>>> growing_log(case)
('a', 'b')
>>> from partviews.growing import is_growing_ring
>>> case = ((('a', 'b'), ('a',)), (('a', 'b'), ('b',)))
>>> is_growing_ring(case, [('a', 1, 0), ('b', 1, 1)])
True
>>> from partviews.growing import growing_ring
>>> case = ((('a', 'b'), ('a',)), (('a', 'b'), ('b',)))
>>> len(growing_ring(case))
2
>>> from partviews.growing import missing
>>> case = ((('a', 'b'), ('a', 'b')), (('a', 'b'), ('a',)))
>>> missing(case)
[[], [('b', 1)]]

>>> from partviews.workspace import Workspace
>>> space = Workspace((('a', 'b'), ('a', 'b')))
>>> space.see(0, 'a')
>>> space.see(0, 'b')
>>> [space.possible_next(1), space.log(), space.is_whole()]
[['a'], ('a', 'b'), False]

>>> from partviews.checker import check
>>> case = ((('a', 'b'), ('a', 'b', 'a')), (('b', 'c'), ('c', 'b')))
>>> check(('log', case, ('a', 'b', 'c', 'a')))
('wrong', 1)

>>> from partviews.questions import possible_views
>>> case = ((('a', 'b'), ('a', 'b', 'a')), (('b', 'c'), ('c', 'b')))
>>> possible_views(case, ('a', 'c'))
[(('a', 'c', 'a'), 1), (('c', 'a', 'a'), 1)]
>>> from partviews.questions import best_pair
>>> case = ((('a', 'b'), ('a', 'b', 'a')), (('b', 'c'), ('c', 'b')))
>>> best_pair(case)
('a', 'c')

>>> from partviews.loose import is_loose_ring
>>> family = (('a', 'b'), ('b', 'c'), ('a', 'c'))
>>> is_loose_ring(family, (('a', 0), ('b', 1), ('c', 2)))
True
>>> from partviews.loose import longest_loose_ring
>>> print(longest_loose_ring((('a', 'b'), ('b', 'c'))))
None
>>> from partviews.loose import growing_threshold
>>> family = (('a', 'b', 'c'), ('a', 'b', 'd'), ('a', 'c', 'd'), ('b', 'c', 'd'))
>>> growing_threshold(family)
3
>>> from partviews.loose import built_growing_case
>>> built_growing_case((('a', 'b'), ('a', 'b')), (('a', 0), ('b', 1)))
((('a', 'b'), ('a', 'b')), (('a', 'b'), ('b', 'a')))
>>> from partviews.loose import every_grows
>>> case = ((('a', 'b'), ('a',)), (('a', 'b'), ('b',)))
>>> every_grows(case, 2)
False

>>> from partviews.machines import answer_to, least_question, parting_log
>>> family = (('a', 'b'), ('b', 'c'))
>>> latest = ((False, True), ((1, 0, 0), (1, 1, 0)))
>>> odd = ((False, True, True), ((0, 1, 0), (2, 0, 2), (1, 0, 1)))
>>> [answer_to(family, latest, ('c', 'a', 'b')), least_question(family, odd), parting_log(family, latest, odd)]
[True, ((False, True), ((0, 1, 0), (1, 0, 1))), ('a',)]
>>> from partviews.machines import before_of, once_of, opposite_of
>>> family = (('a', 'b'), ('b', 'c'))
>>> latest = ((False, True), ((1, 0, 0), (1, 1, 0)))
>>> [once_of(family, latest), opposite_of(family, latest)]
[((False, True), ((1, 0, 0), (1, 1, 1))), ((True, False), ((1, 0, 0), (1, 1, 0)))]

>>> from partviews.needs import classes_of, needed_names, needed_pairs
>>> family = (('a', 'b'), ('b', 'c'))
>>> latest = ((False, True), ((1, 0, 0), (1, 1, 0)))
>>> odd = ((False, True, True), ((0, 1, 0), (2, 0, 2), (1, 0, 1)))
>>> [needed_names(family, latest), needed_pairs(family, latest), classes_of(family, odd)]
[['a', 'c'], [('a', 'c')], (0, 1, 1)]

>>> from partviews.groups import does_answer, further_names, greatest_groups, least_groups
>>> family = (('a', 'b'), ('b', 'c'))
>>> latest = ((False, True), ((1, 0, 0), (1, 1, 0)))
>>> odd = ((False, True), ((0, 1, 0), (1, 0, 1)))
>>> [does_answer(family, (0, 1), latest), further_names(family, (0, 1), latest), least_groups(family, odd), greatest_groups(family, odd)]
[False, ('a', 'c'), [(0,), (1,)], [()]]
>>> from partviews.groups import sees_as_much
>>> [sees_as_much(family, (0, 1), (1,)), sees_as_much(family, (0,), (1,))]
[True, False]

>>> from partviews.verdicts import all_cuts, cut_table, first_log, verdict
>>> case = ((('a', 'b'), ('a', 'b', 'a')), (('b', 'c'), ('c', 'b')))
>>> latest = ((False, True), ((1, 0, 0), (1, 1, 0)))
>>> first_a = ((False, True, False), ((1, 2, 2), (1, 1, 1), (2, 2, 2)))
>>> [all_cuts(case), verdict(case, latest), verdict(case, first_a), first_log(case, first_a, False)]
[[(0, 0, 0), (0, 0, 1), (1, 0, 0), (1, 0, 1), (1, 1, 1), (2, 1, 1)], 'yes', 'both', ('c', 'a', 'b', 'a')]
>>> cut_table(case, first_a)[3:]
[((1, 0, 1), (1, 2)), ((1, 1, 1), (1, 2)), ((2, 1, 1), (1, 2))]

>>> from partviews.chosen import chosen_log, chosen_place, count_chosen
>>> case = ((('a', 'b'), ('a', 'b', 'a')), (('b', 'c'), ('c', 'b')))
>>> latest = ((False, True), ((1, 0, 0), (1, 1, 0)))
>>> [count_chosen(case, latest, True), chosen_log(case, latest, True, 1), chosen_place(case, latest, True, ('b',))]
[2, ('c', 'a', 'b', 'a'), 1]

>>> from partviews.forever import forever, position_table
>>> case = ((('a', 'b'), ('a', 'b')), (('a', 'b'), ('a',)))
>>> first_a, last_a = ((False, True, False), ((1, 2), (1, 1), (2, 2))), ((False, True), ((1, 0), (1, 0)))
>>> [forever(case, first_a), forever(case, last_a), position_table(case, last_a)]
['yes', 'both', [((0, 0), (0,)), ((1, 1), (1,)), ((2, 1), (0, 1))]]

>>> from partviews.knowing import common, known_sets, knows
>>> from partviews.machines import opposite_of
>>> family = (('a', 'b'), ('b', 'c'))
>>> latest, odd = ((False, True), ((1, 0, 0), (1, 1, 0))), ((False, True), ((0, 1, 0), (1, 0, 1)))
>>> [knows(family, 0, latest), knows(family, 0, opposite_of(family, latest)), common(family, (0, 1), odd) == odd]
[((False,), ((0, 0, 0),)), ((True, False), ((1, 0, 0), (1, 1, 1))), True]
>>> known_sets(family, 0, latest, ('c', 'a', 'b'))
[(0,), (0, 1), (0, 1)]
>>> from partviews.knowing import depth_of
>>> [depth_of(family, (0, 1)), depth_of((('a', 'b'), ('b',)), (0, 1)), depth_of(family, (1,))]
[2, 1, 1]

>>> from partviews.asking import Asking
>>> space = Asking((('a', 'b'), ('a', 'b')))
>>> number = space.ask(((False, True, False), ((1, 2), (1, 1), (2, 2))))
>>> first = space.verdicts()
>>> space.see(0, 'a')
>>> [number, first, space.verdicts(), space.news(), space.knowers(0)]
[0, ['both'], ['yes'], [(0, 'yes')], [0]]

>>> from partviews.records import judge
>>> family, odd = (('a', 'b'), ('b', 'c')), ((False, True), ((0, 1, 0), (1, 0, 1)))
>>> [judge(('answered', family, (1,), odd, (0, 1))), judge(('unknown', family, 0, odd, ('b',), ('b', 'c')))]
[('right',), ('wrong', 4)]
"""

import doctest
import os
import sys
import unittest

HERE = os.path.dirname(os.path.abspath(__file__))


class ExampleTest(unittest.TestCase):

    def check(self, failed, attempted, least):
        self.assertEqual(failed, 0)
        self.assertGreaterEqual(attempted, least)

    def test_examples_of_the_interface(self):
        result = doctest.testmod(sys.modules[__name__])
        self.check(result.failed, result.attempted, 159)

    def test_examples_of_the_readme(self):
        path = os.path.join(HERE, os.pardir, 'README.md')
        result = doctest.testfile(path, module_relative=False, encoding='utf-8')
        self.check(result.failed, result.attempted, 10)

    def test_functions_are_defined_in_their_files(self):
        places = {
            'logs': ['is_name_set', 'is_family', 'is_log', 'is_case', 'restrict', 'fits'],
            'counts': ['count_conflict', 'events'],
            'rings': ['is_ring', 'shortest_ring'],
            'joining': ['is_possible', 'least_log', 'count_logs', 'all_logs'],
            'certain': ['is_before', 'undecided', 'both_orders', 'is_settled'],
            'conflicts': ['fits_every', 'minimal_conflicts'],
            'bare': ['is_bare_ring', 'bare_rings'],
            'thresholds': ['threshold', 'built_case', 'is_complete', 'open_pair'],
            'growing': ['begins', 'growing_log', 'is_growing_ring', 'growing_ring', 'missing'],
            'workspace': ['Workspace'],
            'checker': ['check'],
            'questions': ['possible_views', 'best_pair'],
            'loose': [
                'is_loose_ring', 'longest_loose_ring', 'growing_threshold', 'built_growing_case', 'every_grows',
            ],
            'wrongs': ['InvalidQuestion', 'InvalidGroup', 'NotARecord'],
            'machines': [
                'is_question', 'answer_to', 'least_question', 'are_alike', 'parting_log', 'implies', 'joint_classes',
                'both_of', 'either_of', 'opposite_of', 'once_of', 'before_of', 'since_of',
            ],
            'needs': ['needed_names', 'needed_pairs', 'need_logs', 'classes_of', 'are_classes'],
            'groups': [
                'look_same', 'does_answer', 'parting_logs', 'least_groups', 'greatest_groups', 'further_names',
                'sees_as_much', 'short_logs', 'telling_question',
            ],
            'verdicts': ['all_cuts', 'verdict', 'first_log', 'cut_table', 'is_cut_table'],
            'chosen': ['count_chosen', 'chosen_log', 'chosen_place'],
            'forever': ['forever', 'turning_logs', 'position_table', 'is_position_table'],
            'knowing': [
                'knows', 'everyone', 'common', 'is_known', 'known_sets', 'other_log', 'first_known', 'common_sets',
                'leading_logs', 'depth_of', 'depth_group', 'deep_question',
            ],
            'asking': ['Asking'],
            'records': ['judge'],
        }
        for place, names in places.items():
            module = __import__('partviews.' + place, fromlist=names)
            for name in names:
                self.assertEqual(getattr(module, name).__module__, 'partviews.' + place)


if __name__ == '__main__':
    unittest.main()
