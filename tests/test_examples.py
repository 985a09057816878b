"""The examples of the document, with just the values that it shows."""

import doctest
import unittest

EXAMPLES = """
>>> from letinside.gates import Gate
>>> shop = Gate(2, ["buy", "ask"], ["gold"], [("buy", 0, "", 1, False, ("gold",)), ("ask", 1, "?", 1, False, ("+given", "gold"))])
>>> [shop.kind_of("gold"), shop.kind_of("ann"), shop.kind_of(""), shop.rule_for("buy", 0, ""), shop.rule_for("buy", 1, "")]
['gold', '?', '', ('buy', 0, '', 1, False, ('gold',)), None]
>>> [shop.call(0, "", "buy", ""), shop.call(1, "", "ask", "ann"), shop.call(1, "", "ask", "gold"), shop.doors()]
[(1, '', ['gold']), (1, '', ['ann', 'gold']), (1, '', []), ['ask', 'buy']]
>>> post = Gate(1, ["put", "get"], [], [("put", 0, "?", 0, True, ("+kept",)), ("get", 0, "", 0, False, ("+kept",))])
>>> [post.call(0, "", "put", "ann"), post.call(0, "ann", "put", "bob"), post.call(0, "bob", "get", "")]
[(0, 'ann', []), (0, 'bob', ['ann']), (0, 'bob', ['bob'])]
>>> from letinside.houses import House
>>> house = House(["ann", "bob"], ["cup"], [shop.renamed({"gold": "cup"}), post], [("ann", "buy"), ("ann", "put"), ("bob", "get"), ("bob", "bob")])
>>> [house.first(), house.doors(), house.gate_of("put"), house.objects()]
[[('ann', 'buy'), ('ann', 'put'), ('bob', 'get')], ['ask', 'buy', 'get', 'put'], 1, ['ann', 'ask', 'bob', 'buy', 'cup', 'get', 'put']]
>>> from letinside.doing import deeds_at, done, is_turn, led, told
>>> from letinside.stands import first_stand, has, within
>>> begin = first_stand(house)
>>> begin
(((0, ''), (0, '')), (('ann', ('ann', 'buy', 'put')), ('bob', ('bob', 'get'))))
>>> bought = done(house, begin, ("call", "ann", "buy", ""))
>>> bought
(((1, ''), (0, '')), (('ann', ('ann', 'buy', 'cup', 'put')), ('bob', ('bob', 'get'))))
>>> row = [("call", "ann", "buy", ""), ("call", "ann", "put", "cup"), ("call", "bob", "get", "")]
>>> [has(led(house, begin, row)[3], (("bob", "cup"),)), told(house, bought, ("call", "ann", "put", "ann")), is_turn(house, bought, ("call", "ann", "put", "ann"))]
[True, [], True]
>>> [within(begin, bought), len(deeds_at(house, begin, ("bob",))), deeds_at(house, begin, ("bob",))[0]]
[False, 3, ('call', 'bob', 'get', '')]
>>> from letinside.growing import growth, grown, is_grown, lots
>>> from letinside.nodes import next_nodes, nodes, turns_to
>>> both = ("ann", "bob")
>>> [is_grown(house, begin, both), lots(house, begin, both), len(next_nodes(house, begin, both))]
[True, [['ann'], ['bob']], 4]
>>> [[node[0] for node in next_nodes(house, begin, both)][1:], len(nodes(house, ("bob",)))]
[[((0, ''), (0, 'buy')), ((0, ''), (0, 'put')), ((1, ''), (0, ''))], 1]
>>> from letinside.ends import apart, ever, most_held
>>> from letinside.fences import fence, is_fence
>>> from letinside.reach import can, fewest, is_play_for, play_for
>>> [can(house, ("ann",), (("bob", "cup"),)), can(house, both, (("bob", "cup"),)), fewest(house, both, (("bob", "cup"),)), is_play_for(house, both, (("bob", "cup"),), row)]
[False, True, 2, True]
>>> is_fence(house, ("ann",), (("bob", "cup"),), fence(house, ("ann",), (("bob", "cup"),)))
True
>>> once = Gate(2, ["pick"], ["cup", "key"], [("pick", 0, "", 1, False, ("cup",)), ("pick", 0, "?", 1, False, ("key",))])
>>> chest = House(["ann"], ["cup", "key"], [once], [("ann", "pick")])
>>> [ever(chest, ("ann",)), apart(chest, ("ann",)), [len(held[0][1]) for held in most_held(chest, ("ann",))]]
[{'ann': ['ann', 'cup', 'key', 'pick']}, [(('ann', 'cup'), ('ann', 'key'))], [3, 3]]
>>> from letinside.least import actor_lots, barring, bringing
>>> from letinside.needed import followed, idle, needed
>>> [actor_lots(house, (("bob", "cup"),)), bringing(house, both, (("bob", "cup"),)), barring(house, both, (("bob", "cup"),))]
[[['ann', 'bob']], [[('ann', 'buy'), ('ann', 'put'), ('bob', 'get')]], [[('ann', 'buy')], [('ann', 'put')], [('bob', 'get')]]]
>>> [needed(house, both, (("bob", "cup"),)), idle(house, both)]
[[('buy', 0, ''), ('get', 0, ''), ('put', 0, '?')], [('ask', 1, '?')]]
>>> from letinside.latefences import is_late_fence, late_fence
>>> from letinside.throws import bars, is_late_play, late_play, latest
>>> [latest(house, both, "buy", (("bob", "cup"),)), latest(house, both, "get", (("bob", "cup"),)), bars(house, both, "buy", 0, (("bob", "cup"),)), bars(house, both, "buy", 1, (("bob", "cup"),))]
[('upto', 0), ('no',), True, False]
>>> is_late_play(house, both, "buy", 1, (("bob", "cup"),), [row[0], ("throw", "buy"), row[1], row[2]])
True
>>> from letinside.pairs import are_pairs, pairs
>>> from letinside.views import parting, see_same, shown
>>> view = (chest, "ann", ["pick"])
>>> [shown(view, [(1, -1), (1, -1)]), shown(view, [(1, 0)])]
[[[2], []], [[2]]]
>>> box = Gate(2, ["take"], ["coin"], [("take", 0, "", 1, False, ("coin",)), ("take", 0, "?", 1, False, ("coin",))])
>>> other = (House(["eve"], ["coin"], [box], [("eve", "take")]), "eve", ["take"])
>>> [see_same(view, other), parting(view, other), len(pairs(view, other))]
[True, None, 3]
>>> from letinside.codes import letter, ran
>>> from letinside.needing import do_same, need_case, needs, plain
>>> deputy = ("call", "box", "", ("it",), ("same", "it", "mine", ("call", "out", "it", ("x",), ("end", ("x",)), ("end", ())), ("end", ("it",))), ("end", ()))
>>> [letter(deputy), needs(deputy), ran(deputy, ({"box": 0, "mine": 7, "out": 3}, [[7], [5]]))]
[['box', 'mine', 'out'], ['box', 'mine', 'out'], ([(0, None), (3, 7)], [5])]
>>> ran(deputy, ({"box": 0, "mine": 7, "out": 3}, [[4]]))
([(0, None)], [4])
>>> from letinside.visits import alone, asked_can, made, misled
>>> safe = Gate(1, ["open", "out"], ["cup"], [("open", 0, "cup", 0, False, ()), ("out", 0, "", 0, False, ())])
>>> hall = House(["ann"], ["cup"], [post, safe], [("ann", "put"), ("ann", "out")])
>>> visit = (hall, ("ann",), ("call", "get", "", ("it",), ("call", "it", "", ("x",), ("end", ()), ("end", ("it",))), ("end", ())), {"get": "get"}, "ann")
>>> [alone(visit), misled(visit)]
[[('get', '')], [('get', ''), ('out', ''), ('put', '')]]
>>> [made(visit, [("call", "ann", "put", "out"), ("step",), ("step",)]), asked_can(visit, (("ann", "get"),))]
[[('get', ''), ('out', '')], False]
>>> from letinside.facets import faceted
>>> from letinside.narrowed import keeps_out, weakest
>>> pairs_here = [("ann", "put")]
>>> [weakest(house, both, (("bob", "cup"),), pairs_here), keeps_out(house, both, (("bob", "cup"),), pairs_here, ("once",))]
[[('known',)], False]
>>> faceted(house, "ann", "buy", "once", "shopper").gates()[0].rules()[-1]
('shopper', 0, '', 3, False, ('cup',))
>>> from letinside.notation import show_code, show_deed, show_gate, show_wish
>>> from letinside.readers import read_code, read_gate
>>> show_gate(post)
'gate 1\\ndoors get put\\ncloset\\nrule get 0 - 0 - +kept\\nrule put 0 ? 0 keeps +kept\\n'
>>> [show_deed(("call", "ann", "buy", "")), show_wish((("ann", "cup"), ("bob", "cup"))), read_gate(show_gate(post)) == post]
['call ann buy -', 'ann cup, bob cup', True]
>>> show_code(("call", "box", "", ("it",), ("same", "it", "mine", ("end", ()), ("end", ("it",))), ("end", ())))
'call(box -: it ? same(it mine ? end() : end(it)) : end())'
"""


class ExamplesTest(unittest.TestCase):
    def test_examples(self):
        told = []
        test = doctest.DocTestParser().get_doctest(EXAMPLES, {}, "examples", "examples", 0)
        result = doctest.DocTestRunner(verbose=False).run(test, out=told.append)
        self.assertEqual("".join(told), "")
        self.assertEqual((result.failed, result.attempted), (0, 67))


if __name__ == "__main__":
    unittest.main()
