import copy
import itertools
import unittest

from shelfwork.deeds import is_deed, is_rules, size_of
from shelfwork.errors import NoText
from shelfwork.putting import put_in
from shelfwork.texts import read, written
from helper import FIFTEEN, ONE, RULES, TWO, Chance, chain, comb, name, number, row, say
from helper import read as read_of

# How each of the fifteen samples is written.
WRITINGS = {
    "number": "( number 7 )",
    "name": "( name x )",
    "read": "( read p )",
    "write": "( write b ( number 1 ) )",
    "add": "( add ( number 1 ) ( number 2 ) )",
    "less": "( less ( number 1 ) ( number 2 ) )",
    "then": "( then ( number 1 ) ( number 2 ) )",
    "if": "( if ( number 1 ) ( number 2 ) ( number 1 ) )",
    "loop": "( loop ( number 1 ) ( number 2 ) )",
    "let": "( let y ( number 1 ) ( name y ) )",
    "own": "( own q ( number 1 ) ( read q ) )",
    "say": "( say ( number 1 ) )",
    "ask": "( ask )",
    "do": "( do f )",
    "call": "( call 1 [ ( number 1 ) ] [ ( number 2 ) ] )",
}

# Rules with none to two names and handed deeds: none of both first, two of both last (but only four go at once).
HEADS = [(names, handed) for names in ((), ("x",), ("x", "y")) for handed in ((), ("f",), ("f", "g"))]

EXAMPLE = "( call 0 [ ( number 7 ) ] [ ( write a ( name x ) ) ] )"


def plain_written(deed):
    """A second way to write, by calls within calls."""
    if deed[0] == "call":
        tuples = ["[ " + "".join(plain_written(part) + " " for part in parts) + "]" for parts in deed[2:]]
        return "( call " + str(deed[1]) + " " + " ".join(tuples) + " )"
    return "( " + " ".join(plain_written(part) if isinstance(part, tuple) else str(part) for part in deed) + " )"


class Texts(unittest.TestCase):
    def refused(self, text, rules=RULES):
        with self.assertRaises(NoText) as caught:
            read(rules, text)
        self.assertIs(type(caught.exception), NoText)

    def both_ways(self, rules, deed, text):
        self.assertEqual(written(deed), text)
        self.assertEqual(read(rules, text), deed)


class Written(Texts):
    def test_each_of_the_fifteen(self):
        self.assertEqual(set(WRITINGS), set(FIFTEEN))
        for word, deed in FIFTEEN.items():
            self.assertEqual(written(deed), WRITINGS[word])
            self.assertEqual(written(deed), plain_written(deed))

    def test_the_example(self):
        self.assertEqual(written(("call", 0, (number(7),), (("write", "a", name("x")),))), EXAMPLE)

    def test_calls_with_none_to_two_worths_and_handed_deeds(self):
        texts = ("[ ]", "[ ( number 1 ) ]", "[ ( number 1 ) ( number 2 ) ]")
        for worths, handed in itertools.product(range(3), repeat=2):
            deed = ("call", 3, (ONE, TWO)[:worths], (ONE, TWO)[:handed])
            self.assertEqual(written(deed), "( call 3 " + texts[worths] + " " + texts[handed] + " )")

    def test_numbers_in_figures(self):
        for worth in (0, 1, 9, 10, 99, 100, 999, 1000, 1008):
            self.assertEqual(written(number(worth)), f"( number {worth} )")

    def test_names_with_figures(self):
        for text in ("x", "y0", "z00", "x999", "y007"):
            self.assertEqual(written(name(text)), f"( name {text} )")

    def test_calls_within_calls(self):
        inner = ("call", 0, (), ())
        self.assertEqual(written(("call", 1, (inner,), (("say", inner),))),
                         "( call 1 [ ( call 0 [ ] [ ] ) ] [ ( say ( call 0 [ ] [ ] ) ) ] )")

    def test_far_more_than_sixty(self):
        self.assertEqual(written(chain(5001)), "( say " * 5000 + "( number 1 )" + " )" * 5000)
        self.assertEqual(written(comb(5001)), "( add ( number 1 ) " * 2500 + "( number 1 )" + " )" * 2500)
        calls = ONE
        for _ in range(2000):
            calls = ("call", 1, (TWO,), (calls,))
        start = "( call 1 [ ( number 2 ) ] [ "
        self.assertEqual(written(calls), start * 2000 + "( number 1 )" + " ] )" * 2000)

    def test_one_that_was_told(self):
        rules = (((), ("f",), row(*[("do", "f")] * 20)),)
        deed = ("call", 0, (), (("call", 0, (), (say(1),)),))
        self.assertEqual(written(put_in(rules, deed)).count("( say ( number 1 ) )"), 400)

    def test_open_ones(self):
        self.assertEqual(written(("add", name("x"), ("do", "g"))), "( add ( name x ) ( do g ) )")


class Read(Texts):
    def test_each_of_the_fifteen(self):
        rules = RULES + ((("x",), ("f",), ONE),)
        for word, deed in FIFTEEN.items():
            if word == "do":
                continue
            whole = ("let", "x", ONE, ("own", "p", ONE, deed))
            self.both_ways(rules, whole, "( let x ( number 1 ) ( own p ( number 1 ) " + WRITINGS[word] + " ) )")
            if word not in ("name", "read"):
                self.both_ways(rules, deed, WRITINGS[word])

    def test_no_do_stands_in_a_deed(self):
        self.refused("( do f )")
        self.refused("( call 1 [ ( number 1 ) ] [ ( do f ) ] )")

    def test_calls_with_none_to_two_worths_and_handed_deeds(self):
        for names, handed in HEADS:
            rules = ((names, handed, ONE),)
            deed = ("call", 0, (ONE, TWO)[:len(names)], (TWO, ONE)[:len(handed)])
            self.both_ways(rules, deed, plain_written(deed))

    def test_the_example_by_rules(self):
        rules = ((("x",), ("f",), ONE),)
        self.refused(EXAMPLE, rules)
        whole = "( let x ( number 1 ) " + EXAMPLE + " )"
        self.both_ways(rules, ("let", "x", ONE, ("call", 0, (number(7),), (("write", "a", name("x")),))), whole)

    def test_numbers(self):
        for worth in (0, 1, 9, 10, 99, 100, 999, 1000, 1007, 1008):
            self.both_ways((), number(worth), f"( number {worth} )")

    def test_just_sixty_deeds(self):
        self.both_ways((), chain(60), written(chain(60)))
        self.both_ways((), comb(59), written(comb(59)))

    def test_what_is_read_is_made_of_tuples_texts_and_whole_numbers(self):
        told = read(RULES, "( call 1 [ ( number 1 ) ] [ ( read a ) ] )")
        self.assertEqual([type(part) for part in told], [str, int, tuple, tuple])
        self.assertEqual([type(part) for part in told[2][0]], [str, int])
        self.assertEqual([type(part) for part in told[3][0]], [str, str])


class NotWritten(Texts):
    good = ("( number 7 )", "( ask )", "( add ( number 1 ) ( read a ) )", "( let y ( number 1 ) ( name y ) )",
            "( call 1 [ ( number 1 ) ] [ ( number 2 ) ] )", "( call 0 [ ] [ ] )")

    def test_the_good_ones_are_read(self):
        for text in self.good:
            self.assertEqual(written(read(RULES, text)), text)

    def test_a_blank_too_many(self):
        for text in self.good:
            self.refused(" " + text)
            self.refused(text + " ")
            self.refused("  " + text + "  ")
            for place, sign in enumerate(text):
                if sign == " ":
                    self.refused(text[:place] + " " + text[place:])

    def test_a_blank_missing(self):
        for text in self.good:
            for place, sign in enumerate(text):
                if sign == " ":
                    self.refused(text[:place] + text[place + 1:])

    def test_a_word_missing(self):
        for text in self.good:
            words = text.split(" ")
            for place in range(len(words)):
                self.refused(" ".join(words[:place] + words[place + 1:]))

    def test_a_word_too_many(self):
        for text in self.good:
            words = text.split(" ")
            for place in range(len(words) + 1):
                for word in ("(", ")", "[", "]", "number", "7", "a", "x", "ask", "~", "!"):
                    self.refused(" ".join(words[:place] + [word] + words[place:]))

    def test_a_word_or_a_deed_twice(self):
        for text in self.good:
            words = text.split(" ")
            for place in range(len(words)):
                self.refused(" ".join(words[:place + 1] + words[place:]))
            self.refused(text + " " + text)

    def test_numbers_that_are_no_figures_of_a_worth(self):
        for word in ("+7", "-7", "-0", "07", "007", "00", "0007", "00007", "1009", "1010", "9999", "10000", "1_0",
                     "7.0", "7.", "1e1", "0x7", "seven", "x", "True", "None", "7,", "'7'", "9" * 50, "1" * 6000,
                     "0" * 6000 + "7"):
            self.refused(f"( number {word} )")
            self.refused(f"( say ( number {word} ) )")

    def test_numbers_of_rules_that_are_no_figures_of_one(self):
        for word in ("00", "+0", "-0", "-1", "-2", "2", "3", "10", "x", "(", "9" * 6000):
            self.refused(f"( call {word} [ ] [ ] )")
        for word in ("01", "+1", "-1", "2"):
            self.refused(f"( call {word} [ ( number 1 ) ] [ ( number 2 ) ] )")

    def test_a_name_that_is_not_known(self):
        for text in ("( name x )", "( read p )", "( write p ( number 1 ) )", "( do f )",
                     "( let x ( name x ) ( number 1 ) )", "( own p ( read p ) ( number 1 ) )",
                     "( let x ( number 1 ) ( name y ) )",
                     "( let x ( number 1 ) ( name x0 ) )", "( own p ( number 1 ) ( read q ) )",
                     "( add ( let x ( number 1 ) ( name x ) ) ( name x ) )",
                     "( call 1 [ ( name x ) ] [ ( number 1 ) ] )", "( call 1 [ ( number 1 ) ] [ ( name x ) ] )"):
            self.refused(text)

    def test_names_and_shelves_that_are_none(self):
        for word in ("a", "w", "xx", "x1000", "X", "x-1", "x ", "", "7", "f", "p"):
            self.refused(f"( let {word} ( number 1 ) ( number 2 ) )")
        for word in ("e", "A", "a0", "aa", "", "7", "x", "f", "p"):
            self.refused(f"( read {word} )")
            self.refused(f"( write {word} ( number 1 ) )")
        for word in ("a", "x", "P", "p1000", "", "7", "f"):
            self.refused(f"( own {word} ( number 1 ) ( number 2 ) )")

    def test_a_rule_that_there_is_none(self):
        self.refused("( call 0 [ ] [ ] )", ())
        self.refused("( call 2 [ ] [ ] )")
        self.refused("( call 1 [ ] [ ] )", RULES[:1])

    def test_a_call_with_too_few_or_too_many(self):
        part = " ( number 1 )"
        for worths, handed in itertools.product(range(4), repeat=2):
            text = "( call 1 [" + part * worths + " ] [" + part * handed + " ] )"
            if (worths, handed) == (1, 1):
                self.assertEqual(written(read(RULES, text)), text)
            else:
                self.refused(text)
        for names, handed in HEADS:
            for text in ("( call 0 [ ( number 1 ) ( number 1 ) ( number 1 ) ] [ ] )", "( call 0 )", "( call 0 [ ] )",
                         "( call 0 [ ] [ ] [ ] )", "( call [ ] [ ] )",
                         "( call 0 [ ] [ ( number 1 ) ( ask ) ( ask ) ] )"):
                self.refused(text, ((names, handed, ONE),))

    def test_too_few_or_too_many_parts(self):
        part = " ( number 1 )"
        counts = {"say": 1, "add": 2, "less": 2, "then": 2, "if": 3, "loop": 2, "ask": 0, "write a": 1, "let x": 2,
                  "own p": 2, "number 1": 0, "read a": 0, "number": None, "read": None, "write": None, "let": None,
                  "own": None, "do": None, "name": None, "call": None, "call 0": None, "": None}
        for words, right in counts.items():
            for count in range(5):
                text = "( " + words + part * count + " )"
                if count == right:
                    self.assertEqual(written(read(RULES, text)), text)
                else:
                    self.refused(text)

    def test_words_that_are_none(self):
        for word in ("Number", "numbers", "", "not", "touch", "7", "a", "number:", "(number"):
            self.refused(f"( {word} 7 )")
            self.refused(f"( {word} )")
            self.refused(f"( {word} ( number 1 ) ( number 2 ) )")

    def test_more_than_sixty_deeds(self):
        for deed in (chain(61), comb(61), chain(5001), comb(5001)):
            self.refused(written(deed))

    def test_empty_and_stray_texts(self):
        for text in ("", " ", "  ", "(", ")", "( )", "[", "]", "[ ]", "( [ ] )", ") (", "( ( ) )", "7", "number",
                     "number 7", "number 7 )", "( number 7", "( number 7 ) )", "( ( number 7 ) )", "( ( number 7 )",
                     "a", "~", "!", "( number 7 ) ( number 7 )", "( number 7 ) 7", "7 ( number 7 )", "(number 7)",
                     "( (", ") )"):
            self.refused(text)

    def test_deep_in_brackets(self):
        for sign in ("(", "[", "( say", "( ("):
            self.refused(" ".join([sign] * 5000))
        self.refused(" ".join(["("] * 5000 + [")"] * 5000))
        self.refused(" ".join(["( read"] * 5000 + [")"] * 5000))
        self.refused(" ".join(["( call"] * 5000 + [")"] * 5000))
        self.refused(" ".join([")"] * 5000))

    def test_brackets_of_the_wrong_kind(self):
        for text in self.good:
            for place, sign in enumerate(text):
                if sign in "()[]":
                    for other in "()[]{}<>":
                        if other != sign:
                            self.refused(text[:place] + other + text[place + 1:])
            self.refused(text.replace("(", "[").replace(")", "]"))
        self.refused("( call 0 ( ) ( ) )")
        self.refused("( call 1 ( ( number 1 ) ) ( ( number 2 ) ) )")
        self.refused("( call 1 [ [ number 1 ] ] [ ( number 2 ) ] )")
        self.refused("( add [ number 1 ] ( number 2 ) )")

    def test_each_sign_in_the_stead_of_another(self):
        signs = [chr(code) for code in range(ord(" "), ord("~") + 1)]
        text = "( call 1 [ ( number 10 ) ] [ ( read a ) ] )"
        for place in range(len(text)):
            for sign in signs:
                other = text[:place] + sign + text[place + 1:]
                try:
                    told = read(RULES, other)
                except NoText:
                    told = None
                if place == text.index("10"):
                    self.assertEqual(told is not None, sign in "123456789", other)
                elif place == text.index("10") + 1:
                    self.assertEqual(told is not None, sign in "0123456789", other)
                elif place == text.index("read a") + 5:
                    self.assertEqual(told is not None, sign in "abcd", other)
                else:
                    self.assertEqual(told is not None, other == text, other)

    def test_other_blanks(self):
        for blank in ("\t", "\n", "\u00a0"):
            self.refused("( number 7 )".replace(" ", blank))
            self.refused("( number 7 )" + blank)
        self.refused("( number \u0667 )")
        self.refused("( number \u00b2 )")


class ChanceTexts(Texts):
    def samples(self, count):
        for seed in range(count):
            chance = Chance(seed)
            rules = chance.rules()
            yield chance, rules, chance.deed(rules, (), chance.chance.choice([1, 2, 3, 4]))

    def test_they_read_back_as_what_they_write(self):
        back = 0
        for chance, rules, deed in self.samples(1500):
            text = written(deed)
            self.assertEqual(text, plain_written(deed))
            if size_of(deed) <= 60 and is_rules(rules):
                self.assertEqual(read(rules, text), deed)
                back += 1
            elif size_of(deed) > 60:
                self.refused(text, rules)
        self.assertGreater(back, 800)

    def test_unlike_deeds_have_unlike_writings(self):
        texts = {}
        for chance, rules, deed in self.samples(1500):
            self.assertEqual(texts.setdefault(written(deed), deed), deed)

    def changed(self, chance, words):
        words = list(words)
        place, other = chance.chance.randrange(len(words)), chance.chance.randrange(len(words))
        change = chance.chance.choice(["swap", "drop", "double", "take", "other", "other"])
        if change == "swap":
            words[place], words[other] = words[other], words[place]
        elif change == "drop":
            words.pop(place)
        elif change == "double":
            words.insert(place, words[place])
        elif change == "take":
            words[place] = words[other]
        else:
            plain = [each for each, word in enumerate(words) if word not in "()[]"]
            others = ["0", "5", "1008", "a", "d", "x", "add", "less", "then", "loop"]
            words[chance.chance.choice(plain)] = chance.chance.choice(others)
        return " ".join(words)

    def test_changed_texts_are_read_as_nothing_else(self):
        still = 0
        for chance, rules, deed in self.samples(600):
            for _ in range(4):
                text = self.changed(chance, written(deed).split(" "))
                try:
                    told = read(rules, text)
                except NoText:
                    continue
                self.assertTrue(is_deed(rules, told))
                self.assertEqual(plain_written(told), text)
                still += told != deed
        self.assertGreater(still, 40)

    def test_what_is_handed_in_stays_as_it_was_and_nothing_is_kept(self):
        for chance, rules, deed in self.samples(60):
            before = copy.deepcopy((rules, deed))
            text = written(deed)
            self.assertEqual(written(deed), text)
            if is_deed(rules, deed):
                self.assertEqual(read(rules, text), read(rules, text))
            self.assertEqual((rules, deed), before)


class ByRules(Texts):
    def test_the_same_text_by_other_rules(self):
        text = "( call 0 [ ( number 1 ) ] [ ] )"
        for names, handed in HEADS:
            rules = ((names, handed, ONE),)
            if (len(names), len(handed)) == (1, 0):
                self.assertEqual(read(rules, text), ("call", 0, (ONE,), ()))
            else:
                self.refused(text, rules)

    def test_a_body_of_a_rule_is_not_read(self):
        for rule in RULES[1:]:
            self.refused(written(rule[2]))
        self.assertEqual(read(RULES, written(RULES[0][2])), RULES[0][2])

    def test_shelves(self):
        for shelf in "abcd":
            self.both_ways((), read_of(shelf), f"( read {shelf} )")
            self.both_ways((), ("write", shelf, ONE), f"( write {shelf} ( number 1 ) )")


if __name__ == "__main__":
    unittest.main()
