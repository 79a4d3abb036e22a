"""Promises 61 and 62: texts of flows."""

import random
import re
import unittest

from support import KINDS, ODD, Case, ask, some_flow, some_flows, some_vector

from wirebeats.errors import BadFlow, BadText
from wirebeats.flows import flow_error
from wirebeats.flowtexts import beats_text, flow_text, numbers_text, parse_flow, rule_text, vector_text

INTEGER = r"(?:0|-?[1-9][0-9]{0,11})"
TEXT = "2 / add 0@1,0 1@0,-1 / copy 0@0,0"


def first_wrong_word(text):
    """The index that BadText has for this text, or None if the text has the form of a flow."""
    words = text.split(" ")
    if words[0] not in ("2", "3"):
        return 0
    read = re.compile(r"(?:0|[1-9][0-9]{0,11})@" + ",".join([INTEGER] * int(words[0])))
    wanted, rules = [], 0
    for index, word in enumerate(words[1:], start=1):
        if wanted:
            form = wanted.pop(0)
            if form == "kind" and word in KINDS:
                wanted = ["read"] * KINDS[word]
                rules += 1
            elif form == "kind" or not read.fullmatch(word):
                return index
        elif word == "/":
            wanted = ["kind"]
        else:
            return index
    return len(words) if wanted or not rules else None


def flow_with(text):
    """The flow of a text that has the form of one; it need not be a flow."""
    dims, *rules = text.split(" / ")
    found = []
    for rule in rules:
        kind, *reads = rule.split(" ")
        pairs = [read.split("@") for read in reads]
        found.append((kind, *[(int(q), tuple(int(item) for item in d.split(","))) for q, d in pairs]))
    return (int(dims), tuple(found))


class Texts(Case):
    def test_vectors_and_numbers(self):
        for items in ((1, -20), (0, 0, 0), (5,), (-1, 10 ** 39, -10 ** 39), (10, 100), (-60, 60), ()):
            self.same(ask(vector_text, items), ",".join(f"{item:d}" for item in items))
            self.same(ask(numbers_text, items), " ".join(f"{item:d}" for item in items))
        rng = random.Random(81)
        for _ in range(100):
            items = some_vector(rng, rng.randint(1, 6), rng.choice((3, 100, 10 ** 20)))
            self.same(ask(vector_text, items), ",".join(f"{item:d}" for item in items))
            self.same(ask(numbers_text, items), " ".join(f"{item:d}" for item in items))

    def test_beats(self):
        for value, text in ((((2, -1), (0, 1)), "2,-1 0 1"), (((0, 0, -60), (-10000,)), "0,0,-60 -10000"),
                            (((1, 1), (3, 2, 1, 0, -1, 10000)), "1,1 3 2 1 0 -1 10000")):
            self.same(ask(beats_text, value), text)

    def test_rules(self):
        for rule, text in ((("neg", (0, (1, 0))), "neg 0@1,0"), (("madd", (5, (-4, 4, 0)), (0, (0, 0, 0)), (2, (1, -1, 1))),
                                                                  "madd 5@-4,4,0 0@0,0,0 2@1,-1,1"),
                           (("least", (1, (0, 0)), (0, (3, -3))), "least 1@0,0 0@3,-3")):
            self.same(ask(rule_text, rule), text)

    def test_flows(self):
        self.same(ask(flow_text, flow_with(TEXT)), TEXT)
        for flow in some_flows(82, 80):
            words = [str(flow[0])]
            for kind, *reads in flow[1]:
                words += ["/", kind] + [f"{q}@" + ",".join(str(item) for item in d) for q, d in reads]
            self.same(ask(flow_text, flow), " ".join(words))
            self.same(ask(rule_text, flow[1][0]), flow_text(flow).split(" / ")[1])


class ParseFlow(Case):
    def check(self, text):
        index = first_wrong_word(text)
        if index is not None:
            self.raises(BadText, {"index": index}, parse_flow, text)
            return "text"
        flow = flow_with(text)
        error = flow_error(flow)
        if error is not None:
            self.raises(BadFlow, {"error": error}, parse_flow, text)
            return "flow"
        self.same(ask(parse_flow, text), flow)
        self.assertEqual(flow_text(flow), text)
        return "right"

    def bad(self, text, index):
        self.same(first_wrong_word(text), index, text)
        self.raises(BadText, {"index": index}, parse_flow, text)

    def test_there_and_back(self):
        for flow in some_flows(83, 200):
            self.same(ask(parse_flow, flow_text(flow)), flow)

    def test_no_strings(self):
        for value in ODD + ([TEXT], (TEXT,), {TEXT: 1}, flow_with(TEXT), 2):
            if not isinstance(value, str):
                self.raises(BadText, {"index": None}, parse_flow, value)

    def test_odd_strings(self):
        for value in ODD:
            if isinstance(value, str):
                self.check(value)

    def test_first_word(self):
        for word in ("", "1", "4", "02", "+2", "-2", "2.", "two", "/", "2\n", "\n2", "22", "2,", "0", "-0", "2/"):
            self.bad(word + TEXT[1:], 0)
            self.bad(word, 0)
        self.bad(" " + TEXT, 0)

    def test_ends_too_early(self):
        words = TEXT.split(" ")
        for many in range(1, len(words)):
            text = " ".join(words[:many])
            if many == 5:
                self.same(ask(parse_flow, "2 / add 0@1,0 0@0,-1"), flow_with("2 / add 0@1,0 0@0,-1"))
                self.raises(BadFlow, {"error": ((0, 1), "source")}, parse_flow, text)
            else:
                self.bad(text, many)
        self.bad("2", 1)
        self.bad("3 / madd 0@0,0,0 0@0,0,0", 5)

    def test_spaces(self):
        for at, sign in enumerate(TEXT):
            if sign == " ":
                self.bad(TEXT[:at] + " " + TEXT[at:], TEXT[:at + 1].count(" "))
        self.bad(TEXT + " ", 8)
        self.bad("2 ", 1)
        self.bad("2 / ", 2)
        self.bad("2 / neg ", 3)
        self.bad(" ", 0)
        self.bad(TEXT.replace(" / ", "\n/\n"), 0)
        self.bad("2 / neg\n0@0,0", 2)
        self.bad("2 / neg 0@0,0\n", 3)

    def test_words(self):
        for word in ("\\", "//", "", "neg", "0@0,0", "|"):
            self.bad(f"2 {word} neg 0@0,0", 1)
            self.bad(f"2 / neg 0@0,0 {word} neg 0@0,0", 4)
        for word in ("", "/", "Neg", "NEG", "negg", "ne", "plus", "0@0,0", "neg,", "neg@0"):
            self.bad(f"2 / {word} 0@0,0", 2)
        self.bad("2 / neg 0@0,0 0@0,0", 4)
        self.bad("2 / add 0@0,0 / neg 0@0,0", 4)
        self.bad("2 / neg / neg 0@0,0", 3)
        self.bad("2 / / neg 0@0,0", 2)
        self.bad("2 / neg 0@0,0 /", 5)

    def test_reads(self):
        for word in ("0@0", "0@0,0,0", "0@", "@0,0", "0", "0,0", "0@@0,0", "0@0,0@0", "0@0@0", "-1@0,0", "-0@0,0", "00@0,0",
                     "01@0,0", "+0@0,0", "0@01,0", "0@0,+1", "0@-0,0", "0@0,-0", "0@0,00", "0@0,-01", "0@0,--1", "0@0,1-",
                     "0@,", "0@0,", "0@,0", "0@0.0,0", "0@1_0,0", "1_0@0,0", "a@0,0", "0@a,0", "0x0@0,0", "0@0,1e1",
                     "0@1000000000000,0", "0@0,-1000000000000", "1000000000000@0,0", "0@0;0", "0@0,0/", "-@0,0", "0@-,0",
                     "0@0,0\n", "\n0@0,0", "0\n@0,0", "0@\n0,0", "0@0,\n0", "0@0\n,0", "0@" + "9" * 5000 + ",0"):
            self.bad(f"2 / add {word} 0@0,0", 3)
            self.bad(f"2 / add 0@0,0 {word}", 4)
        self.bad("3 / neg 0@0,0", 3)

    def test_twelve_digits(self):
        great = "9" * 12
        self.raises(BadFlow, {"error": ((0, 0), "distance")}, parse_flow, f"2 / neg 0@{great},0")
        self.raises(BadFlow, {"error": ((0, 0), "distance")}, parse_flow, f"2 / neg 0@0,-{great}")
        self.raises(BadFlow, {"error": ((0, 0), "source")}, parse_flow, f"2 / neg {great}@0,{great}")
        self.bad(f"2 / neg 0@0,-{great}0", 3)

    def test_no_flows(self):
        rule = " / neg 0@0,0"
        self.same(ask(parse_flow, "2" + rule * 6)[1], (("neg", (0, (0, 0))),) * 6)
        self.raises(BadFlow, {"error": (None, "rules")}, parse_flow, "2" + rule * 7)
        self.raises(BadFlow, {"error": (None, "rules")}, parse_flow, "2" + rule * 600)
        self.bad("2" + rule * 7 + " /", 23)
        self.bad("2" + rule * 7 + "0 ", 21)
        self.raises(BadFlow, {"error": ((0, 0), "source")}, parse_flow, "2 / neg 1@0,0")
        self.raises(BadFlow, {"error": ((1, 0), "distance")}, parse_flow, "2 / neg 1@0,0 / copy 0@5,0")
        self.raises(BadFlow, {"error": ((0, 0), "distance")}, parse_flow, "3 / neg 0@0,0,-5 / copy 2@0,0,0")

    def test_damaged_texts(self):
        rng = random.Random(84)
        signs = "0123456789-+@,/ abcdn\n_."
        seen = {"text": 0, "flow": 0, "right": 0}
        for at in range(400):
            text = flow_text(some_flow(rng, 2 + at % 2, 1 + at % 3))
            place = rng.randrange(len(text) + 1)
            words = text.split(" ")
            word = rng.randrange(len(words))
            for other in (text[:place] + text[place + 1:], text[:place] + rng.choice(signs) + text[place:],
                          text[:place] + rng.choice(signs) + text[place + 1:], text[:place], text[place:],
                          " ".join(words[:word] + words[word + 1:]), " ".join(words[:word] + words[word:word + 1] * 2),
                          " ".join(words[:word] + words[word:][::-1]), " ".join(words[:word]), text + " " + words[word]):
                seen[self.check(other)] += 1
            one, other = sorted((word, rng.randrange(len(words))))
            words[one], words[other] = words[other], words[one]
            seen[self.check(" ".join(words))] += 1
        self.assertGreater(min(seen.values()), 30)


if __name__ == "__main__":
    unittest.main()
