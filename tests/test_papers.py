"""Points [102] to [108]: texts."""

import random
import re
import unittest

from calls import EMPTY, NO_STORES, STORE
from owncuts import errors, papers
from owncuts.grounds import Ground
from owncuts.orders import is_order
from owncuts.papers import (
    ground_text, order_text, read_ground, read_order, read_row, read_rounds, read_rule, read_store, row_text, rounds_text,
    rule_text, store_text)
from owncuts.pieces import is_told, pieces, told_of, told_text
from owncuts.rounds import are_rounds, rounds_of
from owncuts.rules import is_rule
from owncuts.store import Store, called, drop, put, store_of, swept
from support import ANY_OBJECTS, GROUND, NO_ROWS, NO_RULES, ORDER, PAIRS, PLAIN, ROUNDS, TWO, some_orders

ROW = [("a",), ("a", "b", 12, "", "a"), ("abbab",), ("b", "ab", 10 ** 29, "a", "a"), ("a",)]
RULE = (["aab", "aba", "bbb"], 1)
NUMBER = "(?:0|[1-9][0-9]*)"


def some_stores():
    yield EMPTY
    yield STORE
    yield swept(drop(STORE, "notes", 0))
    yield drop(drop(STORE, "notes", 0), "notes", 1)
    yield called(put(STORE, "b", ""), "notes", "a")
    yield store_of(PAIRS, PLAIN, {"x": [None, "ab" * 20, "", None], "abcdefgh": ["c" + "b" * 50 + "a"]}, ["cc", "abbbba", "cbbbbba"])
    yield put(put(Store(GROUND, ORDER), "log", "aabbbbbaabababababab"), "log", "bbbb")
    yield store_of(TWO, ["ba", "ab"], {}, ["a" + "b" * 900 + "a", "ab"])


def bent(text):
    """Strings near one, each bent in one place."""
    lines = text.split("\n")[:-1]
    for at, line in enumerate(lines):
        ahead, behind = lines[:at], lines[at + 1:]
        parts = line.split(" ")
        others = [[], [line, line], [line + " "], [" " + line], [line.replace(" ", "  ", 1)], [line + "\r"], [line + "\t"], [line, ""],
                  ["", line], [line.upper()], [line.replace(" ", "\t", 1)], [line.title()], [line + " a"], [line + " 1"], [line + " -"],
                  [line[:-1]], [line + "a"], ["x " + line], [" ".join(parts[1:])], [" ".join(parts[:-1])], [" ".join(parts[::-1])],
                  [line + "\x0b"], [line + "\x85"], [line + "\u2028"]]
        for position, part in enumerate(parts):
            for other in bent_parts(part):
                others.append([" ".join(parts[:position] + [other] + parts[position + 1:])])
        for other in others:
            yield "".join([row + "\n" for row in ahead + other + behind])
        if behind:
            yield "".join([row + "\n" for row in ahead + behind[:1] + [line] + behind[1:]])
            yield "".join([row + "\n" for row in behind + [line]])
            yield "\n".join(ahead) + "\n" * (at > 0) + line + " " + "\n".join(behind) + "\n"
    yield from [text[:-1], text + "\n", "\n" + text, text + " ", text.replace("\n", "\r\n"), text.replace("\n", "\r"),
                text.replace("\n", " "), text * 2, text + "ground ab 2\n", "", "\n", text.replace(" ", ""), "\ufeff" + text]


def bent_parts(part):
    if part.isdigit():
        yield from ["+" + part, "0" + part, "-" + part, part + "_0", part[0] + "_" + part[1:], part + ".0", " " + part, part + "0" * 40,
                    str(int(part) + 1), str(max(int(part) - 1, 0)), "", "-", "\u0661", "\u00b2", "a", part + "e0", "0x" + part, "0"]
    elif part == "-":
        yield from ["", "--", "a", "0", " ", "_"]
    else:
        yield from ["", "-", part + "a", part[1:], part[:-1], part.upper(), part[::-1], "1", "abc", "b" * len(part), "aab", part + "-"]


def strict(kind, text):
    """What a paper tells, told by patterns and what is right; None if it is none."""
    told = re.fullmatch(f"ground ([a-z]+) ({NUMBER})\n((?:.*\n)*)", text, re.ASCII)
    if not told:
        return None
    try:
        ground = Ground(told[1], int(told[2]))
    except errors.CutError:
        return None
    # So wide a ground has more windows than any paper here.
    if len(told[2]) > 2 and kind in ("order", "rounds"):
        return None
    lines = told[3].split("\n")[:-1]
    if kind == "ground":
        return (ground,) if not lines else None
    found = {"order": strict_order, "rounds": strict_rounds, "row": strict_row, "rule": strict_rule}[kind](ground, lines)
    return None if found is None else (ground, found)


def all_match(pattern, lines):
    found = [re.fullmatch(pattern, line, re.ASCII) for line in lines]
    return found if all(found) else None


def strict_order(ground, lines):
    found = all_match("window ([a-z]+)", lines)
    order = [one[1] for one in found or []]
    return order if found and is_order(ground, order) else None


def strict_rounds(ground, lines):
    found = all_match("round ((?:[a-z]+ )*[a-z]+)", lines)
    rows = [one[1].split(" ") for one in found or []]
    return rows if found and are_rounds(ground, rows) else None


def strict_row(ground, lines):
    row = []
    for line in lines:
        short = re.fullmatch("short ([a-z]+)", line, re.ASCII)
        long = re.fullmatch(f"long ([a-z]) ([a-z]+) ({NUMBER}) ([a-z]+|-) ([a-z])", line, re.ASCII)
        if short:
            row.append((short[1],))
        elif long:
            row.append((long[1], long[2], int(long[3]), "" if long[4] == "-" else long[4], long[5]))
        else:
            return None
    return row if all(is_told(ground, told) for told in row) else None


def strict_rule(ground, lines):
    at = all_match(f"rule ({NUMBER})", lines[:1])
    words = all_match("word ([a-z]+)", lines[1:])
    if not at or words is None:
        return None
    rule = ([one[1] for one in words], int(at[0][1]))
    return rule if is_rule(ground, rule) else None


class Papers(unittest.TestCase):
    def refused(self, reader, text):
        with self.assertRaises(errors.InvalidPaper, msg=text) as told:
            reader(text)
        self.assertIs(told.exception.value, text)

    def test_grounds(self):
        self.assertEqual(ground_text(PAIRS), "ground abc 2\n")
        for ground in (TWO, PAIRS, GROUND, Ground("abcdefghijklmnopqrstuvwxyz", 60), Ground("xz", 10)):
            text = ground_text(ground)
            self.assertEqual(text, f"ground {ground.signs()} {ground.gap()}\n")
            self.assertEqual(read_ground(text), ground)

    def test_orders(self):
        for ground in (TWO, PAIRS, GROUND):
            for order in some_orders(ground):
                text = order_text(ground, order)
                self.assertEqual(text, ground_text(ground) + "".join(f"window {window}\n" for window in order))
                self.assertEqual(read_order(text), (ground, order))

    def test_rounds(self):
        for ground in (TWO, PAIRS, GROUND):
            for order in some_orders(ground):
                rounds = rounds_of(ground, order)
                text = rounds_text(ground, rounds)
                self.assertEqual(text, ground_text(ground) + "".join("round " + " ".join(row) + "\n" for row in rounds))
                self.assertEqual(read_rounds(text), (ground, rounds))

    def test_rows(self):
        self.assertEqual(row_text(GROUND, ROW), (
            "ground ab 3\nshort a\nlong a b 12 - a\nshort abbab\nlong b ab 100000000000000000000000000000 a a\nshort a\n"))
        dice = random.Random(1)
        for _ in range(20):
            text = "".join(dice.choices("ab", k=8)) + "ab" * 9 + "".join(dice.choices("ab", k=8)) + "b" * 9
            row = told_text(GROUND, ORDER, text)
            self.assertEqual(read_row(row_text(GROUND, row)), (GROUND, row))
        for row in ([], ROW, ROW[1:2]):
            self.assertEqual(read_row(row_text(GROUND, row)), (GROUND, row))
        for row in NO_ROWS:
            with self.assertRaises(errors.InvalidPieces) as told:
                row_text(GROUND, row)
            self.assertIs(told.exception.value, row)

    def test_rules(self):
        self.assertEqual(rule_text(GROUND, RULE), "ground ab 3\nrule 1\nword aab\nword aba\nword bbb\n")
        for rule in (RULE, (["a"], 0), (["ab" * 10], 20), (["ab" * 10, "ba" * 10], 13)):
            self.assertEqual(read_rule(rule_text(GROUND, rule)), (GROUND, rule))
        for rule in NO_RULES:
            with self.assertRaises(errors.InvalidRule) as told:
                rule_text(GROUND, rule)
            self.assertIs(told.exception.value, rule)

    def test_stores(self):
        for store in some_stores():
            text = store_text(store)
            self.assertEqual(text, self.plain_store_text(store))
            late = read_store(text)
            self.assertIs(type(late), Store)
            self.assertEqual(late, store)
            self.assertEqual(store_text(late), text)
        for value in NO_STORES:
            with self.assertRaises(errors.InvalidStore) as told:
                store_text(value)
            self.assertIs(told.exception.value, value)

    def plain_store_text(self, store):
        ground, order = store.ground(), store.order()

        def lines(words):
            return row_text(ground, [told_of(ground, word) for word in words]).split("\n", 1)[1]

        text = order_text(ground, order)
        used = set()
        for name, row in store.history().items():
            text += f"name {name}\n"
            for version in row:
                told = None if version is None else pieces(ground, order, version)
                text += "dropped\n" if told is None else f"version {len(told)}\n" + lines(told)
                used.update(told or [])
        left = sorted(set(store.kept()) - used)
        return text + f"kept {len(left)}\n" + lines(left)

    def test_readers_take_exactly_what_writers_make(self):
        papers_of = [("ground", read_ground, ground_text(PAIRS)), ("ground", read_ground, ground_text(Ground("ab", 10))),
                     ("order", read_order, order_text(PAIRS, PLAIN)), ("order", read_order, order_text(TWO, ["ba", "ab"])),
                     ("rounds", read_rounds, rounds_text(PAIRS, ROUNDS)), ("row", read_row, row_text(GROUND, ROW)),
                     ("rule", read_rule, rule_text(GROUND, RULE)), ("row", read_row, row_text(PAIRS, [])),
                     ("rule", read_rule, rule_text(GROUND, (["ab" * 10], 10)))]
        yes = 0
        for kind, reader, text in papers_of:
            for other in bent(text):
                right = strict(kind, other)
                if right is None:
                    self.refused(reader, other)
                else:
                    yes += 1
                    self.assertEqual(reader(other), right if kind != "ground" else right[0], other)
                    writer = getattr(papers, kind + "_text")
                    self.assertEqual(writer(*right), other)
        self.assertGreater(yes, 20)

    def test_no_other_reader_takes_a_paper(self):
        written = [
            (read_ground, ground_text(PAIRS)), (read_order, order_text(PAIRS, PLAIN)), (read_rounds, rounds_text(PAIRS, ROUNDS)),
            (read_rule, rule_text(GROUND, RULE)), (read_store, store_text(STORE)), (read_row, row_text(GROUND, ROW))]
        for reader, _ in written:
            for other, text in written:
                # A ground alone is also an empty list of told words.
                if reader != other and (reader, other) != (read_row, read_ground):
                    self.refused(reader, text)

    def test_other_things_are_no_papers(self):
        for reader in (read_ground, read_order, read_rounds, read_row, read_rule, read_store):
            for value in ANY_OBJECTS + [["ground ab 2\n"], ("ground ab 2\n",), b"ground ab 2\n", PAIRS, STORE, "ground", "ground ab 1\n"]:
                self.refused(reader, value)

    def test_stores_bent(self):
        yes = 0
        for store in some_stores():
            text = store_text(store)
            for other in bent(text):
                if other == text:
                    continue
                try:
                    late = read_store(other)
                except errors.InvalidPaper as error:
                    self.assertIs(error.value, other)
                else:
                    # It is another store's, or it would have been refused.
                    yes += 1
                    self.assertNotEqual(late, store)
                    self.assertEqual(self.plain_store_text(late), other)
        self.assertGreater(yes, 20)

    def test_what_is_no_stores_paper(self):
        text = store_text(store_of(TWO, ["ab", "ba"], {"a": ["abba", None], "b": [""]}, ["bab"]))
        self.assertEqual(text, (
            "ground ab 2\nwindow ab\nwindow ba\nname a\nversion 3\nshort a\nshort bb\nshort a\ndropped\nname b\nversion 0\n"
            "kept 1\nshort bab\n"))
        for one, other in (
            ("window ba\nname", "name"), ("name a\n", "name c\n"), ("name b\n", "name a\n"), ("name a\n", ""),
            ("name b\nversion 0\n", "name b\n"), ("version 3", "version 2"), ("version 3", "version 03"), ("short bb", "short b"),
            ("short bb\nshort a\n", "short bba\n"), ("short a\nshort bb", "short ab\nshort b"), ("dropped", "dropped "),
            ("dropped", "dropped 0"), ("dropped\n", "version\n"), ("kept 1\nshort bab\n", ""), ("kept 1", "kept 0"), ("kept 1", "kept 2"),
            ("kept 1\nshort bab\n", "kept 0\n" + "kept 0\n"), ("short bab", "short bb"), ("short bab\n", "short bab\nshort bab\n"),
            ("kept 1\nshort bab", "kept 2\nshort bab\nshort aba"), ("kept 1\nshort bab", "kept 2\nshort bab\nshort bab"),
            ("kept 1\nshort bab", "kept 1\nlong a b 1 - a"), ("kept 1\nshort bab", "kept 1\nshort babb"),
            ("kept 1\nshort bab", "kept 1\nlong a b " + "9" * 30 + " - a\nshort bab"), ("ground ab 2", "ground ab 3"),
            ("name b\nversion 0\n", "name b\nversion 1\nlong a b " + "9" * 30 + " - a\n"), ("short bab", "short ba\nshort b"),
            ("name b\nversion 0\nkept 1\nshort bab\n", "kept 1\nshort bab\nname b\nversion 0\n"), ("name b", "name abcdefghi"),
            ("version 0\n", "version 0\nshort a\n"), ("name a\n", "short a\nname a\n"), ("name a\n", "dropped\nname a\n"),
        ):
            self.assertEqual(text.count(one), 1, one)
            self.refused(read_store, text.replace(one, other))
        for one, other, history, more in (
            ("name b\nversion 0\n", "", {"a": ["abba", None]}, ["bab"]), ("name b\n", "", {"a": ["abba", None, ""]}, ["bab"]),
            ("dropped\n", "", {"a": ["abba"], "b": [""]}, ["bab"]),
            ("kept 1\nshort bab", "kept 0", {"a": ["abba", None], "b": [""]}, []),
            ("kept 1\nshort bab", "kept 2\nshort aba\nshort bab", {"a": ["abba", None], "b": [""]}, ["aba", "bab"]),
            ("version 0\n", "version 1\nshort a\n", {"a": ["abba", None], "b": ["a"]}, ["bab"]),
            ("version 0\n", "version 0\ndropped\n", {"a": ["abba", None], "b": ["", None]}, ["bab"]),
        ):
            self.assertEqual(read_store(text.replace(one, other)), store_of(TWO, ["ab", "ba"], history, more))

    def test_numbers_of_very_many_figures(self):
        for text in ("ground ab " + "9" * 5000 + "\n", "ground ab 2\nlong a b " + "9" * 5000 + " - a\n",
                     "ground ab 2\nrule " + "9" * 5000 + "\nword ab\n"):
            for reader in (read_ground, read_order, read_row, read_rule, read_store):
                self.refused(reader, text)
        text = store_text(put(Store(TWO, ["ab", "ba"]), "a", "abbbba"))
        self.assertEqual(text.count("long b b 2 - b"), 1)
        for times in (10 ** 29, 10 ** 12):
            self.refused(read_store, text.replace("long b b 2 - b", f"long b b {times} - b"))

    def test_versions_of_1000_signs(self):
        dice = random.Random(6)
        for version in ("a" + "b" * 998 + "a", "".join(dice.choices("ab", k=1000)), "ab" * 500):
            store = put(Store(GROUND, ORDER), "a", version)
            text = store_text(store)
            self.assertEqual(read_store(text), store)


if __name__ == "__main__":
    unittest.main()
