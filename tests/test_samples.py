"""Tests of slackstrings.samples."""

import unittest

from slackstrings.puppets import Puppet
from slackstrings.samples import stick_man, two_lines


class SamplesTest(unittest.TestCase):

    def test_stick_man(self):
        ties = (("body", "hand", 4), ("body", "foot", 6))
        strings = (("a", "B", "body"), ("b", "H", "hand"), ("c", "F", "foot"))
        expected = Puppet(("body", "hand", "foot"), ties, "BFH", strings)
        puppet = stick_man()
        self.assertIs(type(puppet), Puppet)
        self.assertEqual(puppet, expected)
        self.assertEqual([puppet.parts, puppet.hooks, puppet.names], [("body", "hand", "foot"), "BFH", "abc"])
        self.assertEqual([puppet.ties, puppet.strings], [ties, strings])

    def test_two_lines(self):
        strings = (("a", "A", "load"), ("b", "B", "load"))
        puppet = two_lines()
        self.assertIs(type(puppet), Puppet)
        self.assertEqual(puppet, Puppet(("load",), (), "AB", strings))
        self.assertEqual([puppet.parts, puppet.ties, puppet.hooks, puppet.strings, puppet.names],
                         [("load",), (), "AB", strings, "ab"])

    def test_new_ones_each_time(self):
        for made in (stick_man, two_lines):
            self.assertIsNot(made(), made())
            self.assertIs(made() == made(), True)
        self.assertIs(stick_man() == two_lines(), False)
