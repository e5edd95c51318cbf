"""Tests that must answer in seconds at most."""

import time
import unittest

# Each of these tests takes a few seconds at most here; what is slow in its nature takes minutes.
SECONDS = 20


class TimedTest(unittest.TestCase):

    def setUp(self):
        self.began = time.perf_counter()

    def tearDown(self):
        self.assertLess(time.perf_counter() - self.began, SECONDS)
