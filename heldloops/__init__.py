"""Knitting charts compiled to code of a machine with two beds of needles."""
