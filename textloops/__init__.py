"""Textloops: programs that go over a text in loops within loops."""
