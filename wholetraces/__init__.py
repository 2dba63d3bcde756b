"""Wholetraces: which parts of a trace are kept."""
