"""The tests of stairlaid."""
