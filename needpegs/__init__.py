"""Needpegs: boards of pegs that need one another and bar one another."""
