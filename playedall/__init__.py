"""Playedall: rounds in which each plays each."""
