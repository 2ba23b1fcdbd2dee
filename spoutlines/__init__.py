"""Spoutlines: all jets of a spout, decided at once."""
