"""Ropes among pegs, and the taut one of each."""
