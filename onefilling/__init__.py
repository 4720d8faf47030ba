"""Onefilling: puzzles with one filling, their reasons, their hardness, their games."""
