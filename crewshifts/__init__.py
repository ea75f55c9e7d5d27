"""Crews on shifts: the fewest so that enough are there at each minute, from either end, each with a witness; people."""
