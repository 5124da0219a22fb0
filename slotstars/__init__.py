"""Slotstars: windings of machines whose field turns, decided for all harmonics, currents and moments."""
